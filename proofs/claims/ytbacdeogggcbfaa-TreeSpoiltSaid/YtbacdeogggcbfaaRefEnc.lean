/-
  The contract of the document's own Encode: a page of any rows at any level, or none.
-/
import Derived.Test.YtbacdeogggcbfaaEncD
import Derived.Test.YtbacdeogggcbfaaGRefs
import Derived.Test.YtbacdeogggcbfaaCRefSeal
import Derived.Test.YtbacdeogggcbfaaReg
import Derived.Deep.QuietTactic
import Derived.BigQuiet
namespace Go.Proofs.Ytbacdeogggcbfaa
open Go.RowKit Go.Rst Go.Pg Go.Crc

/-- A row that is a page under way. -/
def PR (w : World) (g : Nat) (P : List UInt8) : Prop := P.length = 252 ∧ Blk w g 5 (bvs P).toArray
theorem PR.lt {w : World} {g : Nat} {P : List UInt8} (h : PR w g P) : g < w.heap.size := h.2.lt
theorem PR.start {w : World} {lev n : UInt8} {Z : List Value} (hZ : Z = bvs (List.replicate 252 0)) :
    PR (w.alloc (.cells ((Z.toArray.setIfInBounds 0 (bv lev)).setIfInBounds 1 (bv n)) 5)) w.heap.size (pageA lev n [] []) := by
  subst hZ
  refine ⟨by rw [pageA_length (by simp)], ?_⟩
  have e2 : bvs (List.replicate 252 (0 : UInt8)) = bv 0 :: bv 0 :: bvs (List.replicate 250 0) := by
    rw [show (252 : Nat) = 250 + 1 + 1 from rfl, List.replicate_succ, List.replicate_succ]
    rfl
  have e : (((bvs (List.replicate 252 0)).toArray.setIfInBounds 0 (bv lev)).setIfInBounds 1 (bv n)) = (bvs (pageA lev n [] [])).toArray := by
    rw [pageA_nil, e2, List.setIfInBounds_toArray, List.setIfInBounds_toArray, List.set_cons_zero, List.set_cons_succ, List.set_cons_zero]
    rfl
  rw [e]
  exact heap_alloc_new w _
theorem PR.below {B : Nat} {w w' : World} {g : Nat} {P : List UInt8} (h : PR w g P) (hb : Below B w w') (hg : g < B) : PR w' g P := ⟨h.1, h.2.below hb hg⟩
theorem PR.rb {w : World} {g : Nat} {P : List UInt8} (h : PR w g P) : RB w (.slice (some ⟨g, 0, none⟩) 252 252) P := by
  refine ⟨_, 252, by rw [h.1], by rw [h.1]; decide, by decide, .inr ⟨g, 0, rfl, h.2.lt, fun j hj => ?_⟩⟩
  rw [Nat.zero_add, h.2.cell, bva_get hj]
theorem PR.set_ {w : World} {g : Nat} {P : List UInt8} (h : PR w g P) (k : Nat) (c : UInt8) : PR (w.setCell ⟨g, k, none⟩ (bv c)) g (P.set k c) := by
  refine ⟨by rw [List.length_set, h.1], ?_⟩
  have := h.2.set_ k (bv c)
  have e : (bvs P).toArray.setIfInBounds k (bv c) = (bvs (P.set k c)).toArray := by
    rw [List.setIfInBounds_toArray]
    unfold bvs
    rw [← List.map_set]
  rw [e] at this
  exact this
theorem PR.any {w : World} {g : Nat} {P : List UInt8} (h : PR w g P) {k : Nat} (hk : k < 252) : ∃ x : UInt8, w.cell? ⟨g, k, none⟩ = some (bv x) :=
  ⟨_, (h.2.cell k).trans (bva_get (by rw [h.1]; exact hk))⟩
theorem make252 : ∀ w, (Instr.makeSlice 23 (.int .i64 252) (.int .i64 252)).run Try.prog w = .ok (.slice (some ⟨w.heap.size, 0, none⟩) 252 252) (w.alloc (.cells (bvs (List.replicate 252 0)).toArray 5)) := fun _ => by kernel_rfl

set_option maxRecDepth 100000 in
set_option maxHeartbeats 1600000 in
theorem refEnc_low (lev : Int) (h : lev < 0 ∨ 4 < lev) (v : Value) (rs : List Rw) (w : World) (hv : RR w v rs) :
    Calls Try.prog 40 #[.int .i64 lev, v] w (GivesEnc w lev rs) := by
  have E := Lib.hid (show pageOk lev rs = false by unfold pageOk; simp; omega)
  obtain ⟨A, c, rfl, hlc, hc, _⟩ := hv
  rcases h with h | h
  · go_enter Try.func40, Try.ntmps40
    go_wp2
    go_ret2
    exact GivesEnc.not E.out (Below.refl _ _)
  · have h0 : 0 ≤ lev := by omega
    go_enter Try.func40, Try.ntmps40
    go_wp2
    go_ret2
    exact GivesEnc.not E.out (Below.refl _ _)
set_option maxRecDepth 100000 in
set_option maxHeartbeats 1600000 in
theorem refEnc_full (lev : Int) (h0 : 0 ≤ lev) (h4 : lev ≤ 4) (v : Value) (rs : List Rw) (hf : fitN rs < rs.length) (w : World) (hv : RR w v rs) :
    Calls Try.prog 40 #[.int .i64 lev, v] w (GivesEnc w lev rs) := by
  have E := Lib.hid (show pageOk lev rs = false by unfold pageOk; simp; omega)
  have hc := refFit_any v rs w hv
  obtain ⟨A, c, rfl, _⟩ := hv
  have hf' : ((fitN rs : Nat) : Int) < (rs.length : Int) := by omega
  go_enter Try.func40, Try.ntmps40
  go_wp2_with fail
  refine hc.mono ?_
  rintro e w1 ⟨rfl, hbel⟩
  have HB := Lib.hid hbel
  clear hbel
  go_wp2
  go_ret2
  exact GivesEnc.not E.out HB.out

set_option maxRecDepth 100000 in
set_option maxHeartbeats 4000000 in
theorem refEnc_fits (lev : Nat) (h4 : lev ≤ 4) (v : Value) (rs : List Rw) (hf : fitN rs = rs.length) (w : World) (hv : RR w v rs) :
    Calls Try.prog 40 #[.int .i64 lev, v] w (GivesEnc w lev rs) := by
  have E := Lib.hid (show pageOk lev rs = true by unfold pageOk; simp; omega)
  have hcall := refFit_any v rs w hv
  rw [hf] at hcall
  obtain ⟨hus, hok⟩ := (fitN_all rs).1 hf
  have HOK := Lib.hid hok
  have hus2 : rs.length + (body rs).length ≤ 250 := hus
  have HUS := Lib.hid hus
  have HV := Lib.hid hv
  have hlen : rs.length ≤ 250 := by omega
  obtain ⟨A, c, rfl, _⟩ := hv
  have hbl := bv_nat (show lev < 256 by omega)
  have hbn := bv_nat (show rs.length < 256 by omega)
  obtain ⟨Z, hZ⟩ : ∃ Z, Z = bvs (List.replicate 252 0) := ⟨_, rfl⟩
  have mk := make252
  rw [← hZ] at mk
  have HZ := Lib.hid hZ
  have hz0 : Z.toArray[0]? = some (.int .u8 0) := by rw [hZ]; simp [bvs, bv]
  have hz1 : Z.toArray[1]? = some (.int .u8 0) := by rw [hZ]; simp [bvs, bv]
  obtain ⟨ZA, hZA⟩ : ∃ ZA, ZA = Z.toArray := ⟨_, rfl⟩
  rw [← hZA] at hz0 hz1 mk
  have HZA := Lib.hid hZA
  have HBL := Lib.hid hbl
  have HBN := Lib.hid hbn
  clear hZ hbl hbn hok hus hus2 hf hZA
  go_enter Try.func40, Try.ntmps40
  go_wp2_with fail
  refine hcall.mono ?_
  rintro e w1 ⟨rfl, hbel⟩
  have HB := Lib.hid hbel
  have hsz1 := hbel.size
  clear hbel hcall
  go_wp2
  have hP : PR (w1.alloc (.cells ((ZA.setIfInBounds 0 (.int .u8 lev)).setIfInBounds 1 (.int .u8 rs.length)) 5)) w1.heap.size (pageA (UInt8.ofNat lev) (UInt8.ofNat rs.length) [] []) := by
    rw [HBL.out, HBN.out, HZA.out]
    exact PR.start HZ.out
  have hB0 : Below w.heap.size w (w1.alloc (.cells ((ZA.setIfInBounds 0 (.int .u8 lev)).setIfInBounds 1 (.int .u8 rs.length)) 5)) := HB.out.alloc hsz1 _
  obtain ⟨H, hH⟩ : ∃ H, H = w1.heap.size := ⟨_, rfl⟩
  rw [← hH] at hP ⊢
  have hHw : w.heap.size ≤ H := by omega
  have HH := Lib.hid hH
  have HP := Lib.hid hP
  have HB0 := Lib.hid hB0
  clear hP hB0 hH mk hz0 hz1
  go_loopw [7, 8] (fun at_ i wr => ∃ k : Nat, k ≤ rs.length ∧ i = .int .i64 k ∧ (∃ T : Nat, T + (body (rs.take k)).length = 252 ∧ at_ = .int .i64 T) ∧ PR wr H (pageA (UInt8.ofNat lev) (UInt8.ofNat rs.length) (slots (rs.take k)) (body (rs.take k))) ∧ Below w.heap.size w wr)
    (fun _ i _ => rs.length - (intOf i).toNat)
  case atStart => exact ⟨0, Nat.zero_le _, rfl, ⟨252, rfl, rfl⟩, HP.out, HB0.out⟩
  case round =>
    obtain ⟨k, hk, rfl, ⟨T, hT, rfl⟩, hP, hbel⟩ := hrel
    have hbt := body_len k rs
    have hus := HUS.out
    have hus2 : rs.length + (body rs).length ≤ 250 := hus
    obtain ⟨Wo, hWo⟩ : ∃ x, x = wr := ⟨_, rfl⟩
    subst hWo
    by_cases hlt : k < rs.length
    · obtain ⟨b, off, u, rfl, hx0, hy0, hr0⟩ := rr_at HV.out hlt
      have hb : b < w.heap.size := by
        obtain ⟨A', c', he, _, _, h3⟩ := HV.out
        injection he with e1 _ _
        rcases h3 with rfl | ⟨b', off', h4, h5, _⟩
        · simp at hlt
        · rw [h4] at e1; injection e1 with e1; injection e1 with e1 _ _; omega
      have hx := (hbel.cell (p := ⟨b, off + k * 2, none⟩) hb).trans hx0
      have hy := (hbel.cell (p := ⟨b, off + k * 2 + 1, none⟩) hb).trans hy0
      have hru := hr0.below hbel
      have hok := HOK.out rs[k] (List.getElem_mem hlt)
      have hb1 := body_take hlt
      have hb2 := body_len (k + 1) rs
      have hst := slots_take hlt
      have hsl := slots_length (rs.take k)
      rw [List.length_take, Nat.min_eq_left hk] at hsl
      rw [hb1, List.length_append] at hb2
      have hslot : slot (rs.take (k + 1)) = UInt8.ofNat (252 - ((rowB rs[k]).length + (body (rs.take k)).length)) := by unfold slot; rw [hb1, List.length_append]
      rw [hslot] at hst
      have HB1 := Lib.hid hb1
      have HST := Lib.hid hst
      generalize rs[k] = r at *
      obtain ⟨key, l⟩ := r
      simp only [] at hx hy hru hok
      obtain ⟨A2, c2, rfl, g1, g2, _⟩ : ∃ A2 c2, u = .slice A2 l.length c2 ∧ l.length ≤ c2 ∧ c2 ≤ maxLen ∧ True := by
        obtain ⟨A2, c2, h, h1, h2, _⟩ := hru
        exact ⟨A2, c2, h, h1, h2, trivial⟩
      unfold maxLen at g2
      generalize body (rs.take k) = bd at *
      generalize slots (rs.take k) = ss at *
      obtain ⟨row, hrow⟩ : ∃ row, row = rowB (key, l) := ⟨_, rfl⟩
      rw [← hrow] at hb2 HB1 HST hslot
      have hrowp := rowB_pos (key, l)
      rw [← hrow] at hrowp
      have hrow2 : rowL key.data.toList l = row := hrow.symm
      have hkey : key.size ≤ 30 := hok.1
      have hval : l.length ≤ 150 := hok.2
      have hcall := fun W hW => refBytes_any key (.slice A2 l.length c2) l (by omega) (by omega) W hW
      rw [hrow2] at hcall
      have HL := Lib.hid hcall
      have HP2 := Lib.hid hP
      have HB2 := Lib.hid hbel
      have HR := Lib.hid hru
      have hsz := hbel.size
      have hHr := hP.lt
      clear hP hbel hru hcall hrow hrow2 hb1 hst hslot hx0 hy0 hr0 hok HP HB0 HOK
      go_wp2_with fail
      refine (HL.out _ HR.out).mono ?_
      rintro e w2 ⟨v2, rfl, hown2, hbel2⟩
      have hb3 : Below w.heap.size w w2 := HB2.out.trans (hbel2.mono hsz)
      have hP2 : PR w2 H _ := HP2.out.below hbel2 hHr
      have hrb := RB.own hown2
      obtain ⟨b3, c3, rfl, hbb, hb3l, hc3m⟩ := own_addr hown2 (by omega)
      obtain ⟨R, hR⟩ : ∃ R, R = row.length := ⟨_, rfl⟩
      have hne : b3 ≠ H := by omega
      obtain ⟨Q, hQ⟩ : ∃ Q, Q = T - R := ⟨_, rfl⟩
      have hQi : (T : Int) - (R : Int) = (Q : Int) := by omega
      have hQT : Q + R + bd.length = 252 := by omega
      have hQb : (Q : Int) < 256 := by omega
      have hQ0 : (0 : Int) ≤ (Q : Int) := by omega
      obtain ⟨xb, hx2⟩ := hP2.any (k := 2 + k) (by omega)
      have hfz := hP2.2.frozen (2 + k)
      have hset := hP2.set_ (2 + k) (UInt8.ofNat Q)
      rw [show 2 + k = 2 + ss.length from by omega, pageA_slot _ (by omega), ← pageA_zeros (m := R) (by simp; omega)] at hset
      have hbq := bv_nat (show Q < 256 by omega)
      have HBQ := Lib.hid hbq
      have HSET := Lib.hid hset
      have HB3 := Lib.hid hb3
      have HRB := Lib.hid hrb
      have HRR := Lib.hid hR
      rw [← hR] at hrowp ⊢
      unfold bv at hx2
      have hR250 : (R : Int) ≤ 250 := by omega
      clear hown2 hbel2 hb3 hrb hP2 HP2 hR hQ HL HR hx hy hset hbq
      go_wp2
      go_loopw [10] (fun q wr => ∃ j : Nat, j ≤ R ∧ q = .int .i64 j ∧ PR wr H (pageA (UInt8.ofNat lev) (UInt8.ofNat rs.length) (ss ++ [UInt8.ofNat Q]) (row.take j ++ (List.replicate (R - j) 0 ++ bd))) ∧ RB wr (.slice (some ⟨b3, 0, none⟩) R c3) row ∧ Below w.heap.size w wr)
        (fun q _ => R - (intOf q).toNat)
      case atStart =>
        refine ⟨0, Nat.zero_le _, rfl, ?_, ?_, ?_⟩
        · rw [HBQ.out]
          have := HSET.out
          rw [show 2 + ss.length = 2 + k from by omega] at this
          simpa using this
        · rw [HRR.out]
          exact rb_far HRB.out hne _
        · exact HB3.out.setCell hHw _
      case round =>
        obtain ⟨j, hj, rfl, hP, hrb, hbel⟩ := hrel
        by_cases hjR : j < R
        · have hrb' := hrb
          rw [HRR.out] at hrb'
          obtain ⟨b', o', he, _, hcell⟩ := rb_cell hrb' (k := j) (by have := HRR.out; omega)
          injection he with he
          injection he with e1 e2 _
          subst e1
          subst e2
          rw [Nat.zero_add] at hcell
          obtain ⟨xc, hxc⟩ := hP.any (k := Q + j) (by omega)
          have hfz2 := hP.2.frozen (Q + j)
          have hjr : j < row.length := by have := HRR.out; omega
          have hl : (row.take j ++ (List.replicate (R - j) 0 ++ bd)).length = R + bd.length := by
            have := HRR.out
            simp
            omega
          have hset := hP.set_ (Q + j) row[j]
          have e1 := pageA_set (lev := UInt8.ofNat lev) (n := UInt8.ofNat rs.length) (ss := ss ++ [UInt8.ofNat Q]) (bd := row.take j ++ (List.replicate (R - j) 0 ++ bd)) (q := j) row[j] (by rw [hl]; omega) (by have := HRR.out; rw [hl]; simp; omega)
          have e2 := row_set (bd := bd) hjr
          rw [← HRR.out] at e2
          rw [hl, show 252 - (R + bd.length) + j = Q + j from by omega, e2] at e1
          rw [e1] at hset
          clear e1 e2
          have hrb2 := rb_far hrb (p := ⟨H, Q + j, none⟩) hne (bv row[j])
          have hb2 := hbel.setCell (p := ⟨H, Q + j, none⟩) hHw (bv row[j])
          generalize row[j] = y at *
          have HSET2 := Lib.hid hset
          have HRB2 := Lib.hid hrb2
          have HB4 := Lib.hid hb2
          unfold bv at hcell hxc
          clear hrb' hset hrb2 hb2 hl hP hrb hbel HSET HRB
          go_wp2
          go_roundw
          case rel => exact ⟨j + 1, by omega, by go_num, HSET2.out, HRB2.out, HB4.out⟩
          case measure => simp [intOf]; omega
        · have e : j = R := by omega
          have hP' := hP
          rw [e, Nat.sub_self, HRR.out, List.take_length] at hP'
          have HP4 := Lib.hid hP'
          have HB4 := Lib.hid hbel
          clear hP hP' hrb hbel e HSET HRB
          go_wp2
          go_roundw
          case rel =>
            refine ⟨k + 1, by omega, by go_num, ⟨Q, by rw [HB1.out, List.length_append, ← HRR.out]; omega, rfl⟩, ?_, HB4.out⟩
            rw [HB1.out, HST.out, ← HRR.out, show 252 - (R + bd.length) = Q from by omega]
            simpa using HP4.out
          case measure => simp [intOf]; omega
    · have e : k = rs.length := by omega
      rw [e, List.take_length] at hP
      rw [page_end] at hP
      have hrb := hP.rb
      have HR := Lib.hid hrb
      have HB2 := Lib.hid hbel
      have hsz := hbel.size
      have hPl := hP.1
      clear hP hbel e HP HB0 hbt
      go_wp2_with fail
      refine (refSeal_any _ _ _ HR.out (by omega)).mono ?_
      rintro e w3 ⟨v3, rfl, hown, hbel⟩
      have HO := Lib.hid (own_base hown hsz)
      have HB3 := Lib.hid (HB2.out.trans (hbel.mono hsz))
      clear hown hbel
      go_wp2
      go_ret2
      exact GivesEnc.mk E.out (by simpa using HO.out) HB3.out
theorem refEnc_any (lev : Int) (v : Value) (rs : List Rw) (w : World) (hv : RR w v rs) :
    Calls Try.prog 40 #[.int .i64 lev, v] w (GivesEnc w lev rs) := by
  by_cases h : lev < 0 ∨ 4 < lev
  · exact refEnc_low lev h v rs w hv
  · obtain ⟨n, rfl⟩ := Int.eq_ofNat_of_zero_le (show 0 ≤ lev by omega)
    have := fitN_le rs
    by_cases hf : fitN rs < rs.length
    · exact refEnc_full n (by omega) (by omega) v rs hf w hv
    · exact refEnc_fits n (by omega) v rs (by omega) w hv
end Go.Proofs.Ytbacdeogggcbfaa
