/-
  The contract of page.Encode where there is a page.
-/
import Derived.Test.YtbacdeogggcbfaaEnc
namespace Go.Proofs.Ytbacdeogggcbfaa
open Go.RowKit Go.Rst Go.Pg Go.Crc

set_option maxRecDepth 100000 in
set_option maxHeartbeats 4000000 in
theorem enc_fits (lev : Nat) (h4 : lev ≤ 4) (v : Value) (rs : List Rw) (hf : fitN rs = rs.length) (w : World) (hv : RR w v rs) :
    Calls Try.prog 25 #[.int .i64 lev, v] w (GivesEnc w lev rs) := by
  have E := Lib.hid (show pageOk lev rs = true by unfold pageOk; simp; omega)
  have hcall := fit_any v rs w hv
  rw [hf] at hcall
  obtain ⟨hus, hok⟩ := (fitN_all rs).1 hf
  have HOK := Lib.hid hok
  have hus2 : rs.length + (body rs).length ≤ 250 := hus
  have HUS := Lib.hid hus
  have HV := Lib.hid hv
  have hlen : rs.length ≤ 250 := by omega
  obtain ⟨A, c, rfl, _⟩ := hv
  have hbl := bv_nat (show lev < 256 by omega)
  have hbn := bv_nat (show rs.length < 256 by omega)
  obtain ⟨Z, hZ⟩ : ∃ Z, Z = Array.replicate 256 (Value.int .u8 0) := ⟨_, rfl⟩
  have z256 := zero256
  rw [← hZ] at z256
  have HZ := Lib.hid hZ
  have hz0 : Z[0]? = some (.int .u8 0) := by rw [hZ]; simp
  have hz1 : Z[1]? = some (.int .u8 0) := by rw [hZ]; simp
  have HBL := Lib.hid hbl
  have HBN := Lib.hid hbn
  clear hZ hbl hbn hok hus hus2 hf
  go_enter Try.func25, Try.ntmps25
  go_wp2_with fail
  refine hcall.mono ?_
  rintro e w1 ⟨rfl, hbel⟩
  have HB := Lib.hid hbel
  have HV1 := Lib.hid (rr_below HV.out hbel (Nat.le_refl _))
  have hsz1 := hbel.size
  clear hbel hcall
  go_wp2
  have hP : PB (w1.alloc (.cells ((Z.setIfInBounds 0 (.int .u8 lev)).setIfInBounds 1 (.int .u8 rs.length)) 64)) w1.heap.size (pageA (UInt8.ofNat lev) (UInt8.ofNat rs.length) [] []) := by
    rw [HBL.out, HBN.out]
    exact PB.start HZ.out
  have hB0 : Below w.heap.size w (w1.alloc (.cells ((Z.setIfInBounds 0 (.int .u8 lev)).setIfInBounds 1 (.int .u8 rs.length)) 64)) := HB.out.alloc hsz1 _
  obtain ⟨H, hH⟩ : ∃ H, H = w1.heap.size := ⟨_, rfl⟩
  rw [← hH] at hP ⊢
  have hHw : w.heap.size ≤ H := by omega
  have HH := Lib.hid hH
  have HP := Lib.hid hP
  have HB0 := Lib.hid hB0
  clear hP hB0 hH z256 hz0 hz1 HV1
  go_loopw [7, 33] (fun at_ i wr => ∃ k : Nat, k ≤ rs.length ∧ i = .int .i64 k ∧ (∃ T : Nat, T + (body (rs.take k)).length = 252 ∧ at_ = .int .i64 T) ∧ PB wr H (pageA (UInt8.ofNat lev) (UInt8.ofNat rs.length) (slots (rs.take k)) (body (rs.take k))) ∧ Below w.heap.size w wr)
    (fun _ i _ => rs.length - (intOf i).toNat)
  case atStart => exact ⟨0, Nat.zero_le _, rfl, ⟨252, rfl, rfl⟩, HP.out, HB0.out⟩
  case round =>
    obtain ⟨k, hk, rfl, ⟨T, hT, rfl⟩, hP, hbel⟩ := hrel
    have hbt := body_len k rs
    have hus := HUS.out
    have hus2 : rs.length + (body rs).length ≤ 250 := hus
    by_cases hlt : k < rs.length
    · obtain ⟨b, off, u, rfl, hx0, hy0, hr0⟩ := rr_at HV.out hlt
      have hb : b < w.heap.size := by
        obtain ⟨A', c', he, _, _, h3⟩ := HV.out
        injection he with e1 _ _
        rcases h3 with rfl | ⟨b', off', h4, h5, _⟩
        · simp at hlt
        · rw [h4] at e1; injection e1 with e1; injection e1 with e1 _ _; omega
      have hx := (hbel.cell (p := ⟨b, off + k * 2, none⟩) hb).trans hx0
      have hy := (hbel.cell (p := ⟨b, off + k * 2 + 1, none⟩) hb).trans hy0
      have hru := hr0.below hbel
      have hok := HOK.out rs[k] (List.getElem_mem hlt)
      have hb1 := body_take hlt
      have hb2 := body_len (k + 1) rs
      have hst := slots_take hlt
      have hsl := slots_length (rs.take k)
      rw [List.length_take, Nat.min_eq_left hk] at hsl
      rw [hb1, List.length_append] at hb2
      have hslot : slot (rs.take (k + 1)) = UInt8.ofNat (252 - ((rowB rs[k]).length + (body (rs.take k)).length)) := by unfold slot; rw [hb1, List.length_append]
      rw [hslot] at hst
      have HB1 := Lib.hid hb1
      have HST := Lib.hid hst
      generalize rs[k] = r at *
      obtain ⟨key, l⟩ := r
      simp only [] at hx hy hru hok
      obtain ⟨A2, c2, rfl, g1, g2, _⟩ : ∃ A2 c2, u = .slice A2 l.length c2 ∧ l.length ≤ c2 ∧ c2 ≤ maxLen ∧ True := by
        obtain ⟨A2, c2, h, h1, h2, _⟩ := hru
        exact ⟨A2, c2, h, h1, h2, trivial⟩
      unfold maxLen at g2
      generalize body (rs.take k) = bd at *
      generalize slots (rs.take k) = ss at *
      obtain ⟨row, hrow⟩ : ∃ row, row = rowB (key, l) := ⟨_, rfl⟩
      rw [← hrow] at hb2 HB1 HST hslot
      have hrowp := rowB_pos (key, l)
      rw [← hrow] at hrowp
      have hrow2 : rowL key.data.toList l = row := hrow.symm
      have hkey : key.size ≤ 30 := hok.1
      have hval : l.length ≤ 150 := hok.2
      have hcall := fun W hW => row_any key (.slice A2 l.length c2) l (by omega) (by omega) W hW
      rw [hrow2] at hcall
      have HL := Lib.hid hcall
      have HP2 := Lib.hid hP
      have HB2 := Lib.hid hbel
      have HR := Lib.hid hru
      have hsz := hbel.size
      have hHr := hP.lt
      clear hP hbel hru hcall hrow hrow2 hb1 hst hslot hx0 hy0 hr0 hok HP HB0 HOK
      go_wp2_with fail
      refine (HL.out _ (HR.out.alloc _)).mono ?_
      rintro e w2 ⟨v2, rfl, hown2, hbel2⟩
      have hb3 : Below w.heap.size w w2 := (HB2.out.alloc hsz _).trans (hbel2.mono (by simp; omega))
      have hP2 : PB w2 H _ := (HP2.out.below ((Below.refl wr.heap.size wr).alloc (Nat.le_refl _) (Obj.cells #[Value.string key, .slice A2 l.length c2] 25)) hHr).below hbel2 (by simp; omega)
      have hrb := RB.own hown2
      obtain ⟨A3, c3, rfl, g3⟩ := own_shape hown2
      obtain ⟨b3, o3, rfl, hb3l, _⟩ := rb_cell hrb (k := 0) (by omega)
      have hr63 : (row.length : Int) ≤ 250 := by omega
      have hc3m : (c3 : Int) ≤ 9223372036854775807 := by
        obtain ⟨_, _, he, _, h3, _⟩ := hrb
        injection he with _ _ e3
        subst e3
        unfold maxLen at h3; omega
      obtain ⟨R, hR⟩ : ∃ R, R = row.length := ⟨_, rfl⟩
      obtain ⟨Q, hQ⟩ : ∃ Q, Q = T - R := ⟨_, rfl⟩
      have hQi : (T : Int) - (R : Int) = (Q : Int) := by omega
      have hQT : Q + R + bd.length = 252 := by omega
      have hQb : (Q : Int) < 256 := by omega
      have hQ0 : (0 : Int) ≤ (Q : Int) := by omega
      have HRB := Lib.hid hrb
      have HB3 := Lib.hid hb3
      have HP3 := Lib.hid hP2
      have hspl := page_splice (lev := UInt8.ofNat lev) (n := UInt8.ofNat rs.length) (ss := ss) (bd := bd) (row := row) (by omega)
      rw [show 252 - bd.length - row.length = Q from by omega] at hspl
      have HSP := Lib.hid hspl
      obtain ⟨cur, hcur⟩ : ∃ cur, cur = bvs (pageA (UInt8.ofNat lev) (UInt8.ofNat rs.length) ss bd ++ [0, 0, 0, 0]) := ⟨_, rfl⟩
      have hblk := hP2.2
      rw [← hcur] at hblk HSP
      have hcl : cur.length = 256 := by rw [hcur, bvs_length, List.length_append, hP2.1]; rfl
      have HBK := Lib.hid hblk
      have HCL := Lib.hid hcl
      rw [← hR] at hr63 g3 hrowp ⊢
      have HRR := Lib.hid hR
      obtain ⟨xs, hxs⟩ : ∃ xs, xs = bvs row := ⟨_, rfl⟩
      have HXS := Lib.hid hxs
      have hfrom := fun W => page_from W H Q (by omega)
      clear hown2 hbel2 hb3 hrb hP2 HP2 hspl hcur hblk hcl hR hQ HL HR hx hy
      go_wp2_with (refine wpList_copy_splice rfl (.tmp 45) (.tmp 46) 23 23 rfl 5 Try.underlying23 one5 (some ⟨H, Q, none⟩) (some ⟨b3, o3, none⟩) (256 - Q) (256 - Q) R c3 rfl rfl H Q cur 64 HBK.out xs ?h1 ?h2 ?h3 ?h4 w.heap.size w HB3.out hHw ?_)
      case h1 => rw [HXS.out, bvs_length, ← HRR.out]; show R = min R (256 - Q); omega
      case h2 =>
        intro _
        intro j u hu
        try rw [HXS.out] at hu
        have hj : j < row.length := by have := (List.getElem?_eq_some_iff.1 hu).1; simpa [bvs_length] using this
        obtain ⟨b', o', he, _, hcell⟩ := rb_cell HRB.out hj
        injection he with he
        injection he with e1 e2 _
        subst e1
        subst e2
        try rw [Addr.add_lit]
        rw [hcell, ← hu, bvs_get hj]
      case h3 => rw [HXS.out, HCL.out, bvs_length, ← HRR.out]; omega
      case h4 => rw [HXS.out]; exact bvs_one
      intro w3 HG hbel3
      rw [HSP.out] at HG
      have hG : PB w3 H (pageA (UInt8.ofNat lev) (UInt8.ofNat rs.length) ss (row ++ bd)) := ⟨pageA_length (by rw [List.length_append]; omega), HG.out⟩
      have hset := hG.set_ (2 + k) (by omega) (UInt8.ofNat Q)
      rw [show 2 + k = 2 + ss.length from by omega, pageA_slot _ (by rw [List.length_append]; omega)] at hset
      obtain ⟨xb, hx2⟩ : ∃ xb : UInt8, w3.cell? ⟨H, 2 + k, none⟩ = some (bv xb) := ⟨_, (hG.2.cell (2 + k)).trans (bva_get (by rw [List.length_append, hG.1]; omega))⟩
      have hfz := hG.2.frozen (2 + k)
      have HSET := Lib.hid hset
      have HB4 := Lib.hid hbel3
      have hbq := bv_nat (show Q < 256 by omega)
      have HBQ := Lib.hid hbq
      unfold bv at hx2
      clear hG hset HG hbel3 hbq HSP
      go_wp2
      go_roundw
      case rel =>
        refine ⟨k + 1, by omega, by go_num, ⟨Q, by rw [HB1.out, List.length_append, ← HRR.out]; omega, rfl⟩, ?_, HB4.out.setCell hHw _⟩
        rw [HB1.out, HST.out, ← HRR.out, show 252 - (R + bd.length) = Q from by omega, HBQ.out]
        have := HSET.out
        rw [show 2 + ss.length = 2 + k from by omega] at this
        exact this
      case measure => simp [intOf]; omega
    · have e : k = rs.length := by omega
      rw [e, List.take_length] at hP
      rw [page_end] at hP
      have hrb := hP.rb
      have HR := Lib.hid hrb
      have HB2 := Lib.hid hbel
      have hsz := hbel.size
      have hPl := hP.1
      clear hP hbel e HP HB0 hbt
      go_wp2_with fail
      refine (seal_any _ _ _ HR.out (by omega)).mono ?_
      rintro e w3 ⟨v3, rfl, hown, hbel⟩
      have HO := Lib.hid (own_base hown hsz)
      have HB3 := Lib.hid (HB2.out.trans (hbel.mono hsz))
      clear hown hbel
      go_wp2
      go_ret2
      exact GivesEnc.mk E.out (by simpa using HO.out) HB3.out

theorem enc_any (lev : Int) (v : Value) (rs : List Rw) (w : World) (hv : RR w v rs) :
    Calls Try.prog 25 #[.int .i64 lev, v] w (GivesEnc w lev rs) := by
  by_cases h : lev < 0 ∨ 4 < lev
  · exact enc_low lev h v rs w hv
  · obtain ⟨n, rfl⟩ := Int.eq_ofNat_of_zero_le (show 0 ≤ lev by omega)
    have := fitN_le rs
    by_cases hf : fitN rs < rs.length
    · exact enc_full n (by omega) (by omega) v rs hf w hv
    · exact enc_fits n (by omega) v rs (by omega) w hv
end Go.Proofs.Ytbacdeogggcbfaa
