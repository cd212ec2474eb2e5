/-
  The contract of the reference's many.
-/
import Derived.Test.YtomkbgghljcbfaaRefC
import Derived.Test.YtomkbgghljcbfaaGTk
import Derived.Test.YtomkbgghljcbfaaGTake
set_option linter.unusedVariables false

namespace Go.Proofs.Ytomkbgghljcbfaa
open Go.RowKit Go.Rst

def manyL (l : List UInt8) : Int × Int × Int := if (getNum l 0).2.2 = 0 ∧ 5000 < (getNum l 0).1 then ((getNum l 0).1, (getNum l 0).2.1, 3) else getNum l 0

set_option maxRecDepth 100000 in
set_option maxHeartbeats 800000 in
theorem many_any (v : Value) (l : List UInt8) (w : World) (hv : RB w v l) : Calls Try.prog 87 #[v] w fun e w' => e = .returned (.tuple #[.int .i64 (manyL l).1, .int .i64 (manyL l).2.1, .int .i64 (manyL l).2.2]) ∧ w = w' := by
  have h1 := refGetNum_any v l 0 w hv
  have hs := getNum_spec l 0
  have hM : manyL l = if (getNum l 0).2.2 = 0 ∧ 5000 < (getNum l 0).1 then ((getNum l 0).1, (getNum l 0).2.1, 3) else getNum l 0 := rfl
  generalize getNum l 0 = g at *
  obtain ⟨n, q, er⟩ := g
  simp only [] at hM hs h1
  have H1 := Lib.hid h1
  clear h1
  rcases hs with ⟨rfl, _⟩ | ⟨her, rfl, rfl⟩
  · by_cases hb : 5000 < n
    · rw [if_pos ⟨rfl, hb⟩] at hM
      have E := Lib.hid hM
      clear hM
      go_enter Try.func87, Try.ntmps87
      go_wp2_with fail
      refine H1.out.mono ?_
      rintro x w1 ⟨rfl, rfl⟩
      go_wp2
      go_ret3
      rw [E.out]
      exact ⟨rfl, rfl⟩
    · rw [if_neg (by omega)] at hM
      have E := Lib.hid hM
      clear hM
      go_enter Try.func87, Try.ntmps87
      go_wp2_with fail
      refine H1.out.mono ?_
      rintro x w1 ⟨rfl, rfl⟩
      go_wp2
      go_ret3
      rw [E.out]
      exact ⟨rfl, rfl⟩
  · rw [if_neg (by omega)] at hM
    have E := Lib.hid hM
    have hne : (er == 0) = false := by rcases her with rfl | rfl <;> rfl
    clear hM her
    go_enter Try.func87, Try.ntmps87
    go_wp2_with fail
    refine H1.out.mono ?_
    rintro x w1 ⟨rfl, rfl⟩
    go_wp2
    go_ret3
    rw [E.out]
    exact ⟨rfl, rfl⟩
end Go.Proofs.Ytomkbgghljcbfaa

/-
  The contract of the reference's change: at any place of any bytes it tells what the plain function getChange tells.
-/
namespace Go.Proofs.Ytomkbgghljcbfaa
open Go.RowKit Go.Rst

/-- What the reference's change hands back. -/
def GivesChangeI (w : World) (r : List UInt8 × List UInt8 × Bool × Int × Int) (x : Ending) (w' : World) : Prop :=
  ∃ u, x = .returned (.tuple #[.agg #[.string ⟨r.1.toArray⟩, u, .bool r.2.2.1], .int .i64 r.2.2.2.1, .int .i64 r.2.2.2.2]) ∧ FB 5 w' w.heap.size u r.2.1 ∧ Below w.heap.size w w'

set_option maxRecDepth 100000 in
set_option maxHeartbeats 3200000 in
theorem refChange_any (v : Value) (l : List UInt8) (p : Int) (w : World) (hv : RB w v l) : Calls Try.prog 88 #[v, .int .i64 p] w (GivesChangeI w (getChange l p)) := by
  have hs1 := getText_spec l p 30
  obtain ⟨k, q, e1, hg1⟩ : ∃ k q e, getText l p 30 = (k, q, e) := ⟨_, _, _, rfl⟩
  rw [hg1] at hs1
  have hcall1 : ∀ W, RB W v l → _ := fun W hW => refGetText_any v l p 30 W hW
  rw [hg1] at hcall1
  have H1 := Lib.hid hcall1
  have G1 := Lib.hid hg1
  have HV := Lib.hid hv
  have hv0 := hv
  obtain ⟨A, c, rfl, hlc, hc, hcells⟩ := hv0
  have HC := Lib.hid hcells
  unfold maxLen at hc
  clear hcall1 hg1 hv hcells
  simp only [] at hs1
  rcases hs1 with ⟨rfl, h1⟩ | ⟨her, rfl, rfl⟩
  · by_cases hin : (l.length : Int) ≤ q
    · have hq1 : ((q : Int) == (l.length : Int)) = true := by rw [beq_iff_eq]; omega
      have e : getChange l p = ([], [], false, 0, 10) := by unfold getChange; rw [G1.out]; simp [hin]
      rw [e]
      clear e
      go_enter Try.func88, Try.ntmps88
      go_wp2_with fail
      refine (H1.out _ (HV.out.alloc _)).mono ?_
      rintro x w1 ⟨rfl, rfl⟩
      go_wp2
      refine bodyPost_ret (v := .tuple #[.agg #[.string ⟨#[]⟩, .slice none 0 0, .bool false], .int .i64 0, .int .i64 10]) (by simp [results, Try.results88, go_sem]) rfl ⟨.slice none 0 0, rfl, .inl ⟨rfl, rfl⟩, ?_⟩
      exact (Below.refl _ _).alloc (Nat.le_refl _) _
    · obtain ⟨q, rfl⟩ := Int.eq_ofNat_of_zero_le h1.1
      have hq : q < l.length := by omega
      have hq1 : ((q : Int) == (l.length : Int)) = false := by rw [beq_eq_false_iff_ne]; omega
      obtain ⟨b, off, rfl, hb, hcell⟩ : ∃ b off, A = some ⟨b, off, none⟩ ∧ b < w.heap.size ∧ ∀ j (h : j < l.length), w.cell? ⟨b, off + j, none⟩ = some (bv l[j]) := by
        rcases HC.out with rfl | h
        · simp at hq
        · exact h
      have hc1 := (World.cell?_alloc_lt w (Obj.cells #[.string ⟨#[]⟩, .slice none 0 0, .bool false] 51) ⟨b, off + q, none⟩ hb).trans (hcell q hq)
      obtain ⟨d, hd⟩ : ∃ d, d = l[q] := ⟨_, rfl⟩
      have hd256 : (d.toNat : Int) < 256 := by have := d.toNat_lt; omega
      have hgd : l.getD (Int.toNat (q : Int)) 0 = d := by rw [Int.toNat_natCast, List.getD_eq_getElem?_getD, List.getElem?_eq_getElem hq, hd]; rfl
      unfold bv at hc1
      rw [← hd] at hc1
      have GD := Lib.hid hgd
      clear hcell hd hgd HC
      by_cases hone : d = 1
      · have e : getChange l p = (k, [], true, (q : Int) + 1, 0) := by unfold getChange; rw [G1.out]; simp only [GD.out]; simp [hone, hq]
        rw [e]
        subst hone
        clear e
        go_enter Try.func88, Try.ntmps88
        go_wp2_with fail
        refine (H1.out _ (HV.out.alloc _)).mono ?_
        rintro x w1 ⟨rfl, rfl⟩
        go_wp2
        refine bodyPost_ret (v := .tuple #[.agg #[.string ⟨k.toArray⟩, .slice none 0 0, .bool true], .int .i64 ((q : Int) + 1), .int .i64 0]) (by simp [results, Try.results88, go_sem]) rfl ⟨.slice none 0 0, rfl, .inl ⟨rfl, rfl⟩, ?_⟩
        exact (Below.refl _ _).alloc (Nat.le_refl _) _
      · have hne1 : ((d.toNat : Int) == 1) = false := by
          rw [beq_eq_false_iff_ne]
          intro h
          exact hone (UInt8.toNat_inj.1 (by rw [show (1 : UInt8).toNat = 1 from rfl]; omega))
        by_cases hzero : d = 0
        · subst hzero
          have hs2 := getText_spec l ((q : Int) + 1) 150
          obtain ⟨u, q2, e2, hg2⟩ : ∃ k q' e, getText l ((q : Int) + 1) 150 = (k, q', e) := ⟨_, _, _, rfl⟩
          rw [hg2] at hs2
          have hcall2 : ∀ W, RB W _ l → _ := fun W hW => refGetText_any (.slice (some ⟨b, off, none⟩) l.length c) l ((q : Int) + 1) 150 W hW
          rw [hg2] at hcall2
          have H2 := Lib.hid hcall2
          have G2 := Lib.hid hg2
          clear hcall2 hg2 hne1
          simp only [] at hs2
          rcases hs2 with ⟨rfl, h2⟩ | ⟨her, rfl, rfl⟩
          · have e : getChange l p = (k, u, false, q2, 0) := by unfold getChange; rw [G1.out]; simp only [GD.out, G2.out]; simp [hq]
            rw [e]
            clear e
            have hlen : u.length ≤ 150 := by have := h2.2.2.2.2.1; omega
            go_enter Try.func88, Try.ntmps88
            go_wp2_with fail
            refine (H1.out _ (HV.out.alloc _)).mono ?_
            rintro x w1 ⟨rfl, rfl⟩
            go_wp2_with fail
            refine (H2.out _ (HV.out.alloc _)).mono ?_
            rintro x w1 ⟨rfl, rfl⟩
            go_wp2_with (refine wpList_bytes rfl (.tmp 63) 9 23 5 rfl Try.underlying9 Try.underlying23 Try.underlying5 (by rfl) ?_ ?_)
            · unfold maxLen; omega
            · intro g cc w' hfb hb2
              have hx0 : w'.cell? ⟨w.heap.size, 0, none⟩ = some (.string ⟨#[]⟩) := (hb2.cell (p := ⟨w.heap.size, 0, none⟩) (by simp)).trans (by simp)
              have hx1 : w'.cell? ⟨w.heap.size, 1, none⟩ = some (.slice none 0 0) := (hb2.cell (p := ⟨w.heap.size, 1, none⟩) (by simp)).trans (by simp)
              have hx2 : w'.cell? ⟨w.heap.size, 2, none⟩ = some (.bool false) := (hb2.cell (p := ⟨w.heap.size, 2, none⟩) (by simp)).trans (by simp)
              have hf0 : w'.frozen? ⟨w.heap.size, 0, none⟩ = false := (hb2.frozen (p := ⟨w.heap.size, 0, none⟩) (by simp)).trans (by simp)
              have hf1 : w'.frozen? ⟨w.heap.size, 1, none⟩ = false := (hb2.frozen (p := ⟨w.heap.size, 1, none⟩) (by simp)).trans (by simp)
              have hf2 : w'.frozen? ⟨w.heap.size, 2, none⟩ = false := (hb2.frozen (p := ⟨w.heap.size, 2, none⟩) (by simp)).trans (by simp)
              have hb3 : Below w.heap.size w w' := ((Below.refl _ _).alloc (Nat.le_refl _) _).trans (hb2.mono (by simp))
              have hfb' := hfb.base_ (base' := w.heap.size + 1) (Nat.le_refl _)
              clear hc1
              go_wp2
              refine bodyPost_ret (v := .tuple #[.agg #[.string ⟨k.toArray⟩, .slice (some ⟨g, 0, none⟩) u.length cc, .bool false], .int .i64 q2, .int .i64 0]) (by simp [results, Try.results88, go_sem, hx0, hx1, hx2]) rfl ⟨_, rfl, ?_, ?_⟩
              · exact (((hfb'.setCell (by simp) _).setCell (by simp) _).setCell (by simp) _).base_ (Nat.le_succ _)
              · exact ((hb3.setCell (Nat.le_refl _) _).setCell (Nat.le_refl _) _).setCell (Nat.le_refl _) _
          · have e : getChange l p = ([], [], false, 0, e2) := by unfold getChange; rw [G1.out]; simp only [GD.out, G2.out]; rcases her with rfl | rfl | rfl <;> simp [hq]
            rw [e]
            have hne : (e2 != 0) = true := by rcases her with rfl | rfl | rfl <;> rfl
            have hneb : (e2 == 0) = false := by rcases her with rfl | rfl | rfl <;> rfl
            clear e her
            go_enter Try.func88, Try.ntmps88
            go_wp2_with fail
            refine (H1.out _ (HV.out.alloc _)).mono ?_
            rintro x w1 ⟨rfl, rfl⟩
            go_wp2_with fail
            refine (H2.out _ (HV.out.alloc _)).mono ?_
            rintro x w1 ⟨rfl, rfl⟩
            go_wp2
            refine bodyPost_ret (v := .tuple #[.agg #[.string ⟨#[]⟩, .slice none 0 0, .bool false], .int .i64 0, .int .i64 e2]) (by simp [results, Try.results88, go_sem]) rfl ⟨.slice none 0 0, rfl, .inl ⟨rfl, rfl⟩, ?_⟩
            exact (Below.refl _ _).alloc (Nat.le_refl _) _
        · have e : getChange l p = ([], [], false, 0, 11) := by unfold getChange; rw [G1.out]; simp only [GD.out]; simp [hone, hzero, hq]
          rw [e]
          have hne0 : ((d.toNat : Int) != 0) = true := by
            rw [bne_iff_ne]
            intro h
            exact hzero (UInt8.toNat_inj.1 (by rw [show (0 : UInt8).toNat = 0 from rfl]; omega))
          have hbig : (1 : Int) < (d.toNat : Int) := by
            rcases Nat.lt_or_ge 1 d.toNat with h | h
            · omega
            · exfalso
              rcases (show d.toNat = 0 ∨ d.toNat = 1 from by omega) with h' | h'
              · exact hzero (UInt8.toNat_inj.1 h')
              · exact hone (UInt8.toNat_inj.1 h')
          clear e
          go_enter Try.func88, Try.ntmps88
          go_wp2_with fail
          refine (H1.out _ (HV.out.alloc _)).mono ?_
          rintro x w1 ⟨rfl, rfl⟩
          go_wp2
          refine bodyPost_ret (v := .tuple #[.agg #[.string ⟨#[]⟩, .slice none 0 0, .bool false], .int .i64 0, .int .i64 11]) (by simp [results, Try.results88, go_sem]) rfl ⟨.slice none 0 0, rfl, .inl ⟨rfl, rfl⟩, ?_⟩
          exact (Below.refl _ _).alloc (Nat.le_refl _) _
  · have e : getChange l p = ([], [], false, 0, e1) := by unfold getChange; rw [G1.out]; rcases her with rfl | rfl | rfl <;> simp
    rw [e]
    have hne : (e1 != 0) = true := by rcases her with rfl | rfl | rfl <;> rfl
    have hneb : (e1 == 0) = false := by rcases her with rfl | rfl | rfl <;> rfl
    clear e her
    go_enter Try.func88, Try.ntmps88
    go_wp2_with fail
    refine (H1.out _ (HV.out.alloc _)).mono ?_
    rintro x w1 ⟨rfl, rfl⟩
    go_wp2
    refine bodyPost_ret (v := .tuple #[.agg #[.string ⟨#[]⟩, .slice none 0 0, .bool false], .int .i64 0, .int .i64 e1]) (by simp [results, Try.results88, go_sem]) rfl ⟨.slice none 0 0, rfl, .inl ⟨rfl, rfl⟩, ?_⟩
    exact (Below.refl _ _).alloc (Nat.le_refl _) _
end Go.Proofs.Ytomkbgghljcbfaa

/-
  The contract of the reference's ReadChanges: of any bytes it tells what the plain function readChgs tells.
-/
namespace Go.Proofs.Ytomkbgghljcbfaa
open Go.RowKit Go.Rst

def GivesChgsI (w : World) (r : List Chg × Int) (x : Ending) (w' : World) : Prop :=
  ∃ v, x = .returned (.tuple #[v, .int .i64 r.2]) ∧ OC 5 51 w' w.heap.size v r.1 ∧ Below w.heap.size w w'

set_option maxRecDepth 100000 in
set_option maxHeartbeats 1600000 in
theorem refReadChgs_any (v : Value) (l : List UInt8) (w : World) (hv : RB w v l) : Calls Try.prog 76 #[v] w (GivesChgsI w (readChgs l)) := by
  have h1 := many_any v l w hv
  have hs := getNum_spec l 0
  have hM : manyL l = if (getNum l 0).2.2 = 0 ∧ 5000 < (getNum l 0).1 then ((getNum l 0).1, (getNum l 0).2.1, 3) else getNum l 0 := rfl
  have hR : readChgs l = if (getNum l 0).2.2 ≠ 0 then ([], (getNum l 0).2.2) else if 5000 < (getNum l 0).1 then ([], 3) else chgsF l (getNum l 0).1.toNat (getNum l 0).2.1 [] := rfl
  generalize getNum l 0 = g at *
  obtain ⟨n, q, er⟩ := g
  simp only [] at hM hs hR
  have HV := Lib.hid hv
  obtain ⟨Av, cv, rfl⟩ : ∃ A c, v = .slice A l.length c := by obtain ⟨A, c, h, _⟩ := hv; exact ⟨A, c, h⟩
  have hln : (l.length : Int) ≤ 9223372036854775807 := by
    obtain ⟨A, c, h, h2, h3, _⟩ := HV.out
    unfold maxLen at h3; omega
  clear hv
  rcases hs with ⟨rfl, hs⟩ | ⟨her, rfl, rfl⟩
  · by_cases hb : 5000 < n
    · rw [if_pos ⟨rfl, hb⟩] at hM
      rw [if_neg (by simp), if_pos hb] at hR
      rw [hM] at h1
      have H1 := Lib.hid h1
      rw [hR]
      clear hM hR h1
      go_enter Try.func76, Try.ntmps76
      go_wp2_with fail
      refine H1.out.mono ?_
      rintro x w1 ⟨rfl, rfl⟩
      go_wp2_with fail
      refine wp_loop_rounds 1 ?_
      rw [rounds_succ]
      go_wp2
      go_ret2
      exact ⟨_, rfl, OC.nil_ _ _ _ _, Below.refl _ _⟩
    · obtain ⟨n, rfl⟩ := Int.eq_ofNat_of_zero_le hs.1
      rw [if_neg (by omega)] at hM
      rw [if_neg (by simp), if_neg hb, Int.toNat_natCast] at hR
      rw [hM] at h1
      have H1 := Lib.hid h1
      rw [hR]
      clear hM hR h1
      go_enter Try.func76, Try.ntmps76
      go_wp2_with fail
      refine H1.out.mono ?_
      rintro x w1 ⟨rfl, rfl⟩
      go_wp2_with fail
      go_loopw [5, 7, 8] (fun qv rv i wr => ∃ (k : Nat) (acc : List Chg) (qq : Int), k ≤ n ∧ i = .int .i64 k ∧ qv = .int .i64 qq ∧ acc.length = k ∧ OC 5 51 wr w.heap.size rv acc ∧ Below w.heap.size w wr ∧ chgsF l (n - k) qq acc = chgsF l n q [])
        (fun _ _ i _ => n - (intOf i).toNat)
      case atStart => exact ⟨0, [], q, Nat.zero_le _, rfl, rfl, rfl, OC.nil_ _ _ _ _, Below.refl _ _, rfl⟩
      case round =>
        obtain ⟨k, acc, qq, hk, rfl, rfl, hal, hor, hbel, heq⟩ := hrel
        have HE := Lib.hid heq
        have HAL := Lib.hid hal
        have hsz := hbel.size
        clear heq hal
        by_cases hlt : k < n
        · have hstep : chgsF l (n - k) qq acc = if (getChange l qq).2.2.2.2 ≠ 0 then ([], (getChange l qq).2.2.2.2) else chgsF l (n - k - 1) (getChange l qq).2.2.2.1 (acc ++ [(⟨(getChange l qq).1.toArray⟩, (getChange l qq).2.1, (getChange l qq).2.2.1)]) := by
            rw [show n - k = (n - k - 1) + 1 from by omega, chgsF]; rfl
          rw [hstep] at HE
          clear hstep
          have hcall := refChange_any (.slice Av l.length cv) l qq wr (HV.out.below hbel)
          generalize getChange l qq = r at *
          obtain ⟨rk, rl, rg, rq, re⟩ := r
          simp only [] at HE hcall
          have HC := Lib.hid hcall
          clear hcall
          go_wp2_with fail
          refine HC.out.mono ?_
          rintro x w2 ⟨u, rfl, hfu, hb2⟩
          obtain ⟨Au, cu, rfl⟩ := hfu.shape
          simp only [] at hfu
          by_cases hre : re = 0
          · subst hre
            simp only [ne_eq, not_true_eq_false, if_false] at HE
            have hor2 := ((hor.below hb2).alloc (Obj.cells #[.string ⟨rk.toArray⟩, .slice Au rl.length cu, .bool rg] 51)).alloc (Obj.cells #[.string ⟨rk.toArray⟩, .slice Au rl.length cu, .bool rg] 51)
            have hfb2 := ((hfu.base_ (base' := w.heap.size) hsz).below ((Below.refl _ _).alloc (Nat.le_refl _) (Obj.cells #[.string ⟨rk.toArray⟩, .slice Au rl.length cu, .bool rg] 51))).below ((Below.refl _ _).alloc (Nat.le_refl _) (Obj.cells #[.string ⟨rk.toArray⟩, .slice Au rl.length cu, .bool rg] 51))
            have hbel2 : Below w.heap.size w w2 := hbel.trans (hb2.mono hsz)
            have hbel2a := hbel2.alloc hbel2.size (Obj.cells #[.string ⟨rk.toArray⟩, .slice Au rl.length cu, .bool rg] 51)
            have hbel3 := hbel2a.alloc hbel2a.size (Obj.cells #[.string ⟨rk.toArray⟩, .slice Au rl.length cu, .bool rg] 51)
            obtain ⟨us, hus, ho, hfs⟩ := hor2
            have HLU := Lib.hid (show us.length = acc.length by rw [← hus, List.length_map])
            have HUS := Lib.hid hus
            have hsz2 := hbel2.size
            clear hor hfu hbel hus hb2 hbel2 hbel2a
            go_wp2_with (at_builtin; refine wpList_own rfl (.tmp 37) (.tmp 39) 22 22 rfl w.heap.size 51 (.agg #[.string ⟨#[]⟩, .slice none 0 0, .bool false]) 3 48 Try.underlying22 info51 rfl rfl ho rfl (src_three _ (by simp) Try.underlying22 51 _ _ _ rfl rfl rfl) hbel3 (Nat.le_refl _) ?_ ?_ ?_ ?_)
            · have := HLU.out; have := HAL.out; unfold maxLen; omega
            · have := HLU.out; have := HAL.out; omega
            · simp; omega
            intro v' w4 ho' hb4 hg4
            have hor4 := OC.push (by decide) ho hfs hfb2 ho' hg4
            rw [HUS.out] at hor4
            have HO4 := Lib.hid hor4
            clear ho hfs hfb2 ho' hg4 hor4
            go_wp2
            go_roundw
            case rel => exact ⟨k + 1, _, rq, by omega, by go_num, rfl, by rw [List.length_append, HAL.out]; rfl, HO4.out, hb4, by rw [← HE.out]; congr 1⟩
            case measure => simp [intOf]; omega
          · have hne : (re != 0) = true := by simpa using hre
            have hE := Lib.hid (show ([], re) = chgsF l n q [] by have h := HE.out; simpa [hre] using h)
            have hbel2 : Below w.heap.size w w2 := hbel.trans (hb2.mono hsz)
            clear HE hre
            go_wp2
            go_ret2
            rw [← hE.out]
            exact ⟨_, rfl, OC.nil_ _ _ _ _, hbel2.alloc hbel2.size _⟩
        · obtain rfl : k = n := by omega
          rw [Nat.sub_self, chgsF] at HE
          by_cases hend : qq < (l.length : Int)
          · rw [if_pos hend] at HE
            go_wp2
            go_ret2
            rw [← HE.out]
            exact ⟨_, rfl, OC.nil_ _ _ _ _, hbel⟩
          · rw [if_neg hend] at HE
            go_wp2
            go_ret2
            rw [← HE.out]
            exact ⟨_, rfl, hor, hbel⟩
  · rw [if_neg (by omega)] at hM
    rw [if_pos (by omega)] at hR
    rw [hM] at h1
    have H1 := Lib.hid h1
    rw [hR]
    have hne : (er == 0) = false := by rcases her with rfl | rfl <;> rfl
    have hne2 : (er != 0) = true := by rcases her with rfl | rfl <;> rfl
    clear hM hR h1 her
    go_enter Try.func76, Try.ntmps76
    go_wp2_with fail
    refine H1.out.mono ?_
    rintro x w1 ⟨rfl, rfl⟩
    go_wp2_with fail
    refine wp_loop_rounds 1 ?_
    rw [rounds_succ]
    go_wp2
    go_ret2
    exact ⟨_, rfl, OC.nil_ _ _ _ _, Below.refl _ _⟩
end Go.Proofs.Ytomkbgghljcbfaa
