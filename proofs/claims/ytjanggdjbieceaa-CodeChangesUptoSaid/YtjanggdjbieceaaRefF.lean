/-
  The contract of the reference's ReadChanges: of any bytes it tells what the plain function readChgs tells.
-/
import Derived.Test.YtjanggdjbieceaaRefD
import Derived.Test.YtjanggdjbieceaaRefE
import Derived.Test.YtjanggdjbieceaaTakeC2
namespace Go.Proofs.Ytjanggdjbieceaa
open Go.RowKit Go.Rst

def GivesChgsI (w : World) (r : List Chg × Int) (x : Ending) (w' : World) : Prop :=
  ∃ v, x = .returned (.tuple #[v, .int .i64 r.2]) ∧ OC 5 49 w' w.heap.size v r.1 ∧ Below w.heap.size w w'

set_option maxRecDepth 100000 in
set_option maxHeartbeats 1600000 in
theorem refReadChgs_any (v : Value) (l : List UInt8) (w : World) (hv : RB w v l) : Calls Try.prog 40 #[v] w (GivesChgsI w (readChgs l)) := by
  have h1 := many_any v l w hv
  have hs := getNum_spec l 0
  have hM : manyL l = if (getNum l 0).2.2 = 0 ∧ 5000 < (getNum l 0).1 then ((getNum l 0).1, (getNum l 0).2.1, 3) else getNum l 0 := rfl
  have hR : readChgs l = if (getNum l 0).2.2 ≠ 0 then ([], (getNum l 0).2.2) else if 5000 < (getNum l 0).1 then ([], 3) else chgsF l (getNum l 0).1.toNat (getNum l 0).2.1 [] := rfl
  generalize getNum l 0 = g at *
  obtain ⟨n, q, er⟩ := g
  simp only [] at hM hs hR
  have HV := Lib.hid hv
  obtain ⟨Av, cv, rfl⟩ : ∃ A c, v = .slice A l.length c := by obtain ⟨A, c, h, _⟩ := hv; exact ⟨A, c, h⟩
  have hln : (l.length : Int) ≤ 9223372036854775807 := by
    obtain ⟨A, c, h, h2, h3, _⟩ := HV.out
    unfold maxLen at h3; omega
  clear hv
  rcases hs with ⟨rfl, hs⟩ | ⟨her, rfl, rfl⟩
  · by_cases hb : 5000 < n
    · rw [if_pos ⟨rfl, hb⟩] at hM
      rw [if_neg (by simp), if_pos hb] at hR
      rw [hM] at h1
      have H1 := Lib.hid h1
      rw [hR]
      clear hM hR h1
      go_enter Try.func40, Try.ntmps40
      go_wp2_with fail
      refine H1.out.mono ?_
      rintro x w1 ⟨rfl, rfl⟩
      go_wp2_with fail
      refine wp_loop_rounds 1 ?_
      rw [rounds_succ]
      go_wp2
      go_ret2
      exact ⟨_, rfl, OC.nil_ _ _ _ _, Below.refl _ _⟩
    · obtain ⟨n, rfl⟩ := Int.eq_ofNat_of_zero_le hs.1
      rw [if_neg (by omega)] at hM
      rw [if_neg (by simp), if_neg hb, Int.toNat_natCast] at hR
      rw [hM] at h1
      have H1 := Lib.hid h1
      rw [hR]
      clear hM hR h1
      go_enter Try.func40, Try.ntmps40
      go_wp2_with fail
      refine H1.out.mono ?_
      rintro x w1 ⟨rfl, rfl⟩
      go_wp2_with fail
      go_loopw [5, 7, 8] (fun qv rv i wr => ∃ (k : Nat) (acc : List Chg) (qq : Int), k ≤ n ∧ i = .int .i64 k ∧ qv = .int .i64 qq ∧ acc.length = k ∧ OC 5 49 wr w.heap.size rv acc ∧ Below w.heap.size w wr ∧ chgsF l (n - k) qq acc = chgsF l n q [])
        (fun _ _ i _ => n - (intOf i).toNat)
      case atStart => exact ⟨0, [], q, Nat.zero_le _, rfl, rfl, rfl, OC.nil_ _ _ _ _, Below.refl _ _, rfl⟩
      case round =>
        obtain ⟨k, acc, qq, hk, rfl, rfl, hal, hor, hbel, heq⟩ := hrel
        have HE := Lib.hid heq
        have HAL := Lib.hid hal
        have hsz := hbel.size
        clear heq hal
        by_cases hlt : k < n
        · have hstep : chgsF l (n - k) qq acc = if (getChange l qq).2.2.2.2 ≠ 0 then ([], (getChange l qq).2.2.2.2) else chgsF l (n - k - 1) (getChange l qq).2.2.2.1 (acc ++ [(⟨(getChange l qq).1.toArray⟩, (getChange l qq).2.1, (getChange l qq).2.2.1)]) := by
            rw [show n - k = (n - k - 1) + 1 from by omega, chgsF]; rfl
          rw [hstep] at HE
          clear hstep
          have hcall := refChange_any (.slice Av l.length cv) l qq wr (HV.out.below hbel)
          generalize getChange l qq = r at *
          obtain ⟨rk, rl, rg, rq, re⟩ := r
          simp only [] at HE hcall
          have HC := Lib.hid hcall
          clear hcall
          go_wp2_with fail
          refine HC.out.mono ?_
          rintro x w2 ⟨u, rfl, hfu, hb2⟩
          obtain ⟨Au, cu, rfl⟩ := hfu.shape
          simp only [] at hfu
          by_cases hre : re = 0
          · subst hre
            simp only [ne_eq, not_true_eq_false, if_false] at HE
            have hor2 := ((hor.below hb2).alloc (Obj.cells #[.string ⟨rk.toArray⟩, .slice Au rl.length cu, .bool rg] 49)).alloc (Obj.cells #[.string ⟨rk.toArray⟩, .slice Au rl.length cu, .bool rg] 49)
            have hfb2 := ((hfu.base_ (base' := w.heap.size) hsz).below ((Below.refl _ _).alloc (Nat.le_refl _) (Obj.cells #[.string ⟨rk.toArray⟩, .slice Au rl.length cu, .bool rg] 49))).below ((Below.refl _ _).alloc (Nat.le_refl _) (Obj.cells #[.string ⟨rk.toArray⟩, .slice Au rl.length cu, .bool rg] 49))
            have hbel2 : Below w.heap.size w w2 := hbel.trans (hb2.mono hsz)
            have hbel2a := hbel2.alloc hbel2.size (Obj.cells #[.string ⟨rk.toArray⟩, .slice Au rl.length cu, .bool rg] 49)
            have hbel3 := hbel2a.alloc hbel2a.size (Obj.cells #[.string ⟨rk.toArray⟩, .slice Au rl.length cu, .bool rg] 49)
            obtain ⟨us, hus, ho, hfs⟩ := hor2
            have HLU := Lib.hid (show us.length = acc.length by rw [← hus, List.length_map])
            have HUS := Lib.hid hus
            have hsz2 := hbel2.size
            clear hor hfu hbel hus hb2 hbel2 hbel2a
            go_wp2_with (at_builtin; refine wpList_own rfl (.tmp 37) (.tmp 39) 24 24 rfl w.heap.size 49 (.agg #[.string ⟨#[]⟩, .slice none 0 0, .bool false]) 3 48 Try.underlying24 info49 rfl rfl ho rfl (src_three _ (by simp) Try.underlying24 49 _ _ _ rfl rfl rfl) hbel3 (Nat.le_refl _) ?_ ?_ ?_ ?_)
            · have := HLU.out; have := HAL.out; unfold maxLen; omega
            · have := HLU.out; have := HAL.out; omega
            · simp; omega
            intro v' w4 ho' hb4 hg4
            have hor4 := OC.push (by decide) ho hfs hfb2 ho' hg4
            rw [HUS.out] at hor4
            have HO4 := Lib.hid hor4
            clear ho hfs hfb2 ho' hg4 hor4
            go_wp2
            go_roundw
            case rel => exact ⟨k + 1, _, rq, by omega, by go_num, rfl, by rw [List.length_append, HAL.out]; rfl, HO4.out, hb4, by rw [← HE.out]; congr 1⟩
            case measure => simp [intOf]; omega
          · have hne : (re != 0) = true := by simpa using hre
            have hE := Lib.hid (show ([], re) = chgsF l n q [] by have h := HE.out; simpa [hre] using h)
            have hbel2 : Below w.heap.size w w2 := hbel.trans (hb2.mono hsz)
            clear HE hre
            go_wp2
            go_ret2
            rw [← hE.out]
            exact ⟨_, rfl, OC.nil_ _ _ _ _, hbel2.alloc hbel2.size _⟩
        · obtain rfl : k = n := by omega
          rw [Nat.sub_self, chgsF] at HE
          by_cases hend : qq < (l.length : Int)
          · rw [if_pos hend] at HE
            go_wp2
            go_ret2
            rw [← HE.out]
            exact ⟨_, rfl, OC.nil_ _ _ _ _, hbel⟩
          · rw [if_neg hend] at HE
            go_wp2
            go_ret2
            rw [← HE.out]
            exact ⟨_, rfl, hor, hbel⟩
  · rw [if_neg (by omega)] at hM
    rw [if_pos (by omega)] at hR
    rw [hM] at h1
    have H1 := Lib.hid h1
    rw [hR]
    have hne : (er == 0) = false := by rcases her with rfl | rfl <;> rfl
    have hne2 : (er != 0) = true := by rcases her with rfl | rfl <;> rfl
    clear hM hR h1 her
    go_enter Try.func40, Try.ntmps40
    go_wp2_with fail
    refine H1.out.mono ?_
    rintro x w1 ⟨rfl, rfl⟩
    go_wp2_with fail
    refine wp_loop_rounds 1 ?_
    rw [rounds_succ]
    go_wp2
    go_ret2
    exact ⟨_, rfl, OC.nil_ _ _ _ _, Below.refl _ _⟩
end Go.Proofs.Ytjanggdjbieceaa
