/-
  The contracts of the reference's many and ReadRows: of any bytes they tell what the plain function readRows tells.
-/
import Derived.Test.YtjanggdjbieceaaRefC
import Derived.Test.YtjanggdjbieceaaTake2
namespace Go.Proofs.Ytjanggdjbieceaa
open Go.RowKit Go.Rst

def manyL (l : List UInt8) : Int × Int × Int := if (getNum l 0).2.2 = 0 ∧ 5000 < (getNum l 0).1 then ((getNum l 0).1, (getNum l 0).2.1, 3) else getNum l 0

set_option maxRecDepth 100000 in
set_option maxHeartbeats 800000 in
theorem many_any (v : Value) (l : List UInt8) (w : World) (hv : RB w v l) : Calls Try.prog 45 #[v] w fun e w' => e = .returned (.tuple #[.int .i64 (manyL l).1, .int .i64 (manyL l).2.1, .int .i64 (manyL l).2.2]) ∧ w = w' := by
  have h1 := refGetNum_any v l 0 w hv
  have hs := getNum_spec l 0
  have hM : manyL l = if (getNum l 0).2.2 = 0 ∧ 5000 < (getNum l 0).1 then ((getNum l 0).1, (getNum l 0).2.1, 3) else getNum l 0 := rfl
  generalize getNum l 0 = g at *
  obtain ⟨n, q, er⟩ := g
  simp only [] at hM hs h1
  have H1 := Lib.hid h1
  clear h1
  rcases hs with ⟨rfl, _⟩ | ⟨her, rfl, rfl⟩
  · by_cases hb : 5000 < n
    · rw [if_pos ⟨rfl, hb⟩] at hM
      have E := Lib.hid hM
      clear hM
      go_enter Try.func45, Try.ntmps45
      go_wp2_with fail
      refine H1.out.mono ?_
      rintro x w1 ⟨rfl, rfl⟩
      go_wp2
      go_ret3
      rw [E.out]
      exact ⟨rfl, rfl⟩
    · rw [if_neg (by omega)] at hM
      have E := Lib.hid hM
      clear hM
      go_enter Try.func45, Try.ntmps45
      go_wp2_with fail
      refine H1.out.mono ?_
      rintro x w1 ⟨rfl, rfl⟩
      go_wp2
      go_ret3
      rw [E.out]
      exact ⟨rfl, rfl⟩
  · rw [if_neg (by omega)] at hM
    have E := Lib.hid hM
    have hne : (er == 0) = false := by rcases her with rfl | rfl <;> rfl
    clear hM her
    go_enter Try.func45, Try.ntmps45
    go_wp2_with fail
    refine H1.out.mono ?_
    rintro x w1 ⟨rfl, rfl⟩
    go_wp2
    go_ret3
    rw [E.out]
    exact ⟨rfl, rfl⟩

def GivesRowsI (w : World) (r : List (ByteArray × List UInt8) × Int) (x : Ending) (w' : World) : Prop :=
  ∃ v, x = .returned (.tuple #[v, .int .i64 r.2]) ∧ OR 5 34 w' w.heap.size v r.1 ∧ Below w.heap.size w w'

set_option maxRecDepth 100000 in
set_option maxHeartbeats 1600000 in
theorem refReadRows_any (v : Value) (l : List UInt8) (w : World) (hv : RB w v l) : Calls Try.prog 42 #[v] w (GivesRowsI w (readRows l)) := by
  have h1 := many_any v l w hv
  have hs := getNum_spec l 0
  have hM : manyL l = if (getNum l 0).2.2 = 0 ∧ 5000 < (getNum l 0).1 then ((getNum l 0).1, (getNum l 0).2.1, 3) else getNum l 0 := rfl
  have hR : readRows l = if (getNum l 0).2.2 ≠ 0 then ([], (getNum l 0).2.2) else if 5000 < (getNum l 0).1 then ([], 3) else rowsF l (getNum l 0).1.toNat (getNum l 0).2.1 [] := rfl
  generalize getNum l 0 = g at *
  obtain ⟨n, q, er⟩ := g
  simp only [] at hM hs hR
  have HV := Lib.hid hv
  obtain ⟨Av, cv, rfl⟩ : ∃ A c, v = .slice A l.length c := by obtain ⟨A, c, h, _⟩ := hv; exact ⟨A, c, h⟩
  have hln : (l.length : Int) ≤ 9223372036854775807 := by
    obtain ⟨A, c, h, h2, h3, _⟩ := HV.out
    unfold maxLen at h3; omega
  clear hv
  rcases hs with ⟨rfl, hs⟩ | ⟨her, rfl, rfl⟩
  · by_cases hb : 5000 < n
    · rw [if_pos ⟨rfl, hb⟩] at hM
      rw [if_neg (by simp), if_pos hb] at hR
      rw [hM] at h1
      have H1 := Lib.hid h1
      rw [hR]
      clear hM hR h1
      go_enter Try.func42, Try.ntmps42
      go_wp2_with fail
      refine H1.out.mono ?_
      rintro x w1 ⟨rfl, rfl⟩
      go_wp2_with fail
      refine wp_loop_rounds 1 ?_
      rw [rounds_succ]
      go_wp2
      go_ret2
      exact ⟨_, rfl, OR.nil_ _ _ _ _, Below.refl _ _⟩
    · obtain ⟨n, rfl⟩ := Int.eq_ofNat_of_zero_le hs.1
      rw [if_neg (by omega)] at hM
      rw [if_neg (by simp), if_neg hb, Int.toNat_natCast] at hR
      rw [hM] at h1
      have H1 := Lib.hid h1
      rw [hR]
      clear hM hR h1
      go_enter Try.func42, Try.ntmps42
      go_wp2_with fail
      refine H1.out.mono ?_
      rintro x w1 ⟨rfl, rfl⟩
      go_wp2_with fail
      go_loopw [5, 7, 8] (fun qv rv i wr => ∃ (k : Nat) (acc : List (ByteArray × List UInt8)) (qq : Int), k ≤ n ∧ i = .int .i64 k ∧ qv = .int .i64 qq ∧ acc.length = k ∧ OR 5 34 wr w.heap.size rv acc ∧ Below w.heap.size w wr ∧ rowsF l (n - k) qq acc = rowsF l n q [])
        (fun _ _ i _ => n - (intOf i).toNat)
      case atStart => exact ⟨0, [], q, Nat.zero_le _, rfl, rfl, rfl, OR.nil_ _ _ _ _, Below.refl _ _, rfl⟩
      case round =>
        obtain ⟨k, acc, qq, hk, rfl, rfl, hal, hor, hbel, heq⟩ := hrel
        have HE := Lib.hid heq
        have HAL := Lib.hid hal
        have hsz := hbel.size
        clear heq hal
        by_cases hlt : k < n
        · have hstep : rowsF l (n - k) qq acc = if (getRow l qq).2.2.2 ≠ 0 then ([], (getRow l qq).2.2.2) else rowsF l (n - k - 1) (getRow l qq).2.2.1 (acc ++ [(⟨(getRow l qq).1.toArray⟩, (getRow l qq).2.1)]) := by
            rw [show n - k = (n - k - 1) + 1 from by omega, rowsF]; rfl
          rw [hstep] at HE
          clear hstep
          unfold getRow at HE
          have c1 := fun W hW => refGetText_any (.slice Av l.length cv) l qq 30 W hW
          have s1 := getText_spec l qq 30
          obtain ⟨tk, q1, e1, ht1⟩ : ∃ a b c, getText l qq 30 = (a, b, c) := ⟨_, _, _, rfl⟩
          rw [ht1] at HE c1 s1
          simp only [] at HE s1
          have c2 := fun W hW => refGetText_any (.slice Av l.length cv) l q1 150 W hW
          have s2 := getText_spec l q1 150
          obtain ⟨tv, q2, e2, ht2⟩ : ∃ a b c, getText l q1 150 = (a, b, c) := ⟨_, _, _, rfl⟩
          rw [ht2] at HE c2 s2
          simp only [] at HE s2
          have C1 := Lib.hid c1
          have C2 := Lib.hid c2
          have HVr := Lib.hid (HV.out.below hbel)
          clear c1 c2 ht1 ht2
          by_cases he1 : e1 = 0
          · subst he1
            by_cases he2 : e2 = 0
            · subst he2
              have htl : tv.length ≤ 150 := by omega
              simp only [ne_eq, not_true_eq_false, if_false] at HE
              clear s1 s2
              go_wp2_with fail
              refine (C1.out _ HVr.out).mono ?_
              rintro x w2 ⟨rfl, rfl⟩
              go_wp2_with fail
              refine (C2.out _ HVr.out).mono ?_
              rintro x w2 ⟨rfl, rfl⟩
              go_wp2_with (refine wpList_bytes rfl (.tmp 52) 9 22 5 rfl Try.underlying9 Try.underlying22 Try.underlying5 (by rfl) ?_ ?_)
              · unfold maxLen; omega
              intro g c w2 hfb hb2
              have hor2 := (hor.below hb2).alloc (Obj.cells #[.string ⟨tk.toArray⟩, .slice (some ⟨g, 0, none⟩) tv.length c] 34)
              have hfb2 := (hfb.base_ (base' := w.heap.size) hsz).below ((Below.refl _ _).alloc (Nat.le_refl _) (Obj.cells #[.string ⟨tk.toArray⟩, .slice (some ⟨g, 0, none⟩) tv.length c] 34))
              have hbel2 : Below w.heap.size w w2 := hbel.trans (hb2.mono hsz)
              have hbel3 := hbel2.alloc hbel2.size (Obj.cells #[.string ⟨tk.toArray⟩, .slice (some ⟨g, 0, none⟩) tv.length c] 34)
              obtain ⟨us, hus, ho, hfs⟩ := hor2
              have HLU := Lib.hid (show us.length = acc.length by rw [← hus, List.length_map])
              have HUS := Lib.hid hus
              have hsz2 := hbel2.size
              clear hor hfb hbel hus hb2 hbel2
              go_wp2_with (at_builtin; refine wpList_own rfl (.tmp 50) (.tmp 55) 29 29 rfl w.heap.size 34 (.agg #[.string ⟨#[]⟩, .slice none 0 0]) 2 40 Try.underlying29 info34 rfl rfl ho rfl (src_two _ (by simp) Try.underlying29 34 _ _ rfl rfl) hbel3 (Nat.le_refl _) ?_ ?_ ?_ ?_)
              · have := HLU.out; have := HAL.out; unfold maxLen; omega
              · have := HLU.out; have := HAL.out; omega
              · simp; omega
              intro v' w4 ho' hb4 hg4
              have hor4 := OR.push (by decide) ho hfs hfb2 ho' hg4
              rw [HUS.out] at hor4
              have HO4 := Lib.hid hor4
              clear ho hfs hfb2 ho' hg4 hor4
              go_wp2
              go_roundw
              case rel => exact ⟨k + 1, _, q2, by omega, by go_num, rfl, by rw [List.length_append, HAL.out]; rfl, HO4.out, hb4, by rw [← HE.out]; congr 1⟩
              case measure => simp [intOf]; omega
            · have hne : (e2 != 0) = true := by simpa using he2
              have hE := Lib.hid (show ([], e2) = rowsF l n q [] by have h := HE.out; simpa [he2] using h)
              clear HE s1 s2 he2
              go_wp2_with fail
              refine (C1.out _ HVr.out).mono ?_
              rintro x w2 ⟨rfl, rfl⟩
              go_wp2_with fail
              refine (C2.out _ HVr.out).mono ?_
              rintro x w2 ⟨rfl, rfl⟩
              go_wp2
              go_ret2
              rw [← hE.out]
              exact ⟨_, rfl, OR.nil_ _ _ _ _, hbel⟩
          · have hne : (e1 != 0) = true := by simpa using he1
            have hE := Lib.hid (show ([], e1) = rowsF l n q [] by have h := HE.out; simpa [he1] using h)
            clear HE s1 s2 he1
            go_wp2_with fail
            refine (C1.out _ HVr.out).mono ?_
            rintro x w2 ⟨rfl, rfl⟩
            go_wp2
            go_ret2
            rw [← hE.out]
            exact ⟨_, rfl, OR.nil_ _ _ _ _, hbel⟩
        · obtain rfl : k = n := by omega
          rw [Nat.sub_self, rowsF] at HE
          by_cases hend : qq < (l.length : Int)
          · rw [if_pos hend] at HE
            go_wp2
            go_ret2
            rw [← HE.out]
            exact ⟨_, rfl, OR.nil_ _ _ _ _, hbel⟩
          · rw [if_neg hend] at HE
            go_wp2
            go_ret2
            rw [← HE.out]
            exact ⟨_, rfl, hor, hbel⟩
  · rw [if_neg (by omega)] at hM
    rw [if_pos (by omega)] at hR
    rw [hM] at h1
    have H1 := Lib.hid h1
    rw [hR]
    have hne : (er == 0) = false := by rcases her with rfl | rfl <;> rfl
    have hne2 : (er != 0) = true := by rcases her with rfl | rfl <;> rfl
    clear hM hR h1 her
    go_enter Try.func42, Try.ntmps42
    go_wp2_with fail
    refine H1.out.mono ?_
    rintro x w1 ⟨rfl, rfl⟩
    go_wp2_with fail
    refine wp_loop_rounds 1 ?_
    rw [rounds_succ]
    go_wp2
    go_ret2
    exact ⟨_, rfl, OR.nil_ _ _ _ _, Below.refl _ _⟩
end Go.Proofs.Ytjanggdjbieceaa
