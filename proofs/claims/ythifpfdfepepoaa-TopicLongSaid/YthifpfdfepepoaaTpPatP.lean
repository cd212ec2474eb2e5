/-
  The contract of the program's Pattern (layer topic).
-/
import Derived.Test.YthifpfdfepepoaaTpRightP
import Derived.Test.YthifpfdfepepoaaTpPat
set_option linter.unusedVariables false
namespace Go.Tp
open Go
def okP (x : List UInt8 × Bool) : Bool := wordB x.1 || decide (x.1 = [43]) || (decide (x.1 = [35]) && x.2)
theorem pat_ok : ∀ ps : List (List UInt8), patP ps = (lastL ps).all okP
  | [] => rfl
  | [p] => by simp [patP, lastL, okP]
  | p :: q :: r => by
    rw [patP, lastL, List.all_cons, pat_ok (q :: r)]
    · simp [okP]
    · intro h; cases h
end Go.Tp
namespace Go.Proofs.Ythifpfdfepepoaa
open Go.RowKit Go.Rst Go.Tp Go.Shelf
attribute [local go_sem] Oper.semAt_some
theorem parts_bad {l : List UInt8} {c : UInt8} {f : List UInt8 × Bool → Bool} {pre : List (Pt l)} (h : pre.map (·.1) <+: lastL (splitL c l)) (h2 : pre.all (fun x => f x.1) = false) : (lastL (splitL c l)).all f = false := by
  obtain ⟨x, hx, hw⟩ := List.all_eq_false.1 h2
  exact List.all_eq_false.2 ⟨x.1, h.subset (List.mem_map_of_mem (f := fun x : Pt l => x.1) hx), hw⟩
set_option maxRecDepth 100000 in
set_option maxHeartbeats 2000000 in
theorem patP_any (l : List UInt8) (w : World) : Calls Try.prog 13 #[sv l] w fun e w' => e = .returned (.bool (patB l)) ∧ Below w.heap.size w w' := by
  refine (callsIn_wide (n := 3)).1 ?_
  refine callsIn_of_wp_marks Try.func13 rfl trivial ?_ rfl
  simp only [Try.ntmps13, List.size_toArray, List.length_cons, List.length_nil, Nat.reduceAdd, Nat.reduceSub, Array.replicate_succ, Array.replicate_zero, List.push_toArray, List.append_toArray, List.nil_append, List.cons_append]
  by_cases h30 : l.length ≤ 30
  · have q0 : ¬ (30 : Int) < (l.length : Int) := by omega
    have hp1 : ∀ n (w : World), CallsIn Fence.wide n Try.prog 19 #[sv l, .int .i32 47] w _ := fun n w => parts_in n l 47 w
    gi_wp2_with (first | (gi_at_call 19; refine (hp1 _ _).mono ?_; rintro e w2 ⟨rfl, rfl⟩) | (refine ⟨(show Fence.wide.fn _ from trivial), ?_⟩))
    have hri0 : RI w false (((w.alloc (.cells #[.bool false] 4)).alloc (.cells #[sv l] 9)).alloc (.cells #[.int .i32 47] 21)) :=
      ⟨(((Below.refl _ w).alloc (Nat.le_refl _) _).alloc (by simp) _).alloc (by simp; omega) _, ((Boxed.new w _ _).alloc _).alloc _⟩
    have hkb0 := kb_new (w.alloc (.cells #[.bool false] 4)) l 47
    rw [World.size_alloc] at hkb0
    have hsz0 : (((w.alloc (.cells #[.bool false] 4)).alloc (.cells #[sv l] 9)).alloc (.cells #[.int .i32 47] 21)).heap.size = w.heap.size + 3 := by simp
    obtain ⟨W0, hW0⟩ : ∃ W0, W0 = (((w.alloc (.cells #[.bool false] 4)).alloc (.cells #[sv l] 9)).alloc (.cells #[.int .i32 47] 21)) := ⟨_, rfl⟩
    have hkb : KB (w.heap.size + 1) l 47 W0 := by rw [hW0]; exact hkb0
    rw [← hW0] at hri0 hsz0 ⊢
    clear hW0 hkb0 hp1
    refine wpIn_rangeFunc_ownG rfl (by decide) (gf := 28) (lb := #[.pointer (some ⟨w.heap.size + 1, 0, none⟩), .pointer (some ⟨w.heap.size + 1 + 1, 0, none⟩)]) rfl trivial (enters_of Try.func28 (by kernel_rfl) rfl)
      (parts_stops 2 (w.heap.size + 1) l 47 (by omega) (by decide) W0 (by omega) hkb) (fun h k => KeepsP.trans h k) (fun X l o o' _ hlo hc hw => KeepsP.turn X l o o' hlo hc hw) (Below.refl _ _) (fun _ => rfl)
      (fun pre X => RI w false X ∧ pre.all (fun x => okP x.1) = true)
      (fun c pre X => c = .ret ∧ RI w false X ∧ pre.all (fun x => okP x.1) = false)
      ?oi ?ox ⟨hri0, rfl⟩
      (fun x => { tmps := #[sv l, undef, .pointer (some ⟨w.heap.size, 0, none⟩), sv x.1.1, .bool x.1.2, sv l, .int .i64 l.length, .bool false, sv l, .func (.func 28) #[] #[.pointer (some ⟨w.heap.size + 1, 0, none⟩), .pointer (some ⟨w.heap.size + 1 + 1, 0, none⟩)], sv x.1.1, .bool x.1.2, undef, undef, undef, undef, undef, undef, undef, undef, undef, undef, undef, undef, undef, undef, undef], defers := [] }) ?assign ?body ?done ?stop
    case oi =>
      rintro pre X Y row ⟨h, h2⟩ hg hr
      exact ⟨h.grown hg (by omega) hr, h2⟩
    case ox =>
      rintro c pre X Y row ⟨rfl, h, h2⟩ hg hr
      exact ⟨rfl, h.grown hg (by omega) hr, h2⟩
    case assign =>
      intro l x X K hK
      gi_wp2
      exact hK
    case stop =>
      rintro D c pre X hD hS ⟨rfl, h, h2⟩ hK
      have e : patB l = false := by
        unfold patB
        rw [pat_ok, parts_bad hS h2, Bool.false_and]
      have HE := Lib.hid e
      clear e
      gi_wp2
      exact leaves_box rfl rfl h (by omega) hK (fun W' hb => ⟨by rw [HE.out], hb⟩)
    case done =>
      rintro D xs X hD hS ⟨h, h2⟩ hK
      have e : patB l = true := by
        unfold patB
        rw [decide_eq_true h30, Bool.and_true, pat_ok, ← hS, List.all_map]
        exact h2
      have HE := Lib.hid e
      clear e
      have hc := h.bx.cell
      have hf := h.bx.frozen
      have HR := Lib.hid (h.set true)
      have hK2 : (X.setCell ⟨w.heap.size, 0, none⟩ (.bool true)).heap[D]? = some (.deferred (some [])) := (Below.heap_setCell _ _ _ _ (fun e => by have e2 : D = w.heap.size := e; omega)).trans hK
      have HK2 := Lib.hid hK2
      clear h h2 hK hS hK2
      gi_wp2
      exact leaves_box rfl rfl HR.out (by omega) HK2.out (fun W' hb => ⟨by rw [HE.out], hb⟩)
    case body =>
      rintro lp pre x X ⟨h, h2⟩ hlt
      obtain ⟨p, last, hx1⟩ : ∃ p last, x.1 = (p, last) := ⟨_, _, rfl⟩
      have hx11 : x.1.1 = p := by rw [hx1]
      have hx12 : x.1.2 = last := by rw [hx1]
      rw [hx11, hx12]
      clear hx11 hx12
      have hbw := wordP_bel p
      have HI := Lib.hid h
      cases hw : wordB p with
      | true =>
        have hok : okP (p, last) = true := by simp [okP, hw]
        rw [hw] at hbw
        clear hw
        have HW := Lib.hid hbw
        have HP := Lib.hid (show (pre ++ [x]).all (fun x => okP x.1) = true by rw [List.all_append, h2]; simpa [hx1] using hok)
        clear hbw hok h h2 hx1
        gi_wp2_with (first | (gi_at_call 21; refine (CallsIn.inRound lp (callsIn_wide.2 (HW.out _))).mono ?_; rintro e w1 ⟨rfl, hb1⟩; have hI1 := HI.out.below hb1; have hc1 := hI1.bx.cell; have hf1 := hI1.bx.frozen; have HI1 := Lib.hid hI1; have HB1 := Lib.hid hb1; clear hI1 hb1) | (refine ⟨fun h => (by simp [Fence.wide] at h), ?_⟩) | (refine ⟨(show Fence.wide.fn _ from trivial), ?_⟩))
        exact ⟨KeepsFrom.below HB1.out, KeepsP.below HB1.out, HI1.out, HP.out⟩
      | false =>
        rw [hw] at hbw
        have HW := Lib.hid hbw
        by_cases a1 : p = [43]
        · have b1 : (p == [43]) = true := by rw [a1]; rfl
          have hok : okP (p, last) = true := by simp [okP, a1]
          clear a1 hw
          have HP := Lib.hid (show (pre ++ [x]).all (fun x => okP x.1) = true by rw [List.all_append, h2]; simpa [hx1] using hok)
          clear hbw hok h h2 hx1
          gi_wp2_with (first | (gi_at_call 21; refine (CallsIn.inRound lp (callsIn_wide.2 (HW.out _))).mono ?_; rintro e w1 ⟨rfl, hb1⟩; have hI1 := HI.out.below hb1; have hc1 := hI1.bx.cell; have hf1 := hI1.bx.frozen; have HI1 := Lib.hid hI1; have HB1 := Lib.hid hb1; clear hI1 hb1) | (refine ⟨fun h => (by simp [Fence.wide] at h), ?_⟩) | (refine ⟨(show Fence.wide.fn _ from trivial), ?_⟩))
          exact ⟨KeepsFrom.below HB1.out, KeepsP.below HB1.out, HI1.out, HP.out⟩
        · have b1 : (p == [43]) = false := by simpa using a1
          by_cases a2 : p = [35]
          · have b2 : (p == [35]) = true := by rw [a2]; rfl
            cases last with
            | true =>
              have hok : okP (p, true) = true := by simp [okP, a2]
              clear a1 a2 hw
              have HP := Lib.hid (show (pre ++ [x]).all (fun x => okP x.1) = true by rw [List.all_append, h2]; simpa [hx1] using hok)
              clear hbw hok h h2 hx1
              gi_wp2_with (first | (gi_at_call 21; refine (CallsIn.inRound lp (callsIn_wide.2 (HW.out _))).mono ?_; rintro e w1 ⟨rfl, hb1⟩; have hI1 := HI.out.below hb1; have hc1 := hI1.bx.cell; have hf1 := hI1.bx.frozen; have HI1 := Lib.hid hI1; have HB1 := Lib.hid hb1; clear hI1 hb1) | (refine ⟨fun h => (by simp [Fence.wide] at h), ?_⟩) | (refine ⟨(show Fence.wide.fn _ from trivial), ?_⟩))
              exact ⟨KeepsFrom.below HB1.out, KeepsP.below HB1.out, HI1.out, HP.out⟩
            | false =>
              have hok : okP (p, false) = false := by simp [okP, hw, a1]
              clear a1 a2 hw
              have HP := Lib.hid (show (pre ++ [x]).all (fun x => okP x.1) = false by rw [List.all_append]; simp [hx1, hok])
              clear hbw hok h h2 hx1
              gi_wp2_with (first | (gi_at_call 21; refine (CallsIn.inRound lp (callsIn_wide.2 (HW.out _))).mono ?_; rintro e w1 ⟨rfl, hb1⟩; have hI1 := HI.out.below hb1; have hc1 := hI1.bx.cell; have hf1 := hI1.bx.frozen; have HI1 := Lib.hid hI1; have HB1 := Lib.hid hb1; clear hI1 hb1) | (refine ⟨fun h => (by simp [Fence.wide] at h), ?_⟩) | (refine ⟨(show Fence.wide.fn _ from trivial), ?_⟩))
              exact ⟨(KeepsFrom.below HB1.out).trans (KeepsFrom.set _ _ (by omega)), rfl, HI1.out.set false, HP.out⟩
          · have b2 : (p == [35]) = false := by simpa using a2
            have hok : okP (p, last) = false := by simp [okP, hw, a1, a2]
            clear a1 a2 hw
            have HP := Lib.hid (show (pre ++ [x]).all (fun x => okP x.1) = false by rw [List.all_append]; simp [hx1, hok])
            clear hbw hok h h2 hx1
            gi_wp2_with (first | (gi_at_call 21; refine (CallsIn.inRound lp (callsIn_wide.2 (HW.out _))).mono ?_; rintro e w1 ⟨rfl, hb1⟩; have hI1 := HI.out.below hb1; have hc1 := hI1.bx.cell; have hf1 := hI1.bx.frozen; have HI1 := Lib.hid hI1; have HB1 := Lib.hid hb1; clear hI1 hb1) | (refine ⟨fun h => (by simp [Fence.wide] at h), ?_⟩) | (refine ⟨(show Fence.wide.fn _ from trivial), ?_⟩))
            exact ⟨(KeepsFrom.below HB1.out).trans (KeepsFrom.set _ _ (by omega)), rfl, HI1.out.set false, HP.out⟩
  · have q0 : (30 : Int) < (l.length : Int) := by omega
    have e : patB l = false := by unfold patB; rw [decide_eq_false h30, Bool.and_false]
    rw [e]
    gi_wp2
    exact leaves_box0 (w := w) rfl rfl ⟨(Below.refl _ w).alloc (Nat.le_refl _) _, Boxed.new w _ _⟩ (fun W' hb => ⟨rfl, hb⟩)
end Go.Proofs.Ythifpfdfepepoaa
