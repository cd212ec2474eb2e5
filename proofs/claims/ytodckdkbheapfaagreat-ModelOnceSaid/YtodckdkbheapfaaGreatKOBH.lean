/-
  The contract of the program's Right (layer topic).; The contract of the program's Pattern (layer topic).
-/
import Derived.OrdersHeld
import Derived.Test.YtodckdkbheapfaaGreatKOBF
import Derived.Test.YtodckdkbheapfaaGreatKOBG
set_option linter.unusedVariables false
set_option linter.unusedVariables false
namespace Go.Proofs.YtodckdkbheapfaaGreat
open Go.RowKit Go.Rst Go.Tp Go.Shelf
attribute [local go_sem] Oper.semAt_some
theorem leaveB {fn : Func} {p : Nat} (h : fn.results = #[.cell p 4]) {W : World} {tmps : Array Value} {g : Nat} {b : Bool} (hp : tmps.getD p undef = .pointer (some ⟨g, 0, none⟩)) (hc : W.cell? ⟨g, 0, none⟩ = some (.bool b)) :
    (results fn tmps).run Tryz.prog W = .ok (.bool b) W := by
  have hp' : tmps[p]?.getD undef = .pointer (some ⟨g, 0, none⟩) := by simpa using hp
  have hT : ∀ w, (isAgg 4).run Tryz.prog w = .ok false w := run_isAgg_plain Tryz.underlying4 rfl
  simp [results, h, hp', hc, hT, go_sem, loadVar]
theorem part_mem {l : List UInt8} {c : UInt8} {pre : List (Pt l)} (h : pre.map (·.1) <+: lastL (splitL c l)) {x : Pt l} (hx : x ∈ pre) : x.1.1 ∈ splitL c l := by
  have h3 := h.subset (List.mem_map_of_mem (f := fun x : Pt l => x.1) hx)
  have h4 := List.mem_map_of_mem (f := fun x : List UInt8 × Bool => x.1) h3
  rwa [lastL_fst] at h4
theorem parts_all {l : List UInt8} {c : UInt8} {xs : List (Pt l)} (h : xs.map (·.1) = lastL (splitL c l)) : xs.map (·.1.1) = splitL c l := by
  have := congrArg (List.map (·.1)) h
  rw [lastL_fst, List.map_map] at this
  exact this
structure RI (w : World) (b : Bool) (X : World) : Prop where
  be : Below w.heap.size w X
  bx : Boxed X w.heap.size 4 (.bool b)
theorem RI.grown {w : World} {b : Bool} {X Y : World} {row : Option Nat} {B : Nat} (h : RI w b X) (hg : X.grownBy Y row) (hB : w.heap.size < B) (hr : ∀ r, row = some r → B ≤ r ∧ ∃ o : Obj, X.heap[r]? = some o ∧ o.isCells = false) : RI w b Y :=
  ⟨h.be.grown hg h.be.size (fun k e => by have := (hr k e).1; omega), h.bx.kept hg (fun e => by have := (hr _ e.symm).1; omega)⟩
theorem RI.below {w : World} {b : Bool} {X Y : World} (h : RI w b X) (hb : Below X.heap.size X Y) : RI w b Y :=
  ⟨h.be.trans (hb.mono h.be.size), (KX.below (p := fun _ _ => True) hb).boxed trivial h.bx⟩
theorem RI.set {w : World} {b : Bool} {X : World} (h : RI w b X) (b' : Bool) : RI w b' (X.setCell ⟨w.heap.size, 0, none⟩ (.bool b')) :=
  ⟨h.be.trans ((Below.refl _ X).setCell (by simp) _), h.bx.set _⟩
theorem KeepsP.below {Bs : Nat} {l : List UInt8} {c : UInt8} {A B : World} (h : Below A.heap.size A B) : KeepsP Bs l c A B :=
  ⟨fun x => x.kept (grown_none h) (by simp) (by simp), ⟨h.size, fun k o hk _ => (h.block k (Array.getElem?_eq_some_iff.1 hk).1).trans hk⟩⟩
theorem KeepsFrom.below {B : Nat} {X Y : World} (h : Below X.heap.size X Y) : KeepsFrom B X Y := ⟨h.size, fun k o _ hk _ => (h.block k (Array.getElem?_eq_some_iff.1 hk).1).trans hk⟩
theorem KeepsFrom.set {B g : Nat} (X : World) (v : Value) (hg : g < B) : KeepsFrom B X (X.setCell ⟨g, 0, none⟩ v) := ⟨(KeepsWalks.setCell X _ v).size, fun k o hB hk _ => (Below.heap_setCell _ _ _ k (fun e => by have e2 : k = g := e; omega)).trans hk⟩
theorem wordP_bel (l : List UInt8) (w : World) : Calls Tryz.prog 98 #[sv l] w fun e w' => e = .returned (.bool (wordB l)) ∧ Below w.heap.size w w' :=
  (wordP_any l w).mono fun e w' ⟨h, p, hp⟩ => ⟨h, by rw [hp]; exact (Below.refl _ w).alloc (Nat.le_refl _) _⟩
theorem leaves_box {F : Fence} {n : Nat} {fn : Func} {w X : World} {b : Bool} {tmps : Array Value} {p : Nat} {R : Ending → World → Prop} (hfn : fn.results = #[.cell p 4]) (hp : tmps.getD p undef = .pointer (some ⟨w.heap.size, 0, none⟩)) (h : RI w b X)
    {D : Nat} (hD : w.heap.size ≤ D) (hK : X.heap[D]? = some (.deferred (some []))) (hR : ∀ W', Below w.heap.size w W' → R (.returned (.bool b)) W') :
    LeavesInM F n Tryz.prog fn tmps R [{ target := .collected D, args := #[] }] .returning X :=
  leaves_marks (base := w.heap.size) (hi := X.heap.size) ⟨⟨D, rfl, hD, (Array.getElem?_eq_some_iff.1 hK).1, hK, fun d hd => by cases hd⟩, trivial⟩
    (fun W' hk hb => ⟨_, leaveB hfn hp (hk.boxed trivial h.bx).cell, hR W' (h.be.trans hb)⟩)
theorem leaves_box0 {F : Fence} {n : Nat} {fn : Func} {w X : World} {b : Bool} {tmps : Array Value} {p : Nat} {R : Ending → World → Prop} (hfn : fn.results = #[.cell p 4]) (hp : tmps.getD p undef = .pointer (some ⟨w.heap.size, 0, none⟩)) (h : RI w b X)
    (hR : ∀ W', Below w.heap.size w W' → R (.returned (.bool b)) W') : LeavesInM F n Tryz.prog fn tmps R [] .returning X :=
  leaves_marks (base := w.heap.size) (hi := X.heap.size) trivial (fun W' hk hb => ⟨_, leaveB hfn hp (hk.boxed trivial h.bx).cell, hR W' (h.be.trans hb)⟩)
set_option maxRecDepth 100000 in
set_option maxHeartbeats 2000000 in
theorem rightP_any (l : List UInt8) (w : World) : Calls Tryz.prog 71 #[sv l] w fun e w' => e = .returned (.bool (rightB l)) ∧ Below w.heap.size w w' := by
  refine (callsIn_wide (n := 3)).1 ?_
  refine callsIn_of_wp_marks Tryz.func71 rfl trivial ?_ rfl
  simp only [Tryz.ntmps71, List.size_toArray, List.length_cons, List.length_nil, Nat.reduceAdd, Nat.reduceSub, Array.replicate_succ, Array.replicate_zero, List.push_toArray, List.append_toArray, List.nil_append, List.cons_append]
  by_cases h30 : l.length ≤ 30
  · have q0 : ¬ (30 : Int) < (l.length : Int) := by omega
    have hp1 : ∀ n (w : World), CallsIn Fence.wide n Tryz.prog 97 #[sv l, .int .i32 47] w _ := fun n w => parts_in n l 47 w
    gi_wp2_with (first | (gi_at_call 97; refine (hp1 _ _).mono ?_; rintro e w2 ⟨rfl, rfl⟩) | (refine ⟨(show Fence.wide.fn _ from trivial), ?_⟩))
    have hri0 : RI w false (((w.alloc (.cells #[.bool false] 4)).alloc (.cells #[sv l] 9)).alloc (.cells #[.int .i32 47] 21)) :=
      ⟨(((Below.refl _ w).alloc (Nat.le_refl _) _).alloc (by simp) _).alloc (by simp; omega) _, ((Boxed.new w _ _).alloc _).alloc _⟩
    have hkb0 := kb_new (w.alloc (.cells #[.bool false] 4)) l 47
    rw [World.size_alloc] at hkb0
    have hsz0 : (((w.alloc (.cells #[.bool false] 4)).alloc (.cells #[sv l] 9)).alloc (.cells #[.int .i32 47] 21)).heap.size = w.heap.size + 3 := by simp
    obtain ⟨W0, hW0⟩ : ∃ W0, W0 = (((w.alloc (.cells #[.bool false] 4)).alloc (.cells #[sv l] 9)).alloc (.cells #[.int .i32 47] 21)) := ⟨_, rfl⟩
    have hkb : KB (w.heap.size + 1) l 47 W0 := by rw [hW0]; exact hkb0
    rw [← hW0] at hri0 hsz0 ⊢
    clear hW0 hkb0 hp1
    refine wpIn_rangeFunc_ownG rfl (by decide) (gf := 129) (lb := #[.pointer (some ⟨w.heap.size + 1, 0, none⟩), .pointer (some ⟨w.heap.size + 1 + 1, 0, none⟩)]) rfl trivial (enters_of Tryz.func129 (by kernel_rfl) rfl)
      (parts_stops 2 (w.heap.size + 1) l 47 (by omega) (by decide) W0 (by omega) hkb) (fun h k => KeepsP.trans h k) (fun X l o o' _ hlo hc hw => KeepsP.turn X l o o' hlo hc hw) (Below.refl _ _) (fun _ => rfl)
      (fun pre X => RI w false X ∧ pre.all (fun x => wordB x.1.1) = true)
      (fun c pre X => c = .ret ∧ RI w false X ∧ pre.all (fun x => wordB x.1.1) = false)
      ?oi ?ox ⟨hri0, rfl⟩
      (fun x => { tmps := #[sv l, undef, .pointer (some ⟨w.heap.size, 0, none⟩), sv x.1.1, sv l, .int .i64 l.length, .bool false, sv l, .func (.func 129) #[] #[.pointer (some ⟨w.heap.size + 1, 0, none⟩), .pointer (some ⟨w.heap.size + 1 + 1, 0, none⟩)], sv x.1.1, .bool x.1.2, undef, undef, undef], defers := [] }) ?assign ?body ?done ?stop
    case oi =>
      rintro pre X Y row ⟨h, h2⟩ hg hr
      exact ⟨h.grown hg (by omega) hr, h2⟩
    case ox =>
      rintro c pre X Y row ⟨rfl, h, h2⟩ hg hr
      exact ⟨rfl, h.grown hg (by omega) hr, h2⟩
    case assign =>
      intro l x X K hK
      gi_wp2
      exact hK
    case stop =>
      rintro D c pre X hD hS ⟨rfl, h, h2⟩ hK
      have e : rightB l = false := by
        obtain ⟨x, hx, hw⟩ := List.all_eq_false.1 h2
        unfold rightB
        rw [List.all_eq_false.2 ⟨x.1.1, part_mem hS hx, hw⟩, Bool.false_and]
      have HE := Lib.hid e
      clear e
      gi_wp2
      exact leaves_box rfl rfl h (by omega) hK (fun W' hb => ⟨by rw [HE.out], hb⟩)
    case done =>
      rintro D xs X hD hS ⟨h, h2⟩ hK
      have e : rightB l = true := by
        unfold rightB
        rw [decide_eq_true h30, Bool.and_true]
        rw [← parts_all hS, List.all_map]
        exact h2
      have HE := Lib.hid e
      clear e
      have hc := h.bx.cell
      have hf := h.bx.frozen
      have HR := Lib.hid (h.set true)
      have hK2 : (X.setCell ⟨w.heap.size, 0, none⟩ (.bool true)).heap[D]? = some (.deferred (some [])) := (Below.heap_setCell _ _ _ _ (fun e => by have e2 : D = w.heap.size := e; omega)).trans hK
      have HK2 := Lib.hid hK2
      clear h h2 hK hS hK2
      gi_wp2
      exact leaves_box rfl rfl HR.out (by omega) HK2.out (fun W' hb => ⟨by rw [HE.out], hb⟩)
    case body =>
      rintro lp pre x X ⟨h, h2⟩ hlt
      have hbw := wordP_bel x.1.1
      cases hw : wordB x.1.1 with
      | true =>
        rw [hw] at hbw
        have HW := Lib.hid hbw
        have HI := Lib.hid h
        have HP := Lib.hid (show (pre ++ [x]).all (fun x => wordB x.1.1) = true by rw [List.all_append, h2]; simpa using hw)
        clear hbw hw h h2
        gi_wp2_with (first | (gi_at_call 98; refine (CallsIn.inRound lp (callsIn_wide.2 (HW.out _))).mono ?_; rintro e w1 ⟨rfl, hb1⟩; have hI1 := HI.out.below hb1; have hc1 := hI1.bx.cell; have hf1 := hI1.bx.frozen; have HI1 := Lib.hid hI1; have HB1 := Lib.hid hb1; clear hI1 hb1) | (refine ⟨fun h => (by simp [Fence.wide] at h), ?_⟩) | (refine ⟨(show Fence.wide.fn _ from trivial), ?_⟩))
        exact ⟨KeepsFrom.below HB1.out, KeepsP.below HB1.out, HI1.out, HP.out⟩
      | false =>
        rw [hw] at hbw
        have HW := Lib.hid hbw
        have HI := Lib.hid h
        have HP := Lib.hid (show (pre ++ [x]).all (fun x => wordB x.1.1) = false by rw [List.all_append]; simp [hw])
        clear hbw hw h h2
        gi_wp2_with (first | (gi_at_call 98; refine (CallsIn.inRound lp (callsIn_wide.2 (HW.out _))).mono ?_; rintro e w1 ⟨rfl, hb1⟩; have hI1 := HI.out.below hb1; have hc1 := hI1.bx.cell; have hf1 := hI1.bx.frozen; have HI1 := Lib.hid hI1; have HB1 := Lib.hid hb1; clear hI1 hb1) | (refine ⟨fun h => (by simp [Fence.wide] at h), ?_⟩) | (refine ⟨(show Fence.wide.fn _ from trivial), ?_⟩))
        exact ⟨(KeepsFrom.below HB1.out).trans (KeepsFrom.set _ _ (by omega)), rfl, HI1.out.set false, HP.out⟩
  · have q0 : (30 : Int) < (l.length : Int) := by omega
    have e : rightB l = false := by unfold rightB; rw [decide_eq_false h30, Bool.and_false]
    rw [e]
    gi_wp2
    exact leaves_box0 (w := w) rfl rfl ⟨(Below.refl _ w).alloc (Nat.le_refl _) _, Boxed.new w _ _⟩ (fun W' hb => ⟨rfl, hb⟩)
end Go.Proofs.YtodckdkbheapfaaGreat
set_option linter.unusedVariables false
namespace Go.Tp
open Go
def okP (x : List UInt8 × Bool) : Bool := wordB x.1 || decide (x.1 = [43]) || (decide (x.1 = [35]) && x.2)
theorem pat_ok : ∀ ps : List (List UInt8), patP ps = (lastL ps).all okP
  | [] => rfl
  | [p] => by simp [patP, lastL, okP]
  | p :: q :: r => by
    rw [patP, lastL, List.all_cons, pat_ok (q :: r)]
    · simp [okP]
    · intro h; cases h
end Go.Tp
namespace Go.Proofs.YtodckdkbheapfaaGreat
open Go.RowKit Go.Rst Go.Tp Go.Shelf
attribute [local go_sem] Oper.semAt_some
theorem parts_bad {l : List UInt8} {c : UInt8} {f : List UInt8 × Bool → Bool} {pre : List (Pt l)} (h : pre.map (·.1) <+: lastL (splitL c l)) (h2 : pre.all (fun x => f x.1) = false) : (lastL (splitL c l)).all f = false := by
  obtain ⟨x, hx, hw⟩ := List.all_eq_false.1 h2
  exact List.all_eq_false.2 ⟨x.1, h.subset (List.mem_map_of_mem (f := fun x : Pt l => x.1) hx), hw⟩
set_option maxRecDepth 100000 in
set_option maxHeartbeats 2000000 in
theorem patP_any (l : List UInt8) (w : World) : Calls Tryz.prog 65 #[sv l] w fun e w' => e = .returned (.bool (patB l)) ∧ Below w.heap.size w w' := by
  refine (callsIn_wide (n := 3)).1 ?_
  refine callsIn_of_wp_marks Tryz.func65 rfl trivial ?_ rfl
  simp only [Tryz.ntmps65, List.size_toArray, List.length_cons, List.length_nil, Nat.reduceAdd, Nat.reduceSub, Array.replicate_succ, Array.replicate_zero, List.push_toArray, List.append_toArray, List.nil_append, List.cons_append]
  by_cases h30 : l.length ≤ 30
  · have q0 : ¬ (30 : Int) < (l.length : Int) := by omega
    have hp1 : ∀ n (w : World), CallsIn Fence.wide n Tryz.prog 97 #[sv l, .int .i32 47] w _ := fun n w => parts_in n l 47 w
    gi_wp2_with (first | (gi_at_call 97; refine (hp1 _ _).mono ?_; rintro e w2 ⟨rfl, rfl⟩) | (refine ⟨(show Fence.wide.fn _ from trivial), ?_⟩))
    have hri0 : RI w false (((w.alloc (.cells #[.bool false] 4)).alloc (.cells #[sv l] 9)).alloc (.cells #[.int .i32 47] 21)) :=
      ⟨(((Below.refl _ w).alloc (Nat.le_refl _) _).alloc (by simp) _).alloc (by simp; omega) _, ((Boxed.new w _ _).alloc _).alloc _⟩
    have hkb0 := kb_new (w.alloc (.cells #[.bool false] 4)) l 47
    rw [World.size_alloc] at hkb0
    have hsz0 : (((w.alloc (.cells #[.bool false] 4)).alloc (.cells #[sv l] 9)).alloc (.cells #[.int .i32 47] 21)).heap.size = w.heap.size + 3 := by simp
    obtain ⟨W0, hW0⟩ : ∃ W0, W0 = (((w.alloc (.cells #[.bool false] 4)).alloc (.cells #[sv l] 9)).alloc (.cells #[.int .i32 47] 21)) := ⟨_, rfl⟩
    have hkb : KB (w.heap.size + 1) l 47 W0 := by rw [hW0]; exact hkb0
    rw [← hW0] at hri0 hsz0 ⊢
    clear hW0 hkb0 hp1
    refine wpIn_rangeFunc_ownG rfl (by decide) (gf := 129) (lb := #[.pointer (some ⟨w.heap.size + 1, 0, none⟩), .pointer (some ⟨w.heap.size + 1 + 1, 0, none⟩)]) rfl trivial (enters_of Tryz.func129 (by kernel_rfl) rfl)
      (parts_stops 2 (w.heap.size + 1) l 47 (by omega) (by decide) W0 (by omega) hkb) (fun h k => KeepsP.trans h k) (fun X l o o' _ hlo hc hw => KeepsP.turn X l o o' hlo hc hw) (Below.refl _ _) (fun _ => rfl)
      (fun pre X => RI w false X ∧ pre.all (fun x => okP x.1) = true)
      (fun c pre X => c = .ret ∧ RI w false X ∧ pre.all (fun x => okP x.1) = false)
      ?oi ?ox ⟨hri0, rfl⟩
      (fun x => { tmps := #[sv l, undef, .pointer (some ⟨w.heap.size, 0, none⟩), sv x.1.1, .bool x.1.2, sv l, .int .i64 l.length, .bool false, sv l, .func (.func 129) #[] #[.pointer (some ⟨w.heap.size + 1, 0, none⟩), .pointer (some ⟨w.heap.size + 1 + 1, 0, none⟩)], sv x.1.1, .bool x.1.2, undef, undef, undef, undef, undef, undef, undef, undef, undef, undef, undef, undef, undef, undef, undef], defers := [] }) ?assign ?body ?done ?stop
    case oi =>
      rintro pre X Y row ⟨h, h2⟩ hg hr
      exact ⟨h.grown hg (by omega) hr, h2⟩
    case ox =>
      rintro c pre X Y row ⟨rfl, h, h2⟩ hg hr
      exact ⟨rfl, h.grown hg (by omega) hr, h2⟩
    case assign =>
      intro l x X K hK
      gi_wp2
      exact hK
    case stop =>
      rintro D c pre X hD hS ⟨rfl, h, h2⟩ hK
      have e : patB l = false := by
        unfold patB
        rw [pat_ok, parts_bad hS h2, Bool.false_and]
      have HE := Lib.hid e
      clear e
      gi_wp2
      exact leaves_box rfl rfl h (by omega) hK (fun W' hb => ⟨by rw [HE.out], hb⟩)
    case done =>
      rintro D xs X hD hS ⟨h, h2⟩ hK
      have e : patB l = true := by
        unfold patB
        rw [decide_eq_true h30, Bool.and_true, pat_ok, ← hS, List.all_map]
        exact h2
      have HE := Lib.hid e
      clear e
      have hc := h.bx.cell
      have hf := h.bx.frozen
      have HR := Lib.hid (h.set true)
      have hK2 : (X.setCell ⟨w.heap.size, 0, none⟩ (.bool true)).heap[D]? = some (.deferred (some [])) := (Below.heap_setCell _ _ _ _ (fun e => by have e2 : D = w.heap.size := e; omega)).trans hK
      have HK2 := Lib.hid hK2
      clear h h2 hK hS hK2
      gi_wp2
      exact leaves_box rfl rfl HR.out (by omega) HK2.out (fun W' hb => ⟨by rw [HE.out], hb⟩)
    case body =>
      rintro lp pre x X ⟨h, h2⟩ hlt
      obtain ⟨p, last, hx1⟩ : ∃ p last, x.1 = (p, last) := ⟨_, _, rfl⟩
      have hx11 : x.1.1 = p := by rw [hx1]
      have hx12 : x.1.2 = last := by rw [hx1]
      rw [hx11, hx12]
      clear hx11 hx12
      have hbw := wordP_bel p
      have HI := Lib.hid h
      cases hw : wordB p with
      | true =>
        have hok : okP (p, last) = true := by simp [okP, hw]
        rw [hw] at hbw
        clear hw
        have HW := Lib.hid hbw
        have HP := Lib.hid (show (pre ++ [x]).all (fun x => okP x.1) = true by rw [List.all_append, h2]; simpa [hx1] using hok)
        clear hbw hok h h2 hx1
        gi_wp2_with (first | (gi_at_call 98; refine (CallsIn.inRound lp (callsIn_wide.2 (HW.out _))).mono ?_; rintro e w1 ⟨rfl, hb1⟩; have hI1 := HI.out.below hb1; have hc1 := hI1.bx.cell; have hf1 := hI1.bx.frozen; have HI1 := Lib.hid hI1; have HB1 := Lib.hid hb1; clear hI1 hb1) | (refine ⟨fun h => (by simp [Fence.wide] at h), ?_⟩) | (refine ⟨(show Fence.wide.fn _ from trivial), ?_⟩))
        exact ⟨KeepsFrom.below HB1.out, KeepsP.below HB1.out, HI1.out, HP.out⟩
      | false =>
        rw [hw] at hbw
        have HW := Lib.hid hbw
        by_cases a1 : p = [43]
        · have b1 : (p == [43]) = true := by rw [a1]; rfl
          have hok : okP (p, last) = true := by simp [okP, a1]
          clear a1 hw
          have HP := Lib.hid (show (pre ++ [x]).all (fun x => okP x.1) = true by rw [List.all_append, h2]; simpa [hx1] using hok)
          clear hbw hok h h2 hx1
          gi_wp2_with (first | (gi_at_call 98; refine (CallsIn.inRound lp (callsIn_wide.2 (HW.out _))).mono ?_; rintro e w1 ⟨rfl, hb1⟩; have hI1 := HI.out.below hb1; have hc1 := hI1.bx.cell; have hf1 := hI1.bx.frozen; have HI1 := Lib.hid hI1; have HB1 := Lib.hid hb1; clear hI1 hb1) | (refine ⟨fun h => (by simp [Fence.wide] at h), ?_⟩) | (refine ⟨(show Fence.wide.fn _ from trivial), ?_⟩))
          exact ⟨KeepsFrom.below HB1.out, KeepsP.below HB1.out, HI1.out, HP.out⟩
        · have b1 : (p == [43]) = false := by simpa using a1
          by_cases a2 : p = [35]
          · have b2 : (p == [35]) = true := by rw [a2]; rfl
            cases last with
            | true =>
              have hok : okP (p, true) = true := by simp [okP, a2]
              clear a1 a2 hw
              have HP := Lib.hid (show (pre ++ [x]).all (fun x => okP x.1) = true by rw [List.all_append, h2]; simpa [hx1] using hok)
              clear hbw hok h h2 hx1
              gi_wp2_with (first | (gi_at_call 98; refine (CallsIn.inRound lp (callsIn_wide.2 (HW.out _))).mono ?_; rintro e w1 ⟨rfl, hb1⟩; have hI1 := HI.out.below hb1; have hc1 := hI1.bx.cell; have hf1 := hI1.bx.frozen; have HI1 := Lib.hid hI1; have HB1 := Lib.hid hb1; clear hI1 hb1) | (refine ⟨fun h => (by simp [Fence.wide] at h), ?_⟩) | (refine ⟨(show Fence.wide.fn _ from trivial), ?_⟩))
              exact ⟨KeepsFrom.below HB1.out, KeepsP.below HB1.out, HI1.out, HP.out⟩
            | false =>
              have hok : okP (p, false) = false := by simp [okP, hw, a1]
              clear a1 a2 hw
              have HP := Lib.hid (show (pre ++ [x]).all (fun x => okP x.1) = false by rw [List.all_append]; simp [hx1, hok])
              clear hbw hok h h2 hx1
              gi_wp2_with (first | (gi_at_call 98; refine (CallsIn.inRound lp (callsIn_wide.2 (HW.out _))).mono ?_; rintro e w1 ⟨rfl, hb1⟩; have hI1 := HI.out.below hb1; have hc1 := hI1.bx.cell; have hf1 := hI1.bx.frozen; have HI1 := Lib.hid hI1; have HB1 := Lib.hid hb1; clear hI1 hb1) | (refine ⟨fun h => (by simp [Fence.wide] at h), ?_⟩) | (refine ⟨(show Fence.wide.fn _ from trivial), ?_⟩))
              exact ⟨(KeepsFrom.below HB1.out).trans (KeepsFrom.set _ _ (by omega)), rfl, HI1.out.set false, HP.out⟩
          · have b2 : (p == [35]) = false := by simpa using a2
            have hok : okP (p, last) = false := by simp [okP, hw, a1, a2]
            clear a1 a2 hw
            have HP := Lib.hid (show (pre ++ [x]).all (fun x => okP x.1) = false by rw [List.all_append]; simp [hx1, hok])
            clear hbw hok h h2 hx1
            gi_wp2_with (first | (gi_at_call 98; refine (CallsIn.inRound lp (callsIn_wide.2 (HW.out _))).mono ?_; rintro e w1 ⟨rfl, hb1⟩; have hI1 := HI.out.below hb1; have hc1 := hI1.bx.cell; have hf1 := hI1.bx.frozen; have HI1 := Lib.hid hI1; have HB1 := Lib.hid hb1; clear hI1 hb1) | (refine ⟨fun h => (by simp [Fence.wide] at h), ?_⟩) | (refine ⟨(show Fence.wide.fn _ from trivial), ?_⟩))
            exact ⟨(KeepsFrom.below HB1.out).trans (KeepsFrom.set _ _ (by omega)), rfl, HI1.out.set false, HP.out⟩
  · have q0 : (30 : Int) < (l.length : Int) := by omega
    have e : patB l = false := by unfold patB; rw [decide_eq_false h30, Bool.and_false]
    rw [e]
    gi_wp2
    exact leaves_box0 (w := w) rfl rfl ⟨(Below.refl _ w).alloc (Nat.le_refl _) _, Boxed.new w _ _⟩ (fun W' hb => ⟨rfl, hb⟩)
end Go.Proofs.YtodckdkbheapfaaGreat
