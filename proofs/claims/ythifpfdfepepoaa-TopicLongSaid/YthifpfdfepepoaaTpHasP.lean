/-
  The contracts of the program's has and Wanted (layer topic).
-/
import Derived.Test.YthifpfdfepepoaaTpAttrsP
import Derived.Test.YthifpfdfepepoaaTpLessM
set_option linter.unusedVariables false
namespace Go.Tp
open Go
theorem pairsP_ne : ∀ (last : List UInt8) (ps : List (List UInt8)), pairsP last ps = true → ∀ p ∈ ps, p ≠ []
  | _, [], _, p, hp => by cases hp
  | last, q :: ps, h, p, hp => by
    rw [pairsP, Bool.and_eq_true] at h
    rcases List.mem_cons.1 hp with e | e
    · intro h0
      rw [← e, h0] at h
      have := h.1
      simp [pairOk, splitL] at this
    · exact pairsP_ne _ ps h.2 p e
theorem want_parts {a b : List UInt8} (ha : attrsB a = true) (hb : attrsB b = true) (h0 : a ≠ []) : wantB a b = (splitL 44 a).all fun x => (splitL 44 b).contains x := by
  obtain ⟨h1, h2, h3⟩ := attrs_yes h0 ha
  have ha' : (pairsR a).2 = true := ha
  have hb' : (pairsR b).2 = true := hb
  unfold wantB
  rw [ha', hb', h3, Bool.and_self, Bool.and_true]
  by_cases hb0 : b = []
  · subst hb0
    have this : ∀ x ∈ splitL 44 a, (pairsR []).1.contains x = (splitL 44 []).contains x := fun x hx => by
      have := pairsP_ne _ _ h1 x hx
      rw [show pairsR [] = ([], true) from rfl, show splitL 44 [] = [[]] from rfl]
      simp [this]
    rw [Bool.eq_iff_iff, List.all_eq_true, List.all_eq_true]
    exact ⟨fun h x hx => by rw [← this x hx]; exact h x hx, fun h x hx => by rw [this x hx]; exact h x hx⟩
  · rw [(attrs_yes hb0 hb).2.2]
theorem want_no1 {a b : List UInt8} (h : attrsB a = false) : wantB a b = false := by
  have : (pairsR a).2 = false := h
  unfold wantB
  rw [this]; simp
theorem want_no2 {a b : List UInt8} (h : attrsB b = false) : wantB a b = false := by
  have : (pairsR b).2 = false := h
  unfold wantB
  rw [this]; simp
end Go.Tp
namespace Go.Proofs.Ythifpfdfepepoaa
open Go.RowKit Go.Rst Go.Tp Go.Shelf
attribute [local go_sem] Oper.semAt_some
theorem contains_any (ps : List (List UInt8)) (q : List UInt8) : ps.contains q = ps.any fun x => x == q := by
  induction ps with
  | nil => rfl
  | cons p ps ih =>
    rw [List.contains_cons, List.any_cons, ih]
    congr 1
    exact Bool.beq_comm
set_option maxRecDepth 100000 in
set_option maxHeartbeats 4000000 in
theorem has_any (l q : List UInt8) (hl : l.length ≤ 1000000) (w : World) : Calls Try.prog 27 #[sv l, sv q] w fun e w' => e = .returned (.bool ((splitL 44 l).contains q)) ∧ Below w.heap.size w w' := by
  rw [contains_any]
  refine (callsIn_wide (n := 3)).1 ?_
  refine callsIn_of_wp_marks Try.func27 rfl trivial ?_ rfl
  simp only [Try.ntmps27, List.size_toArray, List.length_cons, List.length_nil, Nat.reduceAdd, Nat.reduceSub, Array.replicate_succ, Array.replicate_zero, List.push_toArray, List.append_toArray, List.nil_append, List.cons_append]
  have hp1 : ∀ n (w : World), CallsIn Fence.wide n Try.prog 19 #[sv l, .int .i32 44] w _ := fun n w => parts_in n l 44 w
  gi_wp2_with (first | (gi_at_call 19; refine (hp1 _ _).mono ?_; rintro e w2 ⟨rfl, rfl⟩) | (refine ⟨(show Fence.wide.fn _ from trivial), ?_⟩))
  obtain ⟨w1, hw1⟩ : ∃ w1, w1 = w.alloc (.cells #[sv q] 9) := ⟨_, rfl⟩
  have hs1 : w1.heap.size = w.heap.size + 1 := by rw [hw1]; simp
  have hbw : Below w.heap.size w w1 := by rw [hw1]; exact (Below.refl _ w).alloc (Nat.le_refl _) _
  have hbq : Boxed w1 w.heap.size 9 (sv q) := by rw [hw1]; exact Boxed.new w _ _
  rw [← hw1, ← hs1]
  have hri0 : RI w1 false (((w1.alloc (.cells #[.bool false] 4)).alloc (.cells #[sv l] 9)).alloc (.cells #[.int .i32 44] 21)) :=
    ⟨(((Below.refl _ w1).alloc (Nat.le_refl _) _).alloc (by simp) _).alloc (by simp; omega) _, ((Boxed.new w1 _ _).alloc _).alloc _⟩
  have hkb0 := kb_new (w1.alloc (.cells #[.bool false] 4)) l 44
  rw [World.size_alloc] at hkb0
  have hsz0 : (((w1.alloc (.cells #[.bool false] 4)).alloc (.cells #[sv l] 9)).alloc (.cells #[.int .i32 44] 21)).heap.size = w1.heap.size + 3 := by simp
  have hq0 := ((hbq.alloc (.cells #[.bool false] 4)).alloc (.cells #[sv l] 9)).alloc (.cells #[.int .i32 44] 21)
  obtain ⟨W0, hW0⟩ : ∃ W0, W0 = (((w1.alloc (.cells #[.bool false] 4)).alloc (.cells #[sv l] 9)).alloc (.cells #[.int .i32 44] 21)) := ⟨_, rfl⟩
  have hkb : KB (w1.heap.size + 1) l 44 W0 := by rw [hW0]; exact hkb0
  rw [← hW0] at hri0 hsz0 hq0 ⊢
  have HBW := Lib.hid hbw
  have HS1 := Lib.hid hs1
  obtain ⟨b0, hb0⟩ : ∃ b0, b0 = w.heap.size := ⟨_, rfl⟩
  rw [← hb0] at hq0 hs1 ⊢
  have hlt0 : b0 < w1.heap.size := by omega
  clear hW0 hkb0 hp1 hw1 hs1 hbw hbq hb0
  refine wpIn_rangeFunc_ownG rfl (by decide) (gf := 28) (lb := #[.pointer (some ⟨w1.heap.size + 1, 0, none⟩), .pointer (some ⟨w1.heap.size + 1 + 1, 0, none⟩)]) rfl trivial (enters_of Try.func28 (by kernel_rfl) rfl)
    (parts_stops 2 (w1.heap.size + 1) l 44 (by omega) (by decide) W0 (by omega) hkb) (fun h k => KeepsP.trans h k) (fun X l o o' _ hlo hc hw => KeepsP.turn X l o o' hlo hc hw) (Below.refl _ _) (fun _ => rfl)
    (fun pre X => RI w1 false X ∧ Boxed X b0 9 (sv q) ∧ pre.any (fun x => x.1.1 == q) = false)
    (fun c pre X => c = .ret ∧ RI w1 true X ∧ pre.any (fun x => x.1.1 == q) = true)
    ?oi ?ox ⟨hri0, hq0, rfl⟩
    (fun x => { tmps := #[sv l, sv q, undef, .pointer (some ⟨b0, 0, none⟩), .pointer (some ⟨w1.heap.size, 0, none⟩), sv x.1.1, sv l, .func (.func 28) #[] #[.pointer (some ⟨w1.heap.size + 1, 0, none⟩), .pointer (some ⟨w1.heap.size + 1 + 1, 0, none⟩)], sv x.1.1, .bool x.1.2, undef, undef, undef], defers := [] }) ?assign ?body ?done ?stop
  case oi =>
    rintro pre X Y row ⟨h, hq, h2⟩ hg hr
    exact ⟨h.grown hg (by omega) hr, hq.kept hg (fun e => by have := (hr _ e.symm).1; omega), h2⟩
  case ox =>
    rintro c pre X Y row ⟨rfl, h, h2⟩ hg hr
    exact ⟨rfl, h.grown hg (by omega) hr, h2⟩
  case assign =>
    intro l x X K hK
    gi_wp2
    exact hK
  case stop =>
    rintro D c pre X hD hS ⟨rfl, h, h2⟩ hK
    have e : ((splitL 44 l).any fun x => x == q) = true := by
      obtain ⟨x, hx, hw⟩ := List.any_eq_true.1 h2
      exact List.any_eq_true.2 ⟨x.1.1, part_mem hS hx, hw⟩
    have HE := Lib.hid e
    clear e
    gi_wp2
    exact leaves_box rfl rfl h (by omega) hK (fun W' hb => ⟨by rw [HE.out], HBW.out.trans (hb.mono HBW.out.size)⟩)
  case done =>
    rintro D xs X hD hS ⟨h, hq, h2⟩ hK
    have e : ((splitL 44 l).any fun x => x == q) = false := by
      rw [← parts_all hS, List.any_map]
      exact h2
    have hc := h.bx.cell
    have hf := h.bx.frozen
    have HE := Lib.hid e
    have HR := Lib.hid (h.set false)
    have hK2 : (X.setCell ⟨w1.heap.size, 0, none⟩ (.bool false)).heap[D]? = some (.deferred (some [])) := (Below.heap_setCell _ _ _ _ (fun e => by have e2 : D = w1.heap.size := e; omega)).trans hK
    have HK2 := Lib.hid hK2
    clear h h2 hK hS hK2 e hq
    gi_wp2
    exact leaves_box rfl rfl HR.out (by omega) HK2.out (fun W' hb => ⟨by rw [HE.out], HBW.out.trans (hb.mono HBW.out.size)⟩)
  case body =>
    rintro lp pre x X ⟨h, hq, h2⟩ hlt
    have hc := h.bx.cell
    have hf := h.bx.frozen
    have hcq := hq.cell
    have HI := Lib.hid h
    have HQ := Lib.hid hq
    cases hxq : (x.1.1 == q) with
    | false =>
      have HP := Lib.hid (show (pre ++ [x]).any (fun x => x.1.1 == q) = false by rw [List.any_append, h2]; simpa using hxq)
      clear h2 h hq
      gi_wp2_with (first | (refine ⟨fun h => (by simp [Fence.wide] at h), ?_⟩) | (refine ⟨(show Fence.wide.fn _ from trivial), ?_⟩))
      exact ⟨KeepsFrom.below (Below.refl _ _), KeepsP.below (Below.refl _ _), HI.out, HQ.out, HP.out⟩
    | true =>
      have HP := Lib.hid (show (pre ++ [x]).any (fun x => x.1.1 == q) = true by rw [List.any_append]; simp only [List.any_cons, hxq]; simp)
      clear h2 h hq
      gi_wp2_with (first | (refine ⟨fun h => (by simp [Fence.wide] at h), ?_⟩) | (refine ⟨(show Fence.wide.fn _ from trivial), ?_⟩))
      exact ⟨KeepsFrom.set _ _ (by omega), rfl, HI.out.set true, HP.out⟩

/-- What Wanted keeps: a result's box, and the box of what stands beside. -/
structure RJ (w : World) (m : List UInt8) (b : Bool) (X : World) : Prop where
  be : Below w.heap.size w X
  bx : Boxed X (w.heap.size + 1) 4 (.bool b)
  bm : Boxed X w.heap.size 9 (sv m)
theorem RJ.grown {w : World} {m : List UInt8} {b : Bool} {X Y : World} {row : Option Nat} {B : Nat} (h : RJ w m b X) (hg : X.grownBy Y row) (hB : w.heap.size + 1 < B) (hr : ∀ r, row = some r → B ≤ r ∧ ∃ o : Obj, X.heap[r]? = some o ∧ o.isCells = false) : RJ w m b Y :=
  ⟨h.be.grown hg h.be.size (fun k e => by have := (hr k e).1; omega), h.bx.kept hg (fun e => by have := (hr _ e.symm).1; omega), h.bm.kept hg (fun e => by have := (hr _ e.symm).1; omega)⟩
theorem RJ.below {w : World} {m : List UInt8} {b : Bool} {X Y : World} (h : RJ w m b X) (hb : Below X.heap.size X Y) : RJ w m b Y :=
  ⟨h.be.trans (hb.mono h.be.size), (KX.below (p := fun _ _ => True) hb).boxed trivial h.bx, (KX.below (p := fun _ _ => True) hb).boxed trivial h.bm⟩
theorem RJ.set {w : World} {m : List UInt8} {b : Bool} {X : World} (h : RJ w m b X) (b' : Bool) : RJ w m b' (X.setCell ⟨w.heap.size + 1, 0, none⟩ (.bool b')) :=
  ⟨h.be.trans ((Below.refl _ X).setCell (by simp) _), h.bx.set _, h.bm.kept (grownBy_setCell' X _ _) (fun e => by injection e; omega)⟩
theorem RJ.start (w : World) (m : List UInt8) (b : Bool) : RJ w m b ((w.alloc (.cells #[sv m] 9)).alloc (.cells #[.bool b] 4)) := by
  have h2 := Boxed.new (w.alloc (.cells #[sv m] 9)) 4 (.bool b)
  rw [World.size_alloc] at h2
  exact ⟨((Below.refl _ w).alloc (Nat.le_refl _) _).alloc (by simp) _, h2, (Boxed.new w _ _).alloc _⟩
theorem leaves_boxJ {F : Fence} {n : Nat} {fn : Func} {w X : World} {m : List UInt8} {b : Bool} {tmps : Array Value} {p : Nat} {R : Ending → World → Prop} (hfn : fn.results = #[.cell p 4]) (hp : tmps.getD p undef = .pointer (some ⟨w.heap.size + 1, 0, none⟩)) (h : RJ w m b X)
    {D : Nat} (hD : w.heap.size ≤ D) (hK : X.heap[D]? = some (.deferred (some []))) (hR : ∀ W', Below w.heap.size w W' → R (.returned (.bool b)) W') :
    LeavesInM F n Try.prog fn tmps R [{ target := .collected D, args := #[] }] .returning X :=
  leaves_marks (base := w.heap.size) (hi := X.heap.size) ⟨⟨D, rfl, hD, (Array.getElem?_eq_some_iff.1 hK).1, hK, fun d hd => by cases hd⟩, trivial⟩
    (fun W' hk hb => ⟨_, leaveB hfn hp (hk.boxed trivial h.bx).cell, hR W' (h.be.trans hb)⟩)
theorem leaves_boxJ0 {F : Fence} {n : Nat} {fn : Func} {w X : World} {m : List UInt8} {b : Bool} {tmps : Array Value} {p : Nat} {R : Ending → World → Prop} (hfn : fn.results = #[.cell p 4]) (hp : tmps.getD p undef = .pointer (some ⟨w.heap.size + 1, 0, none⟩)) (h : RJ w m b X)
    (hR : ∀ W', Below w.heap.size w W' → R (.returned (.bool b)) W') : LeavesInM F n Try.prog fn tmps R [] .returning X :=
  leaves_marks (base := w.heap.size) (hi := X.heap.size) trivial (fun W' hk hb => ⟨_, leaveB hfn hp (hk.boxed trivial h.bx).cell, hR W' (h.be.trans hb)⟩)

set_option maxRecDepth 100000 in
set_option maxHeartbeats 4000000 in
theorem wantP_any (l m : List UInt8) (w : World) : Calls Try.prog 18 #[sv l, sv m] w fun e w' => e = .returned (.bool (wantB l m)) ∧ Below w.heap.size w w' := by
  have HAL := Lib.hid (attrsP_any l)
  have HAM := Lib.hid (attrsP_any m)
  refine (callsIn_wide (n := 3)).1 ?_
  refine callsIn_of_wp_marks Try.func18 rfl trivial ?_ rfl
  simp only [Try.ntmps18, List.size_toArray, List.length_cons, List.length_nil, Nat.reduceAdd, Nat.reduceSub, Array.replicate_succ, Array.replicate_zero, List.push_toArray, List.append_toArray, List.nil_append, List.cons_append]
  have H0 := Lib.hid (RJ.start w m false)
  cases hal : attrsB l with
  | false =>
    have HE := Lib.hid (want_no1 (b := m) hal)
    rw [hal] at HAL
    clear hal
    gi_wp2_with (first | (gi_at_call 12; refine (callsIn_wide.2 (HAL.out _)).mono ?_; rintro e w1 ⟨rfl, hb1⟩; have hI1 := H0.out.below hb1; have hc1 := hI1.bx.cell; have hf1 := hI1.bx.frozen; have hm1 := hI1.bm.cell; have HI1 := Lib.hid hI1; clear hI1 hb1) | (refine ⟨(show Fence.wide.fn _ from trivial), ?_⟩))
    exact leaves_boxJ0 (w := w) rfl rfl (HI1.out.set false) (fun W' hb => ⟨by rw [HE.out], hb⟩)
  | true =>
  rw [hal] at HAL
  cases ham : attrsB m with
  | false =>
    have HE := Lib.hid (want_no2 (a := l) ham)
    rw [ham] at HAM
    clear hal ham
    gi_wp2_with (first | (gi_at_call 12; first | (refine (callsIn_wide.2 (HAM.out w1)).mono ?_; rintro e w2 ⟨rfl, hb2⟩; have hI2 := HI1.out.below hb2; have hc2 := hI2.bx.cell; have hf2 := hI2.bx.frozen; have HI2 := Lib.hid hI2; clear hI2 hb2 hm1) | (refine (callsIn_wide.2 (HAL.out _)).mono ?_; rintro e w1 ⟨rfl, hb1⟩; have hI1 := H0.out.below hb1; have hm1 := hI1.bm.cell; have HI1 := Lib.hid hI1; clear hI1 hb1)) | (refine ⟨(show Fence.wide.fn _ from trivial), ?_⟩))
    exact leaves_boxJ0 (w := w) rfl rfl (HI2.out.set false) (fun W' hb => ⟨by rw [HE.out], hb⟩)
  | true =>
  rw [ham] at HAM
  by_cases hl0 : l = []
  · have HE := Lib.hid (show wantB l m = true by rw [hl0, want_none, ham])
    have b0 : (l == []) = true := by rw [hl0]; rfl
    clear hal ham hl0
    gi_wp2_with (first | (gi_at_call 12; first | (refine (callsIn_wide.2 (HAM.out w1)).mono ?_; rintro e w2 ⟨rfl, hb2⟩; have hI2 := HI1.out.below hb2; have hc2 := hI2.bx.cell; have hf2 := hI2.bx.frozen; have HI2 := Lib.hid hI2; clear hI2 hb2 hm1) | (refine (callsIn_wide.2 (HAL.out _)).mono ?_; rintro e w1 ⟨rfl, hb1⟩; have hI1 := H0.out.below hb1; have hm1 := hI1.bm.cell; have HI1 := Lib.hid hI1; clear hI1 hb1)) | (refine ⟨(show Fence.wide.fn _ from trivial), ?_⟩))
    exact leaves_boxJ0 (w := w) rfl rfl (HI2.out.set true) (fun W' hb => ⟨by rw [HE.out], hb⟩)
  · have HWE := Lib.hid (want_parts hal ham hl0)
    have b0 : (l == []) = false := by simpa using hl0
    have hll : l.length ≤ 30 := (attrs_yes hl0 hal).2.1
    have hml : m.length ≤ 30 := by
      by_cases hm0 : m = []
      · rw [hm0]; simp
      · exact (attrs_yes hm0 ham).2.1
    have HHAS := Lib.hid (fun q => has_any m q (by omega))
    have hp1 : ∀ n (w : World), CallsIn Fence.wide n Try.prog 19 #[sv l, .int .i32 44] w _ := fun n w => parts_in n l 44 w
    clear hal ham hl0
    gi_wp2_with (first | (gi_at_call 12; first | (refine (callsIn_wide.2 (HAM.out w1)).mono ?_; rintro e w2 ⟨rfl, hb2⟩; have HI2 := Lib.hid (HI1.out.below hb2); clear hb2 hm1) | (refine (callsIn_wide.2 (HAL.out _)).mono ?_; rintro e w1 ⟨rfl, hb1⟩; have hI1 := H0.out.below hb1; have hm1 := hI1.bm.cell; have HI1 := Lib.hid hI1; clear hI1 hb1)) | (gi_at_call 19; refine (hp1 _ _).mono ?_; rintro e w3 ⟨rfl, rfl⟩) | (refine ⟨(show Fence.wide.fn _ from trivial), ?_⟩))
    have hr0 : RJ w m false ((w2.alloc (.cells #[sv l] 9)).alloc (.cells #[.int .i32 44] 21)) := HI2.out.below (((Below.refl _ w2).alloc (Nat.le_refl _) _).alloc (by simp) _)
    have hkb0 := kb_new w2 l 44
    have hsz0 : ((w2.alloc (.cells #[sv l] 9)).alloc (.cells #[.int .i32 44] 21)).heap.size = w2.heap.size + 2 := by simp
    have hw2 : w.heap.size + 1 < w2.heap.size := HI2.out.bx.lt
    obtain ⟨W0, hW0⟩ : ∃ W0, W0 = ((w2.alloc (.cells #[sv l] 9)).alloc (.cells #[.int .i32 44] 21)) := ⟨_, rfl⟩
    have hkb : KB w2.heap.size l 44 W0 := by rw [hW0]; exact hkb0
    rw [← hW0] at hr0 hsz0 ⊢
    obtain ⟨Bl, hBl⟩ : ∃ Bl, Bl = w2.heap.size := ⟨_, rfl⟩
    rw [← hBl] at hkb hsz0 hw2 ⊢
    clear hW0 hkb0 hp1 hBl
    refine wpIn_rangeFunc_ownG rfl (by decide) (gf := 28) (lb := #[.pointer (some ⟨Bl, 0, none⟩), .pointer (some ⟨Bl + 1, 0, none⟩)]) rfl trivial (enters_of Try.func28 (by kernel_rfl) rfl)
      (parts_stops 2 Bl l 44 (by omega) (by decide) W0 (by omega) hkb) (fun h k => KeepsP.trans h k) (fun X l o o' _ hlo hc hw => KeepsP.turn X l o o' hlo hc hw) (Below.refl _ _) (fun _ => rfl)
      (fun pre X => RJ w m false X ∧ pre.all (fun x => (splitL 44 m).contains x.1.1) = true)
      (fun c pre X => c = .ret ∧ RJ w m false X ∧ pre.all (fun x => (splitL 44 m).contains x.1.1) = false)
      ?oi ?ox ⟨hr0, rfl⟩
      (fun x => { tmps := #[sv l, sv m, undef, .pointer (some ⟨w.heap.size, 0, none⟩), .pointer (some ⟨w.heap.size + 1, 0, none⟩), sv x.1.1, sv l, .bool true, .bool false, .bool false, sv m, .bool true, .bool false, .bool false, sv l, .bool false, sv l, .func (.func 28) #[] #[.pointer (some ⟨Bl, 0, none⟩), .pointer (some ⟨Bl + 1, 0, none⟩)], sv x.1.1, .bool x.1.2, undef, undef, undef, undef], defers := [] }) ?assign ?body ?done ?stop
    case oi =>
      rintro pre X Y row ⟨h, h2⟩ hg hr
      exact ⟨h.grown hg (by omega) hr, h2⟩
    case ox =>
      rintro c pre X Y row ⟨rfl, h, h2⟩ hg hr
      exact ⟨rfl, h.grown hg (by omega) hr, h2⟩
    case assign =>
      intro l x X K hK
      gi_wp2
      exact hK
    case stop =>
      rintro D c pre X hD hS ⟨rfl, h, h2⟩ hK
      have e : wantB l m = false := by
        obtain ⟨x, hx, hw⟩ := List.all_eq_false.1 h2
        rw [HWE.out]
        exact List.all_eq_false.2 ⟨x.1.1, part_mem hS hx, hw⟩
      have HE := Lib.hid e
      clear e
      gi_wp2
      exact leaves_boxJ rfl rfl h (by omega) hK (fun W' hb => ⟨by rw [HE.out], hb⟩)
    case done =>
      rintro D xs X hD hS ⟨h, h2⟩ hK
      have e : wantB l m = true := by
        rw [HWE.out, ← parts_all hS, List.all_map]
        exact h2
      have hc := h.bx.cell
      have hf := h.bx.frozen
      have HE := Lib.hid e
      have HR := Lib.hid (h.set true)
      have hK2 : (X.setCell ⟨w.heap.size + 1, 0, none⟩ (.bool true)).heap[D]? = some (.deferred (some [])) := (Below.heap_setCell _ _ _ _ (fun e => by have e2 : D = w.heap.size + 1 := e; omega)).trans hK
      have HK2 := Lib.hid hK2
      clear h h2 hK hS hK2 e
      gi_wp2
      exact leaves_boxJ rfl rfl HR.out (by omega) HK2.out (fun W' hb => ⟨by rw [HE.out], hb⟩)
    case body =>
      rintro lp pre x X ⟨h, h2⟩ hlt
      have hcm := h.bm.cell
      have HI := Lib.hid h
      have hbw := HHAS.out x.1.1 X
      cases hxq : (splitL 44 m).contains x.1.1 with
      | false =>
        rw [hxq] at hbw
        have HW := Lib.hid hbw
        have HP := Lib.hid (show (pre ++ [x]).all (fun x => (splitL 44 m).contains x.1.1) = false by rw [List.all_append]; simp only [List.all_cons, hxq]; simp)
        clear h2 h hbw hxq
        gi_wp2_with (first | (gi_at_call 27; refine (CallsIn.inRound lp (callsIn_wide.2 HW.out)).mono ?_; rintro e w3 ⟨rfl, hb3⟩; have hI3 := HI.out.below hb3; have hc3 := hI3.bx.cell; have hf3 := hI3.bx.frozen; have HI3 := Lib.hid hI3; have HB3 := Lib.hid hb3; clear hI3 hb3) | (refine ⟨fun h => (by simp [Fence.wide] at h), ?_⟩) | (refine ⟨(show Fence.wide.fn _ from trivial), ?_⟩))
        exact ⟨(KeepsFrom.below HB3.out).trans (KeepsFrom.set _ _ (by omega)), rfl, HI3.out.set false, HP.out⟩
      | true =>
        rw [hxq] at hbw
        have HW := Lib.hid hbw
        have HP := Lib.hid (show (pre ++ [x]).all (fun x => (splitL 44 m).contains x.1.1) = true by rw [List.all_append, h2]; simp only [List.all_cons, hxq]; simp)
        clear h2 h hbw hxq
        gi_wp2_with (first | (gi_at_call 27; refine (CallsIn.inRound lp (callsIn_wide.2 HW.out)).mono ?_; rintro e w3 ⟨rfl, hb3⟩; have HI3 := Lib.hid (HI.out.below hb3); have HB3 := Lib.hid hb3; clear hb3) | (refine ⟨fun h => (by simp [Fence.wide] at h), ?_⟩) | (refine ⟨(show Fence.wide.fn _ from trivial), ?_⟩))
        exact ⟨KeepsFrom.below HB3.out, KeepsP.below HB3.out, HI3.out, HP.out⟩
end Go.Proofs.Ythifpfdfepepoaa
