/-
  The contract of the program's Match (layer topic).; The contract of the program's Attrs (layer topic).
-/
import Derived.Test.YtcmkmdghekkkhaaDoorKRCD
import Derived.Test.YtcmkmdghekkkhaaDoorKRCE
set_option linter.unusedVariables false
set_option linter.unusedVariables false
namespace Go.Tp
open Go
end Go.Tp
namespace Go.Proofs.YtcmkmdghekkkhaaDoor
open Go.RowKit Go.Rst Go.Tp Go.Shelf
attribute [local go_sem] Oper.semAt_some
theorem KeepsP.set {Bs g : Nat} {l : List UInt8} {c : UInt8} (X : World) (v : Value) (h1 : g ≠ Bs) (h2 : g ≠ Bs + 1) : KeepsP Bs l c X (X.setCell ⟨g, 0, none⟩ v) :=
  ⟨fun h => h.kept (grownBy_setCell' X g v) (fun e => h1 (by injection e with e; exact e.symm)) (fun e => h2 (by injection e with e; exact e.symm)), KeepsWalks.setCell X _ v⟩
theorem RI.setOther {w : World} {b : Bool} {X : World} (h : RI w b X) {g : Nat} (hg : w.heap.size < g) (v : Value) : RI w b (X.setCell ⟨g, 0, none⟩ v) :=
  ⟨h.be.trans ((Below.refl _ X).setCell (by simp; omega) _), h.bx.kept (grownBy_setCell' X g v) (fun e => by injection e; omega)⟩
end Go.Proofs.YtcmkmdghekkkhaaDoor
set_option linter.unusedVariables false
namespace Go.Tp
open Go
def goP : List UInt8 → List (List UInt8) → Option (List UInt8)
  | last, [] => some last
  | last, p :: ps => if pairOk last p = true then goP (firstOf p) ps else none
theorem goP_some : ∀ last ps, pairsP last ps = (goP last ps).isSome
  | _, [] => rfl
  | last, p :: ps => by
    rw [pairsP, goP, goP_some (firstOf p) ps]
    cases h : pairOk last p
    · simp
    · simp
theorem goP_append : ∀ last a b, goP last (a ++ b) = (goP last a).bind fun m => goP m b
  | _, [], _ => rfl
  | last, p :: ps, b => by
    rw [List.cons_append, goP, goP]
    split
    · exact goP_append _ ps b
    · rfl
theorem word_free {p : List UInt8} (h : wordB p = true) : ∀ x ∈ p, x ≠ 61 := by
  intro x hx e
  unfold wordB at h
  rw [Bool.and_eq_true, List.all_eq_true] at h
  have := h.1 x hx
  rw [e] at this
  revert this; decide
theorem pairOk_cut (last p : List UInt8) : pairOk last p = (wordB (cutL 61 p).1 && wordB (cutL 61 p).2.1 && !leS (cutL 61 p).1 last) := by
  cases hf : (cutL 61 p).2.2 with
  | false =>
    have hm := cut_miss 61 p hf
    have hfree := cut_free 61 p
    rw [hm] at hfree ⊢
    unfold pairOk
    rw [splitL_last 61 p hfree]
    simp [wordB]
  | true =>
    have hh := cut_hit 61 p hf
    have hfree := cut_free 61 p
    generalize (cutL 61 p).1 = a at *
    generalize (cutL 61 p).2.1 = b at *
    subst hh
    unfold pairOk
    rw [splitL_part 61 a hfree]
    cases hb : wordB b with
    | true =>
      rw [splitL_last 61 b (word_free hb)]
      simp [hb]
    | false =>
      cases hs : splitL 61 b with
      | nil => exact absurd hs (splitL_ne 61 b)
      | cons q qs =>
        cases qs with
        | nil =>
          have h1 : q = b := by
            cases hc : (cutL 61 b).2.2 with
            | false =>
              have hm := cut_miss 61 b hc
              have hfr := cut_free 61 b
              rw [hm] at hfr
              rw [splitL_last 61 b hfr] at hs
              injection hs with hs _
              exact hs.symm
            | true =>
              have hh := cut_hit 61 b hc
              rw [hh, splitL_part 61 _ (cut_free 61 b)] at hs
              injection hs with _ hs
              exact absurd hs (splitL_ne 61 _)
          simp [h1, hb]
        | cons r rs => simp
theorem first_cut {last p : List UInt8} (h : pairOk last p = true) : firstOf p = (cutL 61 p).1 := by
  rw [pairOk_cut, Bool.and_eq_true, Bool.and_eq_true] at h
  cases hf : (cutL 61 p).2.2 with
  | false =>
    have hm := cut_miss 61 p hf
    rw [hm] at h
    exact absurd h.1.2 (by simp [wordB])
  | true =>
    have hh := cut_hit 61 p hf
    conv => lhs; rw [hh]
    unfold firstOf
    rw [splitL_part 61 _ (cut_free 61 p)]
    rfl
end Go.Tp
namespace Go.Proofs.YtcmkmdghekkkhaaDoor
open Go.RowKit Go.Rst Go.Tp Go.Shelf
attribute [local go_sem] Oper.semAt_some
structure AI (w : World) (ps : List (List UInt8)) (X : World) : Prop where
  ri : RI w false X
  st : ∃ r, goP [] ps = some r ∧ Boxed X (w.heap.size + 1) 9 (sv r)
set_option maxRecDepth 100000 in
set_option maxHeartbeats 4000000 in
theorem attrsP_any (l : List UInt8) (w : World) : Calls Tryd.prog 39 #[sv l] w fun e w' => e = .returned (.bool (attrsB l)) ∧ Below w.heap.size w w' := by
  refine (callsIn_wide (n := 3)).1 ?_
  refine callsIn_of_wp_marks Tryd.func39 rfl trivial ?_ rfl
  simp only [Tryd.ntmps39, List.size_toArray, List.length_cons, List.length_nil, Nat.reduceAdd, Nat.reduceSub, Array.replicate_succ, Array.replicate_zero, List.push_toArray, List.append_toArray, List.nil_append, List.cons_append]
  have h0 : RI w false (w.alloc (.cells #[.bool false] 4)) := ⟨(Below.refl _ w).alloc (Nat.le_refl _) _, Boxed.new w _ _⟩
  have H0 := Lib.hid h0
  clear h0
  by_cases hl0 : l = []
  · have b0 : (l == []) = true := by rw [hl0]; rfl
    have HE := Lib.hid (show attrsB l = true by rw [hl0]; rfl)
    clear hl0
    gi_wp2
    exact leaves_box0 (w := w) rfl rfl (b := true) ⟨(Below.refl _ w).alloc (Nat.le_refl _) _, Boxed.new w _ _⟩ (fun W' hb => ⟨by rw [HE.out], hb⟩)
  have b0 : (l == []) = false := by simpa using hl0
  have HL0 := Lib.hid hl0
  by_cases h30 : l.length ≤ 30
  · have q0 : ¬ (30 : Int) < (l.length : Int) := by omega
    have hat : attrsB l = (goP [] (splitL 44 l)).isSome := by
      unfold attrsB pairsR
      rw [if_neg hl0, ← goP_some]
      cases h : pairsP [] (splitL 44 l)
      · simp
      · simp [h30]
    have HAT := Lib.hid hat
    clear hat hl0
    have hp1 : ∀ n (w : World), CallsIn Fence.wide n Tryd.prog 58 #[sv l, .int .i32 44] w _ := fun n w => parts_in n l 44 w
    gi_wp2_with (first | (gi_at_call 58; refine (hp1 _ _).mono ?_; rintro e w2 ⟨rfl, rfl⟩) | (refine ⟨(show Fence.wide.fn _ from trivial), ?_⟩))
    have hai0 : AI w [] ((((w.alloc (.cells #[.bool false] 4)).alloc (.cells #[sv []] 9)).alloc (.cells #[sv l] 9)).alloc (.cells #[.int .i32 44] 21)) := by
      refine ⟨⟨((((Below.refl _ w).alloc (Nat.le_refl _) _).alloc (by simp) _).alloc (by simp; omega) _).alloc (by simp; omega) _, (((Boxed.new w _ _).alloc _).alloc _).alloc _⟩, [], rfl, ?_⟩
      have h2 := Boxed.new (w.alloc (.cells #[.bool false] 4)) 9 (sv [])
      rw [World.size_alloc] at h2
      exact (h2.alloc _).alloc _
    have hkb0 := kb_new ((w.alloc (.cells #[.bool false] 4)).alloc (.cells #[sv []] 9)) l 44
    rw [World.size_alloc, World.size_alloc] at hkb0
    have hsz0 : ((((w.alloc (.cells #[.bool false] 4)).alloc (.cells #[sv []] 9)).alloc (.cells #[sv l] 9)).alloc (.cells #[.int .i32 44] 21)).heap.size = w.heap.size + 4 := by simp
    obtain ⟨W0, hW0⟩ : ∃ W0, W0 = ((((w.alloc (.cells #[.bool false] 4)).alloc (.cells #[sv []] 9)).alloc (.cells #[sv l] 9)).alloc (.cells #[.int .i32 44] 21)) := ⟨_, rfl⟩
    have hkb : KB (w.heap.size + 1 + 1) l 44 W0 := by rw [hW0]; exact hkb0
    rw [← hW0] at hai0 hsz0
    rw [← hW0]
    clear hW0 hkb0 hp1
    refine wpIn_rangeFunc_ownG rfl (by decide) (gf := 75) (lb := #[.pointer (some ⟨w.heap.size + 1 + 1, 0, none⟩), .pointer (some ⟨w.heap.size + 1 + 1 + 1, 0, none⟩)]) rfl trivial (enters_of Tryd.func75 (by kernel_rfl) rfl)
      (parts_stops 2 (w.heap.size + 1 + 1) l 44 (by omega) (by decide) W0 (by omega) hkb) (fun h k => KeepsP.trans h k) (fun X l o o' _ hlo hc hw => KeepsP.turn X l o o' hlo hc hw) (Below.refl _ _) (fun _ => rfl)
      (fun pre X => AI w (pre.map (·.1.1)) X)
      (fun c pre X => c = .ret ∧ RI w false X ∧ goP [] (pre.map (·.1.1)) = none)
      ?oi ?ox hai0
      (fun x => { tmps := #[sv l, undef, .pointer (some ⟨w.heap.size, 0, none⟩), .pointer (some ⟨w.heap.size + 1, 0, none⟩), sv x.1.1, undef, undef, undef, sv l, .bool false, sv l, .int .i64 l.length, .bool false, sv l, .func (.func 75) #[] #[.pointer (some ⟨w.heap.size + 1 + 1, 0, none⟩), .pointer (some ⟨w.heap.size + 1 + 1 + 1, 0, none⟩)], sv x.1.1, .bool x.1.2, undef, undef, undef, undef, undef, undef, undef, undef, undef, undef, undef, undef, undef, undef, undef, undef, undef, undef, undef, undef], defers := [] }) ?assign ?body ?done ?stop
    case oi =>
      rintro pre X Y row ⟨h, r, h2, h3⟩ hg hr
      exact ⟨h.grown hg (by omega) hr, r, h2, h3.kept hg (fun e => by have := (hr _ e.symm).1; omega)⟩
    case ox =>
      rintro c pre X Y row ⟨rfl, h, h2⟩ hg hr
      exact ⟨rfl, h.grown hg (by omega) hr, h2⟩
    case assign =>
      intro l x X K hK
      gi_wp2
      exact hK
    case stop =>
      rintro D c pre X hD hS ⟨rfl, h, h2⟩ hK
      have e : attrsB l = false := by
        obtain ⟨q, hq⟩ := hS
        have h3 := congrArg (List.map (·.1)) hq
        rw [List.map_append, lastL_fst, List.map_map] at h3
        have h4 : pre.map (·.1.1) ++ q.map (·.1) = splitL 44 l := h3
        rw [HAT.out, ← h4, goP_append, h2]
        rfl
      have HE := Lib.hid e
      clear e
      gi_wp2
      exact leaves_box rfl rfl h (by omega) hK (fun W' hb => ⟨by rw [HE.out], hb⟩)
    case done =>
      rintro D xs X hD hS ⟨h, r, h2, h3⟩ hK
      have e : attrsB l = true := by
        rw [parts_all hS] at h2
        rw [HAT.out, h2]
        rfl
      have hc := h.bx.cell
      have hf := h.bx.frozen
      have HE := Lib.hid e
      have HR := Lib.hid (h.set true)
      have hK2 : (X.setCell ⟨w.heap.size, 0, none⟩ (.bool true)).heap[D]? = some (.deferred (some [])) := (Below.heap_setCell _ _ _ _ (fun e => by have e2 : D = w.heap.size := e; omega)).trans hK
      have HK2 := Lib.hid hK2
      clear h h2 hK hS hK2 h3 e
      gi_wp2
      exact leaves_box rfl rfl HR.out (by omega) HK2.out (fun W' hb => ⟨by rw [HE.out], hb⟩)
    case body =>
      rintro lp pre x X ⟨h, last, h2, h3⟩ hlt
      have hxl := x.2
      have hpo := pairOk_cut last x.1.1
      have hfc := @first_cut last x.1.1
      have hcut := cut_any x.1.1 61 (by omega) X
      obtain ⟨a, ha⟩ : ∃ a, a = (cutL 61 x.1.1).1 := ⟨_, rfl⟩
      obtain ⟨b, hb⟩ : ∃ b, b = (cutL 61 x.1.1).2.1 := ⟨_, rfl⟩
      rw [← ha, ← hb] at hpo hcut
      rw [← ha] at hfc
      have HRI2 := Lib.hid h
      have HBX := Lib.hid h3
      have HRM := Lib.hid h2
      have HC := Lib.hid hcut
      have HWA := Lib.hid (wordP_bel a)
      have HWB := Lib.hid (wordP_bel b)
      have HOK := Lib.hid hpo
      have HFC := Lib.hid hfc
      clear h h2 h3 hcut hpo hfc ha hb hxl
      cases hwa : wordB a with
      | false =>
        have hok : (wordB a && wordB b && !leS a last) = false := by rw [hwa]; rfl
        rw [hwa] at HWA
        clear hwa
        have HP := Lib.hid (show goP [] ((pre ++ [x]).map (·.1.1)) = none by rw [List.map_append, goP_append, HRM.out]; simp [goP, HOK.out, hok])
        have HX := Lib.hid hok
        clear hok
        gi_wp2_with (first | (gi_at_call 60; refine (CallsIn.inRound lp (callsIn_wide.2 HC.out)).mono ?_; rintro e w1 ⟨rfl, hb1⟩; have hI1 := HRI2.out.below hb1; have hB1 := (KX.below (p := fun _ _ => True) hb1).boxed trivial HBX.out; have HI1 := Lib.hid hI1; have HBX1 := Lib.hid hB1; have HB1 := Lib.hid hb1; clear hI1 hb1 hB1) | (gi_at_call 59; first | (refine (CallsIn.inRound lp (callsIn_wide.2 (HWB.out w2))).mono ?_; rintro e w3 ⟨rfl, hb3⟩; have hI3 := HI2.out.below hb3; have hB3 := (KX.below (p := fun _ _ => True) hb3).boxed trivial HBX2.out; have hc1 := hI3.bx.cell; have hf1 := hI3.bx.frozen; have hc2 := hB3.cell; have hf2 := hB3.frozen; have HI3 := Lib.hid hI3; have HBX3 := Lib.hid hB3; have HB3 := Lib.hid (HB2.out.trans (hb3.mono HB2.out.size)); clear hI3 hb3 hB3) | (refine (CallsIn.inRound lp (callsIn_wide.2 (HWA.out w1))).mono ?_; rintro e w2 ⟨rfl, hb2⟩; have hI2 := HI1.out.below hb2; have hB2 := (KX.below (p := fun _ _ => True) hb2).boxed trivial HBX1.out; have hc1 := hI2.bx.cell; have hf1 := hI2.bx.frozen; have hc2 := hB2.cell; have hf2 := hB2.frozen; have HI2 := Lib.hid hI2; have HBX2 := Lib.hid hB2; have HB2 := Lib.hid (HB1.out.trans (hb2.mono HB1.out.size)); clear hI2 hb2 hB2)) | (refine ⟨fun h => (by simp [Fence.wide] at h), ?_⟩) | (refine ⟨(show Fence.wide.fn _ from trivial), ?_⟩))
        exact ⟨(KeepsFrom.below HB2.out).trans (KeepsFrom.set _ _ (by omega)), rfl, HI2.out.set false, HP.out⟩
      | true =>
      cases hwb : wordB b with
      | false =>
        have hok : (wordB a && wordB b && !leS a last) = false := by rw [hwa, hwb]; rfl
        rw [hwa] at HWA
        rw [hwb] at HWB
        clear hwa hwb
        have HP := Lib.hid (show goP [] ((pre ++ [x]).map (·.1.1)) = none by rw [List.map_append, goP_append, HRM.out]; simp [goP, HOK.out, hok])
        have HX := Lib.hid hok
        clear hok
        gi_wp2_with (first | (gi_at_call 60; refine (CallsIn.inRound lp (callsIn_wide.2 HC.out)).mono ?_; rintro e w1 ⟨rfl, hb1⟩; have hI1 := HRI2.out.below hb1; have hB1 := (KX.below (p := fun _ _ => True) hb1).boxed trivial HBX.out; have HI1 := Lib.hid hI1; have HBX1 := Lib.hid hB1; have HB1 := Lib.hid hb1; clear hI1 hb1 hB1) | (gi_at_call 59; first | (refine (CallsIn.inRound lp (callsIn_wide.2 (HWB.out w2))).mono ?_; rintro e w3 ⟨rfl, hb3⟩; have hI3 := HI2.out.below hb3; have hB3 := (KX.below (p := fun _ _ => True) hb3).boxed trivial HBX2.out; have hc1 := hI3.bx.cell; have hf1 := hI3.bx.frozen; have hc2 := hB3.cell; have hf2 := hB3.frozen; have HI3 := Lib.hid hI3; have HBX3 := Lib.hid hB3; have HB3 := Lib.hid (HB2.out.trans (hb3.mono HB2.out.size)); clear hI3 hb3 hB3) | (refine (CallsIn.inRound lp (callsIn_wide.2 (HWA.out w1))).mono ?_; rintro e w2 ⟨rfl, hb2⟩; have hI2 := HI1.out.below hb2; have hB2 := (KX.below (p := fun _ _ => True) hb2).boxed trivial HBX1.out; have hc1 := hI2.bx.cell; have hf1 := hI2.bx.frozen; have hc2 := hB2.cell; have hf2 := hB2.frozen; have HI2 := Lib.hid hI2; have HBX2 := Lib.hid hB2; have HB2 := Lib.hid (HB1.out.trans (hb2.mono HB1.out.size)); clear hI2 hb2 hB2)) | (refine ⟨fun h => (by simp [Fence.wide] at h), ?_⟩) | (refine ⟨(show Fence.wide.fn _ from trivial), ?_⟩))
        exact ⟨(KeepsFrom.below HB3.out).trans (KeepsFrom.set _ _ (by omega)), rfl, HI3.out.set false, HP.out⟩
      | true =>
        rw [hwa] at HWA
        rw [hwb] at HWB
        cases hbl : Op.bytesLess a last with
        | true =>
          have hok : (wordB a && wordB b && !leS a last) = false := by simp [leS, hbl]
          clear hwa hwb
          have HP := Lib.hid (show goP [] ((pre ++ [x]).map (·.1.1)) = none by rw [List.map_append, goP_append, HRM.out]; simp [goP, HOK.out, hok])
          have HX := Lib.hid hok
          clear hok
          gi_wp2_with (first | (gi_at_call 60; refine (CallsIn.inRound lp (callsIn_wide.2 HC.out)).mono ?_; rintro e w1 ⟨rfl, hb1⟩; have hI1 := HRI2.out.below hb1; have hB1 := (KX.below (p := fun _ _ => True) hb1).boxed trivial HBX.out; have HI1 := Lib.hid hI1; have HBX1 := Lib.hid hB1; have HB1 := Lib.hid hb1; clear hI1 hb1 hB1) | (gi_at_call 59; first | (refine (CallsIn.inRound lp (callsIn_wide.2 (HWB.out w2))).mono ?_; rintro e w3 ⟨rfl, hb3⟩; have hI3 := HI2.out.below hb3; have hB3 := (KX.below (p := fun _ _ => True) hb3).boxed trivial HBX2.out; have hc1 := hI3.bx.cell; have hf1 := hI3.bx.frozen; have hc2 := hB3.cell; have hf2 := hB3.frozen; have HI3 := Lib.hid hI3; have HBX3 := Lib.hid hB3; have HB3 := Lib.hid (HB2.out.trans (hb3.mono HB2.out.size)); clear hI3 hb3 hB3) | (refine (CallsIn.inRound lp (callsIn_wide.2 (HWA.out w1))).mono ?_; rintro e w2 ⟨rfl, hb2⟩; have hI2 := HI1.out.below hb2; have hB2 := (KX.below (p := fun _ _ => True) hb2).boxed trivial HBX1.out; have hc1 := hI2.bx.cell; have hf1 := hI2.bx.frozen; have hc2 := hB2.cell; have hf2 := hB2.frozen; have HI2 := Lib.hid hI2; have HBX2 := Lib.hid hB2; have HB2 := Lib.hid (HB1.out.trans (hb2.mono HB1.out.size)); clear hI2 hb2 hB2)) | (refine ⟨fun h => (by simp [Fence.wide] at h), ?_⟩) | (refine ⟨(show Fence.wide.fn _ from trivial), ?_⟩))
          exact ⟨(KeepsFrom.below HB3.out).trans (KeepsFrom.set _ _ (by omega)), rfl, HI3.out.set false, HP.out⟩
        | false =>
          cases heq : (a == last) with
          | true =>
            have hok : (wordB a && wordB b && !leS a last) = false := by simp only [leS, hbl, heq]; simp
            clear hwa hwb
            have HP := Lib.hid (show goP [] ((pre ++ [x]).map (·.1.1)) = none by rw [List.map_append, goP_append, HRM.out]; simp [goP, HOK.out, hok])
            have HX := Lib.hid hok
            clear hok
            gi_wp2_with (first | (gi_at_call 60; refine (CallsIn.inRound lp (callsIn_wide.2 HC.out)).mono ?_; rintro e w1 ⟨rfl, hb1⟩; have hI1 := HRI2.out.below hb1; have hB1 := (KX.below (p := fun _ _ => True) hb1).boxed trivial HBX.out; have HI1 := Lib.hid hI1; have HBX1 := Lib.hid hB1; have HB1 := Lib.hid hb1; clear hI1 hb1 hB1) | (gi_at_call 59; first | (refine (CallsIn.inRound lp (callsIn_wide.2 (HWB.out w2))).mono ?_; rintro e w3 ⟨rfl, hb3⟩; have hI3 := HI2.out.below hb3; have hB3 := (KX.below (p := fun _ _ => True) hb3).boxed trivial HBX2.out; have hc1 := hI3.bx.cell; have hf1 := hI3.bx.frozen; have hc2 := hB3.cell; have hf2 := hB3.frozen; have HI3 := Lib.hid hI3; have HBX3 := Lib.hid hB3; have HB3 := Lib.hid (HB2.out.trans (hb3.mono HB2.out.size)); clear hI3 hb3 hB3) | (refine (CallsIn.inRound lp (callsIn_wide.2 (HWA.out w1))).mono ?_; rintro e w2 ⟨rfl, hb2⟩; have hI2 := HI1.out.below hb2; have hB2 := (KX.below (p := fun _ _ => True) hb2).boxed trivial HBX1.out; have hc1 := hI2.bx.cell; have hf1 := hI2.bx.frozen; have hc2 := hB2.cell; have hf2 := hB2.frozen; have HI2 := Lib.hid hI2; have HBX2 := Lib.hid hB2; have HB2 := Lib.hid (HB1.out.trans (hb2.mono HB1.out.size)); clear hI2 hb2 hB2)) | (refine ⟨fun h => (by simp [Fence.wide] at h), ?_⟩) | (refine ⟨(show Fence.wide.fn _ from trivial), ?_⟩))
            exact ⟨(KeepsFrom.below HB3.out).trans (KeepsFrom.set _ _ (by omega)), rfl, HI3.out.set false, HP.out⟩
          | false =>
            have hok : (wordB a && wordB b && !leS a last) = true := by simp only [leS, hbl, heq, hwa, hwb]; rfl
            have hfo := HFC.out (HOK.out.trans hok)
            clear hwa hwb
            have HP := Lib.hid (show goP [] ((pre ++ [x]).map (·.1.1)) = some a by rw [List.map_append, goP_append, HRM.out]; simp [goP, HOK.out, hok, hfo])
            have HX := Lib.hid hok
            clear hok hfo
            gi_wp2_with (first | (gi_at_call 60; refine (CallsIn.inRound lp (callsIn_wide.2 HC.out)).mono ?_; rintro e w1 ⟨rfl, hb1⟩; have hI1 := HRI2.out.below hb1; have hB1 := (KX.below (p := fun _ _ => True) hb1).boxed trivial HBX.out; have HI1 := Lib.hid hI1; have HBX1 := Lib.hid hB1; have HB1 := Lib.hid hb1; clear hI1 hb1 hB1) | (gi_at_call 59; first | (refine (CallsIn.inRound lp (callsIn_wide.2 (HWB.out w2))).mono ?_; rintro e w3 ⟨rfl, hb3⟩; have hI3 := HI2.out.below hb3; have hB3 := (KX.below (p := fun _ _ => True) hb3).boxed trivial HBX2.out; have hc1 := hI3.bx.cell; have hf1 := hI3.bx.frozen; have hc2 := hB3.cell; have hf2 := hB3.frozen; have HI3 := Lib.hid hI3; have HBX3 := Lib.hid hB3; have HB3 := Lib.hid (HB2.out.trans (hb3.mono HB2.out.size)); clear hI3 hb3 hB3) | (refine (CallsIn.inRound lp (callsIn_wide.2 (HWA.out w1))).mono ?_; rintro e w2 ⟨rfl, hb2⟩; have hI2 := HI1.out.below hb2; have hB2 := (KX.below (p := fun _ _ => True) hb2).boxed trivial HBX1.out; have hc1 := hI2.bx.cell; have hf1 := hI2.bx.frozen; have hc2 := hB2.cell; have hf2 := hB2.frozen; have HI2 := Lib.hid hI2; have HBX2 := Lib.hid hB2; have HB2 := Lib.hid (HB1.out.trans (hb2.mono HB1.out.size)); clear hI2 hb2 hB2)) | (refine ⟨fun h => (by simp [Fence.wide] at h), ?_⟩) | (refine ⟨(show Fence.wide.fn _ from trivial), ?_⟩))
            exact ⟨(KeepsFrom.below HB3.out).trans (KeepsFrom.set _ _ (by omega)), (KeepsP.below HB3.out).trans (KeepsP.set _ _ (by omega) (by omega)), HI3.out.setOther (by omega) _, a, HP.out, HBX3.out.set _⟩
  · have q0 : (30 : Int) < (l.length : Int) := by omega
    have e : attrsB l = false := by
      unfold attrsB pairsR
      rw [if_neg hl0]
      split
      · exact decide_eq_false h30
      · rfl
    have HE := Lib.hid e
    clear e hl0
    gi_wp2
    exact leaves_box0 (w := w) rfl rfl ⟨(Below.refl _ w).alloc (Nat.le_refl _) _, Boxed.new w _ _⟩ (fun W' hb => ⟨by rw [HE.out], hb⟩)
end Go.Proofs.YtcmkmdghekkkhaaDoor
