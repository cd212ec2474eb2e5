/-
  The contract of the program's Match (layer topic).
-/
import Derived.Test.YthifpfdfepepoaaTpPatP
import Derived.Test.YthifpfdfepepoaaTpMatch
import Derived.Test.YthifpfdfepepoaaTpCut
set_option linter.unusedVariables false
namespace Go.Tp
open Go
/-- Parts, each with a slash behind it. -/
def joinS : List (List UInt8) → List UInt8
  | [] => []
  | p :: ps => p ++ 47 :: joinS ps
theorem joinS_nil {ps : List (List UInt8)} : joinS ps = [] ↔ ps = [] := by
  cases ps with
  | nil => simp [joinS]
  | cons p ps => simp [joinS]
theorem splitL_free (c : UInt8) : ∀ l, ∀ p ∈ splitL c l, ∀ x ∈ p, x ≠ c
  | [], p, hp, x, hx => by simp [splitL] at hp; subst hp; cases hx
  | y :: ys, p, hp, x, hx => by
    rw [splitL] at hp
    by_cases hy : y = c
    · rw [if_pos hy] at hp
      rcases List.mem_cons.1 hp with h | h
      · subst h; cases hx
      · exact splitL_free c ys p h x hx
    · rw [if_neg hy] at hp
      cases hs : splitL c ys with
      | nil => exact absurd hs (splitL_ne c ys)
      | cons q qs =>
        rw [hs] at hp
        rcases List.mem_cons.1 hp with h | h
        · subst h
          rcases List.mem_cons.1 hx with h | h
          · rw [h]; exact hy
          · exact splitL_free c ys q (by rw [hs]; exact List.mem_cons_self) x h
        · exact splitL_free c ys p (by rw [hs]; exact List.mem_cons_of_mem _ h) x hx
theorem joinS_split : ∀ l, joinS (splitL 47 l) = l ++ [47]
  | [] => rfl
  | y :: ys => by
    have ih := joinS_split ys
    rw [splitL]
    by_cases hy : y = 47
    · rw [if_pos hy, joinS, ih, hy]; rfl
    · rw [if_neg hy]
      cases hs : splitL 47 ys with
      | nil => exact absurd hs (splitL_ne 47 ys)
      | cons q qs =>
        rw [hs, joinS] at ih
        simp only [joinS, List.cons_append]
        rw [ih]
theorem cut_join {p : List UInt8} (hp : ∀ x ∈ p, x ≠ 47) (ps : List (List UInt8)) : cutL 47 (joinS (p :: ps)) = (p, joinS ps, true) := by
  rw [joinS]
  induction p with
  | nil => simp [cutL]
  | cons x xs ih =>
    rw [List.cons_append, cutL, if_neg (hp x List.mem_cons_self), ih (fun y hy => hp y (List.mem_cons_of_mem _ hy))]
/-- Parts of a pattern, one behind the other: what is left of the topic's; or what is answered. -/
def runM : List (List UInt8) → List (List UInt8) → Except Bool (List (List UInt8))
  | [], b => .ok b
  | _ :: _, [] => .error false
  | x :: xs, y :: ys => if x = [35] then .error true else if x ≠ [43] ∧ x ≠ y then .error false else runM xs ys
theorem runM_mat : ∀ a b, matP a b = match runM a b with | .ok r => decide (r = []) | .error v => v
  | [], [] => rfl
  | [], _ :: _ => rfl
  | _ :: _, [] => rfl
  | x :: xs, y :: ys => by
    rw [matP, runM]
    by_cases h1 : x = [35]
    · rw [if_pos h1, if_pos h1]
    · rw [if_neg h1, if_neg h1]
      by_cases h2 : x ≠ [43] ∧ x ≠ y
      · rw [if_pos h2, if_pos h2]
      · rw [if_neg h2, if_neg h2, runM_mat xs ys]
theorem runM_ok : ∀ a c b r, runM a b = .ok r → runM (a ++ c) b = runM c r
  | [], c, b, r, h => by injection h with h; rw [h]; rfl
  | _ :: _, _, [], _, h => by cases h
  | x :: xs, c, y :: ys, r, h => by
    rw [List.cons_append, runM]
    rw [runM] at h
    by_cases h1 : x = [35]
    · rw [if_pos h1] at h; cases h
    · rw [if_neg h1] at h ⊢
      by_cases h2 : x ≠ [43] ∧ x ≠ y
      · rw [if_pos h2] at h; cases h
      · rw [if_neg h2] at h ⊢
        exact runM_ok xs c ys r h
theorem runM_err : ∀ a c b v, runM a b = .error v → runM (a ++ c) b = .error v
  | [], c, b, v, h => by cases h
  | _ :: _, _, [], _, h => by rw [List.cons_append]; exact h
  | x :: xs, c, y :: ys, v, h => by
    rw [List.cons_append, runM]
    rw [runM] at h
    by_cases h1 : x = [35]
    · rw [if_pos h1] at h ⊢; exact h
    · rw [if_neg h1] at h ⊢
      by_cases h2 : x ≠ [43] ∧ x ≠ y
      · rw [if_pos h2] at h ⊢; exact h
      · rw [if_neg h2] at h ⊢
        exact runM_err xs c ys v h
end Go.Tp
namespace Go.Proofs.Ythifpfdfepepoaa
open Go.RowKit Go.Rst Go.Tp Go.Shelf
attribute [local go_sem] Oper.semAt_some
theorem KeepsP.set {Bs g : Nat} {l : List UInt8} {c : UInt8} (X : World) (v : Value) (h1 : g ≠ Bs) (h2 : g ≠ Bs + 1) : KeepsP Bs l c X (X.setCell ⟨g, 0, none⟩ v) :=
  ⟨fun h => h.kept (grownBy_setCell' X g v) (fun e => h1 (by injection e with e; exact e.symm)) (fun e => h2 (by injection e with e; exact e.symm)), KeepsWalks.setCell X _ v⟩
theorem RI.setOther {w : World} {b : Bool} {X : World} (h : RI w b X) {g : Nat} (hg : w.heap.size < g) (v : Value) : RI w b (X.setCell ⟨g, 0, none⟩ v) :=
  ⟨h.be.trans ((Below.refl _ X).setCell (by simp; omega) _), h.bx.kept (grownBy_setCell' X g v) (fun e => by injection e; omega)⟩
/-- What the loop of Match keeps: a result's box, and what is left of the topic. -/
structure MI (w : World) (Bl : Nat) (b : List (List UInt8)) (ps : List (List UInt8)) (X : World) : Prop where
  ri : RI w false X
  st : ∃ r, runM ps b = .ok r ∧ Boxed X Bl 9 (sv (joinS r)) ∧ (∀ p ∈ r, ∀ x ∈ p, x ≠ 47) ∧ (joinS r).length ≤ 1000

set_option maxRecDepth 100000 in
set_option maxHeartbeats 4000000 in
theorem matchP_any (p t : List UInt8) (hp : p.length ≤ 1000000000) (ht : t.length ≤ 1000000000) (w : World) : Calls Try.prog 10 #[sv p, sv t] w fun e w' => e = .returned (.bool (matB p t)) ∧ Below w.heap.size w w' := by
  have HPA := Lib.hid (patP_any p)
  have HRI := Lib.hid (rightP_any t)
  refine (callsIn_wide (n := 3)).1 ?_
  refine callsIn_of_wp_marks Try.func10 rfl trivial ?_ rfl
  simp only [Try.ntmps10, List.size_toArray, List.length_cons, List.length_nil, Nat.reduceAdd, Nat.reduceSub, Array.replicate_succ, Array.replicate_zero, List.push_toArray, List.append_toArray, List.nil_append, List.cons_append]
  have h0 : RI w false (w.alloc (.cells #[.bool false] 4)) := ⟨(Below.refl _ w).alloc (Nat.le_refl _) _, Boxed.new w _ _⟩
  have H0 := Lib.hid h0
  clear h0
  cases hpb : patB p with
  | false =>
    have e : matB p t = false := by unfold matB; rw [hpb]; rfl
    have HE := Lib.hid e
    rw [hpb] at HPA
    clear e hpb
    gi_wp2_with (first | (gi_at_call 13; refine (callsIn_wide.2 (HPA.out _)).mono ?_; rintro e w1 ⟨rfl, hb1⟩; have hI1 := H0.out.below hb1; have hc1 := hI1.bx.cell; have hf1 := hI1.bx.frozen; have HI1 := Lib.hid hI1; clear hI1 hb1) | (refine ⟨(show Fence.wide.fn _ from trivial), ?_⟩))
    exact leaves_box0 (w := w) rfl rfl (HI1.out.set false) (fun W' hb => ⟨by rw [HE.out], hb⟩)
  | true =>
  cases hrb : rightB t with
  | false =>
    have e : matB p t = false := by unfold matB; rw [hrb]; simp
    have HE := Lib.hid e
    rw [hpb] at HPA
    rw [hrb] at HRI
    clear e hpb hrb
    gi_wp2_with (first | (gi_at_call 13; refine (callsIn_wide.2 (HPA.out _)).mono ?_; rintro e w1 ⟨rfl, hb1⟩; have HI1 := Lib.hid (H0.out.below hb1); clear hb1) | (gi_at_call 11; refine (callsIn_wide.2 (HRI.out _)).mono ?_; rintro e w2 ⟨rfl, hb2⟩; have hI2 := HI1.out.below hb2; have hc2 := hI2.bx.cell; have hf2 := hI2.bx.frozen; have HI2 := Lib.hid hI2; clear hI2 hb2) | (refine ⟨(show Fence.wide.fn _ from trivial), ?_⟩))
    exact leaves_box0 (w := w) rfl rfl (HI2.out.set false) (fun W' hb => ⟨by rw [HE.out], hb⟩)
  | true =>
    have hm : matB p t = matP (splitL 47 p) (splitL 47 t) := by unfold matB; rw [hpb, hrb]; rfl
    have htl : t.length ≤ 30 := by unfold rightB at hrb; rw [Bool.and_eq_true, decide_eq_true_eq] at hrb; exact hrb.2
    have hpl : p.length ≤ 30 := by unfold patB at hpb; rw [Bool.and_eq_true, decide_eq_true_eq] at hpb; exact hpb.2
    rw [hpb] at HPA
    rw [hrb] at HRI
    have HM := Lib.hid hm
    clear hm hpb hrb
    have hp1 : ∀ n (w : World), CallsIn Fence.wide n Try.prog 19 #[sv p, .int .i32 47] w _ := fun n w => parts_in n p 47 w
    gi_wp2_with (first | (gi_at_call 13; refine (callsIn_wide.2 (HPA.out _)).mono ?_; rintro e w1 ⟨rfl, hb1⟩; have HI1 := Lib.hid (H0.out.below hb1); clear hb1) | (gi_at_call 11; refine (callsIn_wide.2 (HRI.out _)).mono ?_; rintro e w2 ⟨rfl, hb2⟩; have HI2 := Lib.hid (HI1.out.below hb2); clear hb2) | (gi_at_call 19; refine (hp1 _ _).mono ?_; rintro e w3 ⟨rfl, rfl⟩) | (refine ⟨(show Fence.wide.fn _ from trivial), ?_⟩))
    -- the loop
    have hcat : ((⟨t.toArray⟩ : ByteArray) ++ ⟨#[47]⟩) = ⟨(t ++ [47]).toArray⟩ := by
      apply ByteArray.ext
      simp [ByteArray.data_append]
    rw [hcat]
    have hw2 : w.heap.size < w2.heap.size := HI2.out.bx.lt
    have hmi0 : MI w w2.heap.size (splitL 47 t) [] (((w2.alloc (.cells #[sv (t ++ [47])] 9)).alloc (.cells #[sv p] 9)).alloc (.cells #[.int .i32 47] 21)) := by
      refine ⟨HI2.out.below ((((Below.refl _ w2).alloc (Nat.le_refl _) _).alloc (by simp) _).alloc (by simp; omega) _), splitL 47 t, rfl, ?_, splitL_free 47 t, ?_⟩
      · rw [joinS_split]; exact ((Boxed.new w2 _ _).alloc _).alloc _
      · rw [joinS_split]; simp; omega
    have hkb0 := kb_new (w2.alloc (.cells #[sv (t ++ [47])] 9)) p 47
    rw [World.size_alloc] at hkb0
    have hsz0 : (((w2.alloc (.cells #[sv (t ++ [47])] 9)).alloc (.cells #[sv p] 9)).alloc (.cells #[.int .i32 47] 21)).heap.size = w2.heap.size + 3 := by simp
    obtain ⟨W0, hW0⟩ : ∃ W0, W0 = (((w2.alloc (.cells #[sv (t ++ [47])] 9)).alloc (.cells #[sv p] 9)).alloc (.cells #[.int .i32 47] 21)) := ⟨_, rfl⟩
    have hkb : KB (w2.heap.size + 1) p 47 W0 := by rw [hW0]; exact hkb0
    rw [← hW0] at hmi0 hsz0
    rw [← hW0]
    generalize Value.string (⟨(t ++ [47]).toArray⟩ : ByteArray) = tv
    obtain ⟨Bl, hBl⟩ : ∃ Bl, Bl = w2.heap.size := ⟨_, rfl⟩
    rw [← hBl] at hkb hmi0 hsz0 hw2 ⊢
    clear hW0 hkb0 hp1 hcat hBl
    refine wpIn_rangeFunc_ownG rfl (by decide) (gf := 28) (lb := #[.pointer (some ⟨Bl + 1, 0, none⟩), .pointer (some ⟨Bl + 1 + 1, 0, none⟩)]) rfl trivial (enters_of Try.func28 (by kernel_rfl) rfl)
      (parts_stops 2 (Bl + 1) p 47 (by omega) (by decide) W0 (by omega) hkb) (fun h k => KeepsP.trans h k) (fun X l o o' _ hlo hc hw => KeepsP.turn X l o o' hlo hc hw) (Below.refl _ _) (fun _ => rfl)
      (fun pre X => MI w Bl (splitL 47 t) (pre.map (·.1.1)) X)
      (fun c pre X => c = .ret ∧ ∃ v, RI w v X ∧ runM (pre.map (·.1.1)) (splitL 47 t) = .error v)
      ?oi ?ox hmi0
      (fun x => { tmps := #[sv p, sv t, undef, undef, .pointer (some ⟨w.heap.size, 0, none⟩), .pointer (some ⟨Bl, 0, none⟩), sv x.1.1, undef, undef, undef, sv p, .bool true, .bool false, .bool false, sv t, .bool true, .bool false, .bool false, sv t, tv, sv p, .func (.func 28) #[] #[.pointer (some ⟨Bl + 1, 0, none⟩), .pointer (some ⟨Bl + 1 + 1, 0, none⟩)], sv x.1.1, .bool x.1.2, undef, undef, undef, undef, undef, undef, undef, undef, undef, undef, undef, undef, undef, undef, undef, undef, undef, undef, undef, undef, undef, undef, undef], defers := [] }) ?assign ?body ?done ?stop
    case oi =>
      rintro pre X Y row ⟨h, r, h2, h3, h4, h5⟩ hg hr
      exact ⟨h.grown hg (by omega) hr, r, h2, h3.kept hg (fun e => by have := (hr _ e.symm).1; omega), h4, h5⟩
    case ox =>
      rintro c pre X Y row ⟨rfl, v, h, h2⟩ hg hr
      exact ⟨rfl, v, h.grown hg (by omega) hr, h2⟩
    case assign =>
      intro l x X K hK
      gi_wp2
      exact hK
    case stop =>
      rintro D c pre X hD hS ⟨rfl, v, h, h2⟩ hK
      have e : matB p t = v := by
        obtain ⟨q, hq⟩ := hS
        have h3 := congrArg (List.map (·.1)) hq
        rw [List.map_append, lastL_fst, List.map_map] at h3
        have h4 : pre.map (·.1.1) ++ q.map (·.1) = splitL 47 p := h3
        rw [HM.out, runM_mat, ← h4, runM_err _ _ _ v h2]
      have HE := Lib.hid e
      clear e
      gi_wp2
      exact leaves_box rfl rfl h (by omega) hK (fun W' hb => ⟨by rw [HE.out], hb⟩)
    case done =>
      rintro D xs X hD hS ⟨h, r, h2, h3, h4, h5⟩ hK
      have e : matB p t = decide (r = []) := by
        rw [parts_all hS] at h2
        rw [HM.out, runM_mat, h2]
      have e2 : (joinS r).isEmpty = decide (r = []) := by
        cases r with
        | nil => rfl
        | cons y ys => simp [joinS]
      have hc := h.bx.cell
      have hf := h.bx.frozen
      have hc3 := h3.cell
      obtain ⟨L, hL⟩ : ∃ L, L = joinS r := ⟨_, rfl⟩
      rw [← hL] at e2 hc3
      have HE := Lib.hid (e.trans e2.symm)
      have HR := Lib.hid (h.set L.isEmpty)
      have hK2 : (X.setCell ⟨w.heap.size, 0, none⟩ (.bool L.isEmpty)).heap[D]? = some (.deferred (some [])) := (Below.heap_setCell _ _ _ _ (fun e => by have e2 : D = w.heap.size := e; omega)).trans hK
      have HK2 := Lib.hid hK2
      clear h h2 hK hS hK2 h3 h4 h5 e e2 hL
      gi_wp2
      exact leaves_box rfl rfl HR.out (by omega) HK2.out (fun W' hb => ⟨by rw [HE.out], hb⟩)
    case body =>
      rintro lp pre x X ⟨h, r, h2, h3, h4, h5⟩ hlt
      obtain ⟨q, hx1⟩ : ∃ q, q = x.1.1 := ⟨_, rfl⟩
      rw [← hx1]
      have hcut := cut_any (joinS r) 47 (by omega) X
      have hcX := h3.cell
      have HRI2 := Lib.hid h
      have HBX := Lib.hid h3
      have HRM := Lib.hid h2
      have HFR := Lib.hid h4
      have HLN := Lib.hid h5
      clear h h2 h3 h4 h5
      cases r with
      | nil =>
        rw [joinS, show cutL 47 [] = ([], [], false) from rfl] at hcut
        have hcut' : Calls Try.prog 20 #[sv [], .string ⟨#[47]⟩] X fun e w' => e = .returned (.tuple #[sv [], sv [], .bool false]) ∧ Below X.heap.size X w' := hcut
        have HC := Lib.hid hcut'
        have hz : True := trivial
        clear hcut hcut'
        have HP := Lib.hid (show runM ((pre ++ [x]).map (·.1.1)) (splitL 47 t) = .error false by rw [List.map_append, runM_ok _ _ _ _ HRM.out]; simp [runM])
        clear hz hx1
        gi_wp2_with (first | (gi_at_call 20; refine (CallsIn.inRound lp (callsIn_wide.2 HC.out)).mono ?_; rintro e w1 ⟨rfl, hb1⟩; have hI1 := HRI2.out.below hb1; have hB1 := (KX.below (p := fun _ _ => True) hb1).boxed trivial HBX.out; have hc1 := hI1.bx.cell; have hf1 := hI1.bx.frozen; have hc2 := hB1.cell; have hf2 := hB1.frozen; have HI1 := Lib.hid hI1; have HBX1 := Lib.hid hB1; have HB1 := Lib.hid hb1; clear hI1 hb1 hB1) | (refine ⟨fun h => (by simp [Fence.wide] at h), ?_⟩) | (refine ⟨(show Fence.wide.fn _ from trivial), ?_⟩))
        exact ⟨(KeepsFrom.below HB1.out).trans (KeepsFrom.set _ _ (by omega)), rfl, false, HI1.out.set false, HP.out⟩
      | cons y ys =>
        rw [cut_join (HFR.out y List.mem_cons_self)] at hcut
        have hcut' : Calls Try.prog 20 #[sv (joinS (y :: ys)), .string ⟨#[47]⟩] X fun e w' => e = .returned (.tuple #[sv y, sv (joinS ys), .bool true]) ∧ Below X.heap.size X w' := hcut
        have HC := Lib.hid hcut'
        obtain ⟨L, hL⟩ : ∃ L, L = joinS (y :: ys) := ⟨_, rfl⟩
        obtain ⟨M, hM⟩ : ∃ M, M = joinS ys := ⟨_, rfl⟩
        rw [← hL, ← hM] at HC
        rw [← hL] at hcX HBX
        have HMM := Lib.hid hM
        clear hcut hcut' hL hM
        by_cases a1 : q = [35]
        · have b1 : (q == [35]) = true := by rw [a1]; rfl
          have hz : x.1.1 = [35] := by rw [← hx1, a1]
          clear a1
          have HP := Lib.hid (show runM ((pre ++ [x]).map (·.1.1)) (splitL 47 t) = .error true by rw [List.map_append, runM_ok _ _ _ _ HRM.out]; simp [runM, hz])
          clear hz hx1
          gi_wp2_with (first | (gi_at_call 20; refine (CallsIn.inRound lp (callsIn_wide.2 HC.out)).mono ?_; rintro e w1 ⟨rfl, hb1⟩; have hI1 := HRI2.out.below hb1; have hB1 := (KX.below (p := fun _ _ => True) hb1).boxed trivial HBX.out; have hc1 := hI1.bx.cell; have hf1 := hI1.bx.frozen; have hc2 := hB1.cell; have hf2 := hB1.frozen; have HI1 := Lib.hid hI1; have HBX1 := Lib.hid hB1; have HB1 := Lib.hid hb1; clear hI1 hb1 hB1) | (refine ⟨fun h => (by simp [Fence.wide] at h), ?_⟩) | (refine ⟨(show Fence.wide.fn _ from trivial), ?_⟩))
          exact ⟨(KeepsFrom.below HB1.out).trans (KeepsFrom.set _ _ (by omega)), rfl, true, HI1.out.set true, HP.out⟩
        · have b1 : (q == [35]) = false := by simpa using a1
          by_cases a2 : q = [43]
          · have b2 : (q == [43]) = true := by rw [a2]; rfl
            have hz : x.1.1 = [43] := by rw [← hx1, a2]
            have hz2 : True := trivial
            clear a1 a2
            have HP := Lib.hid (show runM ((pre ++ [x]).map (·.1.1)) (splitL 47 t) = .ok ys by rw [List.map_append, runM_ok _ _ _ _ HRM.out]; simp [runM, hz])
            clear hz hx1 hz2
            gi_wp2_with (first | (gi_at_call 20; refine (CallsIn.inRound lp (callsIn_wide.2 HC.out)).mono ?_; rintro e w1 ⟨rfl, hb1⟩; have hI1 := HRI2.out.below hb1; have hB1 := (KX.below (p := fun _ _ => True) hb1).boxed trivial HBX.out; have hc1 := hI1.bx.cell; have hf1 := hI1.bx.frozen; have hc2 := hB1.cell; have hf2 := hB1.frozen; have HI1 := Lib.hid hI1; have HBX1 := Lib.hid hB1; have HB1 := Lib.hid hb1; clear hI1 hb1 hB1) | (refine ⟨fun h => (by simp [Fence.wide] at h), ?_⟩) | (refine ⟨(show Fence.wide.fn _ from trivial), ?_⟩))
            exact ⟨(KeepsFrom.below HB1.out).trans (KeepsFrom.set _ _ (by omega)), (KeepsP.below HB1.out).trans (KeepsP.set _ _ (by omega) (by omega)), HI1.out.setOther (by omega) _, ys, HP.out, by rw [← HMM.out]; exact HBX1.out.set _, fun p hp => HFR.out p (List.mem_cons_of_mem _ hp), by have := HLN.out; rw [joinS, List.length_append, List.length_cons] at this; omega⟩
          · have b2 : (q == [43]) = false := by simpa using a2
            by_cases a3 : q = y
            · have b3 : (q == y) = true := by rw [a3]; simp
              have hz : x.1.1 = y := by rw [← hx1, a3]
              have hz2 : y ≠ [35] := by rw [← a3]; exact a1
              clear a1 a2 a3
              have HP := Lib.hid (show runM ((pre ++ [x]).map (·.1.1)) (splitL 47 t) = .ok ys by rw [List.map_append, runM_ok _ _ _ _ HRM.out]; simp [runM, hz, hz2])
              clear hz hx1 hz2
              gi_wp2_with (first | (gi_at_call 20; refine (CallsIn.inRound lp (callsIn_wide.2 HC.out)).mono ?_; rintro e w1 ⟨rfl, hb1⟩; have hI1 := HRI2.out.below hb1; have hB1 := (KX.below (p := fun _ _ => True) hb1).boxed trivial HBX.out; have hc1 := hI1.bx.cell; have hf1 := hI1.bx.frozen; have hc2 := hB1.cell; have hf2 := hB1.frozen; have HI1 := Lib.hid hI1; have HBX1 := Lib.hid hB1; have HB1 := Lib.hid hb1; clear hI1 hb1 hB1) | (refine ⟨fun h => (by simp [Fence.wide] at h), ?_⟩) | (refine ⟨(show Fence.wide.fn _ from trivial), ?_⟩))
              exact ⟨(KeepsFrom.below HB1.out).trans (KeepsFrom.set _ _ (by omega)), (KeepsP.below HB1.out).trans (KeepsP.set _ _ (by omega) (by omega)), HI1.out.setOther (by omega) _, ys, HP.out, by rw [← HMM.out]; exact HBX1.out.set _, fun p hp => HFR.out p (List.mem_cons_of_mem _ hp), by have := HLN.out; rw [joinS, List.length_append, List.length_cons] at this; omega⟩
            · have b3 : (q == y) = false := by simpa using a3
              have hz : x.1.1 ≠ [35] ∧ x.1.1 ≠ [43] ∧ x.1.1 ≠ y := by rw [← hx1]; exact ⟨a1, a2, a3⟩
              clear a1 a2 a3
              have HP := Lib.hid (show runM ((pre ++ [x]).map (·.1.1)) (splitL 47 t) = .error false by rw [List.map_append, runM_ok _ _ _ _ HRM.out]; simp [runM, hz])
              clear hz hx1
              gi_wp2_with (first | (gi_at_call 20; refine (CallsIn.inRound lp (callsIn_wide.2 HC.out)).mono ?_; rintro e w1 ⟨rfl, hb1⟩; have hI1 := HRI2.out.below hb1; have hB1 := (KX.below (p := fun _ _ => True) hb1).boxed trivial HBX.out; have hc1 := hI1.bx.cell; have hf1 := hI1.bx.frozen; have hc2 := hB1.cell; have hf2 := hB1.frozen; have HI1 := Lib.hid hI1; have HBX1 := Lib.hid hB1; have HB1 := Lib.hid hb1; clear hI1 hb1 hB1) | (refine ⟨fun h => (by simp [Fence.wide] at h), ?_⟩) | (refine ⟨(show Fence.wide.fn _ from trivial), ?_⟩))
              exact ⟨(KeepsFrom.below HB1.out).trans (KeepsFrom.set _ _ (by omega)), rfl, false, HI1.out.set false, HP.out⟩
end Go.Proofs.Ythifpfdfepepoaa
