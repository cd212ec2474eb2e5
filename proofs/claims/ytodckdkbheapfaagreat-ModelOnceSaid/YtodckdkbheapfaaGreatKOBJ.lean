/-
  The contract of the program's Match (layer topic).; The contract of the program's Attrs (layer topic).; The contracts of the program's has and Wanted (layer topic).
-/
import Derived.Test.YtodckdkbheapfaaGreatKOBH
import Derived.Test.YtodckdkbheapfaaGreatKOBI
set_option linter.unusedVariables false
set_option linter.unusedVariables false
namespace Go.Tp
open Go
def joinS : List (List UInt8) → List UInt8
  | [] => []
  | p :: ps => p ++ 47 :: joinS ps
theorem splitL_free (c : UInt8) : ∀ l, ∀ p ∈ splitL c l, ∀ x ∈ p, x ≠ c
  | [], p, hp, x, hx => by simp [splitL] at hp; subst hp; cases hx
  | y :: ys, p, hp, x, hx => by
    rw [splitL] at hp
    by_cases hy : y = c
    · rw [if_pos hy] at hp
      rcases List.mem_cons.1 hp with h | h
      · subst h; cases hx
      · exact splitL_free c ys p h x hx
    · rw [if_neg hy] at hp
      cases hs : splitL c ys with
      | nil => exact absurd hs (splitL_ne c ys)
      | cons q qs =>
        rw [hs] at hp
        rcases List.mem_cons.1 hp with h | h
        · subst h
          rcases List.mem_cons.1 hx with h | h
          · rw [h]; exact hy
          · exact splitL_free c ys q (by rw [hs]; exact List.mem_cons_self) x h
        · exact splitL_free c ys p (by rw [hs]; exact List.mem_cons_of_mem _ h) x hx
theorem joinS_split : ∀ l, joinS (splitL 47 l) = l ++ [47]
  | [] => rfl
  | y :: ys => by
    have ih := joinS_split ys
    rw [splitL]
    by_cases hy : y = 47
    · rw [if_pos hy, joinS, ih, hy]; rfl
    · rw [if_neg hy]
      cases hs : splitL 47 ys with
      | nil => exact absurd hs (splitL_ne 47 ys)
      | cons q qs =>
        rw [hs, joinS] at ih
        simp only [joinS, List.cons_append]
        rw [ih]
theorem cut_join {p : List UInt8} (hp : ∀ x ∈ p, x ≠ 47) (ps : List (List UInt8)) : cutL 47 (joinS (p :: ps)) = (p, joinS ps, true) := by
  rw [joinS]
  induction p with
  | nil => simp [cutL]
  | cons x xs ih =>
    rw [List.cons_append, cutL, if_neg (hp x List.mem_cons_self), ih (fun y hy => hp y (List.mem_cons_of_mem _ hy))]
def runM : List (List UInt8) → List (List UInt8) → Except Bool (List (List UInt8))
  | [], b => .ok b
  | _ :: _, [] => .error false
  | x :: xs, y :: ys => if x = [35] then .error true else if x ≠ [43] ∧ x ≠ y then .error false else runM xs ys
theorem runM_mat : ∀ a b, matP a b = match runM a b with | .ok r => decide (r = []) | .error v => v
  | [], [] => rfl
  | [], _ :: _ => rfl
  | _ :: _, [] => rfl
  | x :: xs, y :: ys => by
    rw [matP, runM]
    by_cases h1 : x = [35]
    · rw [if_pos h1, if_pos h1]
    · rw [if_neg h1, if_neg h1]
      by_cases h2 : x ≠ [43] ∧ x ≠ y
      · rw [if_pos h2, if_pos h2]
      · rw [if_neg h2, if_neg h2, runM_mat xs ys]
theorem runM_ok : ∀ a c b r, runM a b = .ok r → runM (a ++ c) b = runM c r
  | [], c, b, r, h => by injection h with h; rw [h]; rfl
  | _ :: _, _, [], _, h => by cases h
  | x :: xs, c, y :: ys, r, h => by
    rw [List.cons_append, runM]
    rw [runM] at h
    by_cases h1 : x = [35]
    · rw [if_pos h1] at h; cases h
    · rw [if_neg h1] at h ⊢
      by_cases h2 : x ≠ [43] ∧ x ≠ y
      · rw [if_pos h2] at h; cases h
      · rw [if_neg h2] at h ⊢
        exact runM_ok xs c ys r h
theorem runM_err : ∀ a c b v, runM a b = .error v → runM (a ++ c) b = .error v
  | [], c, b, v, h => by cases h
  | _ :: _, _, [], _, h => by rw [List.cons_append]; exact h
  | x :: xs, c, y :: ys, v, h => by
    rw [List.cons_append, runM]
    rw [runM] at h
    by_cases h1 : x = [35]
    · rw [if_pos h1] at h ⊢; exact h
    · rw [if_neg h1] at h ⊢
      by_cases h2 : x ≠ [43] ∧ x ≠ y
      · rw [if_pos h2] at h ⊢; exact h
      · rw [if_neg h2] at h ⊢
        exact runM_err xs c ys v h
end Go.Tp
namespace Go.Proofs.YtodckdkbheapfaaGreat
open Go.RowKit Go.Rst Go.Tp Go.Shelf
attribute [local go_sem] Oper.semAt_some
theorem KeepsP.set {Bs g : Nat} {l : List UInt8} {c : UInt8} (X : World) (v : Value) (h1 : g ≠ Bs) (h2 : g ≠ Bs + 1) : KeepsP Bs l c X (X.setCell ⟨g, 0, none⟩ v) :=
  ⟨fun h => h.kept (grownBy_setCell' X g v) (fun e => h1 (by injection e with e; exact e.symm)) (fun e => h2 (by injection e with e; exact e.symm)), KeepsWalks.setCell X _ v⟩
theorem RI.setOther {w : World} {b : Bool} {X : World} (h : RI w b X) {g : Nat} (hg : w.heap.size < g) (v : Value) : RI w b (X.setCell ⟨g, 0, none⟩ v) :=
  ⟨h.be.trans ((Below.refl _ X).setCell (by simp; omega) _), h.bx.kept (grownBy_setCell' X g v) (fun e => by injection e; omega)⟩
structure MI (w : World) (Bl : Nat) (b : List (List UInt8)) (ps : List (List UInt8)) (X : World) : Prop where
  ri : RI w false X
  st : ∃ r, runM ps b = .ok r ∧ Boxed X Bl 9 (sv (joinS r)) ∧ (∀ p ∈ r, ∀ x ∈ p, x ≠ 47) ∧ (joinS r).length ≤ 1000
set_option maxRecDepth 100000 in
set_option maxHeartbeats 4000000 in
theorem matchP_any (p t : List UInt8) (hp : p.length ≤ 1000000000) (ht : t.length ≤ 1000000000) (w : World) : Calls Tryz.prog 72 #[sv p, sv t] w fun e w' => e = .returned (.bool (matB p t)) ∧ Below w.heap.size w w' := by
  have HPA := Lib.hid (patP_any p)
  have HRI := Lib.hid (rightP_any t)
  refine (callsIn_wide (n := 3)).1 ?_
  refine callsIn_of_wp_marks Tryz.func72 rfl trivial ?_ rfl
  simp only [Tryz.ntmps72, List.size_toArray, List.length_cons, List.length_nil, Nat.reduceAdd, Nat.reduceSub, Array.replicate_succ, Array.replicate_zero, List.push_toArray, List.append_toArray, List.nil_append, List.cons_append]
  have h0 : RI w false (w.alloc (.cells #[.bool false] 4)) := ⟨(Below.refl _ w).alloc (Nat.le_refl _) _, Boxed.new w _ _⟩
  have H0 := Lib.hid h0
  clear h0
  cases hpb : patB p with
  | false =>
    have e : matB p t = false := by unfold matB; rw [hpb]; rfl
    have HE := Lib.hid e
    rw [hpb] at HPA
    clear e hpb
    gi_wp2_with (first | (gi_at_call 65; refine (callsIn_wide.2 (HPA.out _)).mono ?_; rintro e w1 ⟨rfl, hb1⟩; have hI1 := H0.out.below hb1; have hc1 := hI1.bx.cell; have hf1 := hI1.bx.frozen; have HI1 := Lib.hid hI1; clear hI1 hb1) | (refine ⟨(show Fence.wide.fn _ from trivial), ?_⟩))
    exact leaves_box0 (w := w) rfl rfl (HI1.out.set false) (fun W' hb => ⟨by rw [HE.out], hb⟩)
  | true =>
  cases hrb : rightB t with
  | false =>
    have e : matB p t = false := by unfold matB; rw [hrb]; simp
    have HE := Lib.hid e
    rw [hpb] at HPA
    rw [hrb] at HRI
    clear e hpb hrb
    gi_wp2_with (first | (gi_at_call 65; refine (callsIn_wide.2 (HPA.out _)).mono ?_; rintro e w1 ⟨rfl, hb1⟩; have HI1 := Lib.hid (H0.out.below hb1); clear hb1) | (gi_at_call 71; refine (callsIn_wide.2 (HRI.out _)).mono ?_; rintro e w2 ⟨rfl, hb2⟩; have hI2 := HI1.out.below hb2; have hc2 := hI2.bx.cell; have hf2 := hI2.bx.frozen; have HI2 := Lib.hid hI2; clear hI2 hb2) | (refine ⟨(show Fence.wide.fn _ from trivial), ?_⟩))
    exact leaves_box0 (w := w) rfl rfl (HI2.out.set false) (fun W' hb => ⟨by rw [HE.out], hb⟩)
  | true =>
    have hm : matB p t = matP (splitL 47 p) (splitL 47 t) := by unfold matB; rw [hpb, hrb]; rfl
    have htl : t.length ≤ 30 := by unfold rightB at hrb; rw [Bool.and_eq_true, decide_eq_true_eq] at hrb; exact hrb.2
    have hpl : p.length ≤ 30 := by unfold patB at hpb; rw [Bool.and_eq_true, decide_eq_true_eq] at hpb; exact hpb.2
    rw [hpb] at HPA
    rw [hrb] at HRI
    have HM := Lib.hid hm
    clear hm hpb hrb
    have hp1 : ∀ n (w : World), CallsIn Fence.wide n Tryz.prog 97 #[sv p, .int .i32 47] w _ := fun n w => parts_in n p 47 w
    gi_wp2_with (first | (gi_at_call 65; refine (callsIn_wide.2 (HPA.out _)).mono ?_; rintro e w1 ⟨rfl, hb1⟩; have HI1 := Lib.hid (H0.out.below hb1); clear hb1) | (gi_at_call 71; refine (callsIn_wide.2 (HRI.out _)).mono ?_; rintro e w2 ⟨rfl, hb2⟩; have HI2 := Lib.hid (HI1.out.below hb2); clear hb2) | (gi_at_call 97; refine (hp1 _ _).mono ?_; rintro e w3 ⟨rfl, rfl⟩) | (refine ⟨(show Fence.wide.fn _ from trivial), ?_⟩))
    -- the loop
    have hcat : ((⟨t.toArray⟩ : ByteArray) ++ ⟨#[47]⟩) = ⟨(t ++ [47]).toArray⟩ := by
      apply ByteArray.ext
      simp [ByteArray.data_append]
    rw [hcat]
    have hw2 : w.heap.size < w2.heap.size := HI2.out.bx.lt
    have hmi0 : MI w w2.heap.size (splitL 47 t) [] (((w2.alloc (.cells #[sv (t ++ [47])] 9)).alloc (.cells #[sv p] 9)).alloc (.cells #[.int .i32 47] 21)) := by
      refine ⟨HI2.out.below ((((Below.refl _ w2).alloc (Nat.le_refl _) _).alloc (by simp) _).alloc (by simp; omega) _), splitL 47 t, rfl, ?_, splitL_free 47 t, ?_⟩
      · rw [joinS_split]; exact ((Boxed.new w2 _ _).alloc _).alloc _
      · rw [joinS_split]; simp; omega
    have hkb0 := kb_new (w2.alloc (.cells #[sv (t ++ [47])] 9)) p 47
    rw [World.size_alloc] at hkb0
    have hsz0 : (((w2.alloc (.cells #[sv (t ++ [47])] 9)).alloc (.cells #[sv p] 9)).alloc (.cells #[.int .i32 47] 21)).heap.size = w2.heap.size + 3 := by simp
    obtain ⟨W0, hW0⟩ : ∃ W0, W0 = (((w2.alloc (.cells #[sv (t ++ [47])] 9)).alloc (.cells #[sv p] 9)).alloc (.cells #[.int .i32 47] 21)) := ⟨_, rfl⟩
    have hkb : KB (w2.heap.size + 1) p 47 W0 := by rw [hW0]; exact hkb0
    rw [← hW0] at hmi0 hsz0
    rw [← hW0]
    generalize Value.string (⟨(t ++ [47]).toArray⟩ : ByteArray) = tv
    obtain ⟨Bl, hBl⟩ : ∃ Bl, Bl = w2.heap.size := ⟨_, rfl⟩
    rw [← hBl] at hkb hmi0 hsz0 hw2 ⊢
    clear hW0 hkb0 hp1 hcat hBl
    refine wpIn_rangeFunc_ownG rfl (by decide) (gf := 129) (lb := #[.pointer (some ⟨Bl + 1, 0, none⟩), .pointer (some ⟨Bl + 1 + 1, 0, none⟩)]) rfl trivial (enters_of Tryz.func129 (by kernel_rfl) rfl)
      (parts_stops 2 (Bl + 1) p 47 (by omega) (by decide) W0 (by omega) hkb) (fun h k => KeepsP.trans h k) (fun X l o o' _ hlo hc hw => KeepsP.turn X l o o' hlo hc hw) (Below.refl _ _) (fun _ => rfl)
      (fun pre X => MI w Bl (splitL 47 t) (pre.map (·.1.1)) X)
      (fun c pre X => c = .ret ∧ ∃ v, RI w v X ∧ runM (pre.map (·.1.1)) (splitL 47 t) = .error v)
      ?oi ?ox hmi0
      (fun x => { tmps := #[sv p, sv t, undef, undef, .pointer (some ⟨w.heap.size, 0, none⟩), .pointer (some ⟨Bl, 0, none⟩), sv x.1.1, undef, undef, undef, sv p, .bool true, .bool false, .bool false, sv t, .bool true, .bool false, .bool false, sv t, tv, sv p, .func (.func 129) #[] #[.pointer (some ⟨Bl + 1, 0, none⟩), .pointer (some ⟨Bl + 1 + 1, 0, none⟩)], sv x.1.1, .bool x.1.2, undef, undef, undef, undef, undef, undef, undef, undef, undef, undef, undef, undef, undef, undef, undef, undef, undef, undef, undef, undef, undef, undef, undef], defers := [] }) ?assign ?body ?done ?stop
    case oi =>
      rintro pre X Y row ⟨h, r, h2, h3, h4, h5⟩ hg hr
      exact ⟨h.grown hg (by omega) hr, r, h2, h3.kept hg (fun e => by have := (hr _ e.symm).1; omega), h4, h5⟩
    case ox =>
      rintro c pre X Y row ⟨rfl, v, h, h2⟩ hg hr
      exact ⟨rfl, v, h.grown hg (by omega) hr, h2⟩
    case assign =>
      intro l x X K hK
      gi_wp2
      exact hK
    case stop =>
      rintro D c pre X hD hS ⟨rfl, v, h, h2⟩ hK
      have e : matB p t = v := by
        obtain ⟨q, hq⟩ := hS
        have h3 := congrArg (List.map (·.1)) hq
        rw [List.map_append, lastL_fst, List.map_map] at h3
        have h4 : pre.map (·.1.1) ++ q.map (·.1) = splitL 47 p := h3
        rw [HM.out, runM_mat, ← h4, runM_err _ _ _ v h2]
      have HE := Lib.hid e
      clear e
      gi_wp2
      exact leaves_box rfl rfl h (by omega) hK (fun W' hb => ⟨by rw [HE.out], hb⟩)
    case done =>
      rintro D xs X hD hS ⟨h, r, h2, h3, h4, h5⟩ hK
      have e : matB p t = decide (r = []) := by
        rw [parts_all hS] at h2
        rw [HM.out, runM_mat, h2]
      have e2 : (joinS r).isEmpty = decide (r = []) := by
        cases r with
        | nil => rfl
        | cons y ys => simp [joinS]
      have hc := h.bx.cell
      have hf := h.bx.frozen
      have hc3 := h3.cell
      obtain ⟨L, hL⟩ : ∃ L, L = joinS r := ⟨_, rfl⟩
      rw [← hL] at e2 hc3
      have HE := Lib.hid (e.trans e2.symm)
      have HR := Lib.hid (h.set L.isEmpty)
      have hK2 : (X.setCell ⟨w.heap.size, 0, none⟩ (.bool L.isEmpty)).heap[D]? = some (.deferred (some [])) := (Below.heap_setCell _ _ _ _ (fun e => by have e2 : D = w.heap.size := e; omega)).trans hK
      have HK2 := Lib.hid hK2
      clear h h2 hK hS hK2 h3 h4 h5 e e2 hL
      gi_wp2
      exact leaves_box rfl rfl HR.out (by omega) HK2.out (fun W' hb => ⟨by rw [HE.out], hb⟩)
    case body =>
      rintro lp pre x X ⟨h, r, h2, h3, h4, h5⟩ hlt
      obtain ⟨q, hx1⟩ : ∃ q, q = x.1.1 := ⟨_, rfl⟩
      rw [← hx1]
      have hcut := cut_any (joinS r) 47 (by omega) X
      have hcX := h3.cell
      have HRI2 := Lib.hid h
      have HBX := Lib.hid h3
      have HRM := Lib.hid h2
      have HFR := Lib.hid h4
      have HLN := Lib.hid h5
      clear h h2 h3 h4 h5
      cases r with
      | nil =>
        rw [joinS, show cutL 47 [] = ([], [], false) from rfl] at hcut
        have hcut' : Calls Tryz.prog 99 #[sv [], .string ⟨#[47]⟩] X fun e w' => e = .returned (.tuple #[sv [], sv [], .bool false]) ∧ Below X.heap.size X w' := hcut
        have HC := Lib.hid hcut'
        have hz : True := trivial
        clear hcut hcut'
        have HP := Lib.hid (show runM ((pre ++ [x]).map (·.1.1)) (splitL 47 t) = .error false by rw [List.map_append, runM_ok _ _ _ _ HRM.out]; simp [runM])
        clear hz hx1
        gi_wp2_with (first | (gi_at_call 99; refine (CallsIn.inRound lp (callsIn_wide.2 HC.out)).mono ?_; rintro e w1 ⟨rfl, hb1⟩; have hI1 := HRI2.out.below hb1; have hB1 := (KX.below (p := fun _ _ => True) hb1).boxed trivial HBX.out; have hc1 := hI1.bx.cell; have hf1 := hI1.bx.frozen; have hc2 := hB1.cell; have hf2 := hB1.frozen; have HI1 := Lib.hid hI1; have HBX1 := Lib.hid hB1; have HB1 := Lib.hid hb1; clear hI1 hb1 hB1) | (refine ⟨fun h => (by simp [Fence.wide] at h), ?_⟩) | (refine ⟨(show Fence.wide.fn _ from trivial), ?_⟩))
        exact ⟨(KeepsFrom.below HB1.out).trans (KeepsFrom.set _ _ (by omega)), rfl, false, HI1.out.set false, HP.out⟩
      | cons y ys =>
        rw [cut_join (HFR.out y List.mem_cons_self)] at hcut
        have hcut' : Calls Tryz.prog 99 #[sv (joinS (y :: ys)), .string ⟨#[47]⟩] X fun e w' => e = .returned (.tuple #[sv y, sv (joinS ys), .bool true]) ∧ Below X.heap.size X w' := hcut
        have HC := Lib.hid hcut'
        obtain ⟨L, hL⟩ : ∃ L, L = joinS (y :: ys) := ⟨_, rfl⟩
        obtain ⟨M, hM⟩ : ∃ M, M = joinS ys := ⟨_, rfl⟩
        rw [← hL, ← hM] at HC
        rw [← hL] at hcX HBX
        have HMM := Lib.hid hM
        clear hcut hcut' hL hM
        by_cases a1 : q = [35]
        · have b1 : (q == [35]) = true := by rw [a1]; rfl
          have hz : x.1.1 = [35] := by rw [← hx1, a1]
          clear a1
          have HP := Lib.hid (show runM ((pre ++ [x]).map (·.1.1)) (splitL 47 t) = .error true by rw [List.map_append, runM_ok _ _ _ _ HRM.out]; simp [runM, hz])
          clear hz hx1
          gi_wp2_with (first | (gi_at_call 99; refine (CallsIn.inRound lp (callsIn_wide.2 HC.out)).mono ?_; rintro e w1 ⟨rfl, hb1⟩; have hI1 := HRI2.out.below hb1; have hB1 := (KX.below (p := fun _ _ => True) hb1).boxed trivial HBX.out; have hc1 := hI1.bx.cell; have hf1 := hI1.bx.frozen; have hc2 := hB1.cell; have hf2 := hB1.frozen; have HI1 := Lib.hid hI1; have HBX1 := Lib.hid hB1; have HB1 := Lib.hid hb1; clear hI1 hb1 hB1) | (refine ⟨fun h => (by simp [Fence.wide] at h), ?_⟩) | (refine ⟨(show Fence.wide.fn _ from trivial), ?_⟩))
          exact ⟨(KeepsFrom.below HB1.out).trans (KeepsFrom.set _ _ (by omega)), rfl, true, HI1.out.set true, HP.out⟩
        · have b1 : (q == [35]) = false := by simpa using a1
          by_cases a2 : q = [43]
          · have b2 : (q == [43]) = true := by rw [a2]; rfl
            have hz : x.1.1 = [43] := by rw [← hx1, a2]
            have hz2 : True := trivial
            clear a1 a2
            have HP := Lib.hid (show runM ((pre ++ [x]).map (·.1.1)) (splitL 47 t) = .ok ys by rw [List.map_append, runM_ok _ _ _ _ HRM.out]; simp [runM, hz])
            clear hz hx1 hz2
            gi_wp2_with (first | (gi_at_call 99; refine (CallsIn.inRound lp (callsIn_wide.2 HC.out)).mono ?_; rintro e w1 ⟨rfl, hb1⟩; have hI1 := HRI2.out.below hb1; have hB1 := (KX.below (p := fun _ _ => True) hb1).boxed trivial HBX.out; have hc1 := hI1.bx.cell; have hf1 := hI1.bx.frozen; have hc2 := hB1.cell; have hf2 := hB1.frozen; have HI1 := Lib.hid hI1; have HBX1 := Lib.hid hB1; have HB1 := Lib.hid hb1; clear hI1 hb1 hB1) | (refine ⟨fun h => (by simp [Fence.wide] at h), ?_⟩) | (refine ⟨(show Fence.wide.fn _ from trivial), ?_⟩))
            exact ⟨(KeepsFrom.below HB1.out).trans (KeepsFrom.set _ _ (by omega)), (KeepsP.below HB1.out).trans (KeepsP.set _ _ (by omega) (by omega)), HI1.out.setOther (by omega) _, ys, HP.out, by rw [← HMM.out]; exact HBX1.out.set _, fun p hp => HFR.out p (List.mem_cons_of_mem _ hp), by have := HLN.out; rw [joinS, List.length_append, List.length_cons] at this; omega⟩
          · have b2 : (q == [43]) = false := by simpa using a2
            by_cases a3 : q = y
            · have b3 : (q == y) = true := by rw [a3]; simp
              have hz : x.1.1 = y := by rw [← hx1, a3]
              have hz2 : y ≠ [35] := by rw [← a3]; exact a1
              clear a1 a2 a3
              have HP := Lib.hid (show runM ((pre ++ [x]).map (·.1.1)) (splitL 47 t) = .ok ys by rw [List.map_append, runM_ok _ _ _ _ HRM.out]; simp [runM, hz, hz2])
              clear hz hx1 hz2
              gi_wp2_with (first | (gi_at_call 99; refine (CallsIn.inRound lp (callsIn_wide.2 HC.out)).mono ?_; rintro e w1 ⟨rfl, hb1⟩; have hI1 := HRI2.out.below hb1; have hB1 := (KX.below (p := fun _ _ => True) hb1).boxed trivial HBX.out; have hc1 := hI1.bx.cell; have hf1 := hI1.bx.frozen; have hc2 := hB1.cell; have hf2 := hB1.frozen; have HI1 := Lib.hid hI1; have HBX1 := Lib.hid hB1; have HB1 := Lib.hid hb1; clear hI1 hb1 hB1) | (refine ⟨fun h => (by simp [Fence.wide] at h), ?_⟩) | (refine ⟨(show Fence.wide.fn _ from trivial), ?_⟩))
              exact ⟨(KeepsFrom.below HB1.out).trans (KeepsFrom.set _ _ (by omega)), (KeepsP.below HB1.out).trans (KeepsP.set _ _ (by omega) (by omega)), HI1.out.setOther (by omega) _, ys, HP.out, by rw [← HMM.out]; exact HBX1.out.set _, fun p hp => HFR.out p (List.mem_cons_of_mem _ hp), by have := HLN.out; rw [joinS, List.length_append, List.length_cons] at this; omega⟩
            · have b3 : (q == y) = false := by simpa using a3
              have hz : x.1.1 ≠ [35] ∧ x.1.1 ≠ [43] ∧ x.1.1 ≠ y := by rw [← hx1]; exact ⟨a1, a2, a3⟩
              clear a1 a2 a3
              have HP := Lib.hid (show runM ((pre ++ [x]).map (·.1.1)) (splitL 47 t) = .error false by rw [List.map_append, runM_ok _ _ _ _ HRM.out]; simp [runM, hz])
              clear hz hx1
              gi_wp2_with (first | (gi_at_call 99; refine (CallsIn.inRound lp (callsIn_wide.2 HC.out)).mono ?_; rintro e w1 ⟨rfl, hb1⟩; have hI1 := HRI2.out.below hb1; have hB1 := (KX.below (p := fun _ _ => True) hb1).boxed trivial HBX.out; have hc1 := hI1.bx.cell; have hf1 := hI1.bx.frozen; have hc2 := hB1.cell; have hf2 := hB1.frozen; have HI1 := Lib.hid hI1; have HBX1 := Lib.hid hB1; have HB1 := Lib.hid hb1; clear hI1 hb1 hB1) | (refine ⟨fun h => (by simp [Fence.wide] at h), ?_⟩) | (refine ⟨(show Fence.wide.fn _ from trivial), ?_⟩))
              exact ⟨(KeepsFrom.below HB1.out).trans (KeepsFrom.set _ _ (by omega)), rfl, false, HI1.out.set false, HP.out⟩
end Go.Proofs.YtodckdkbheapfaaGreat
set_option linter.unusedVariables false
namespace Go.Tp
open Go
def goP : List UInt8 → List (List UInt8) → Option (List UInt8)
  | last, [] => some last
  | last, p :: ps => if pairOk last p = true then goP (firstOf p) ps else none
theorem goP_some : ∀ last ps, pairsP last ps = (goP last ps).isSome
  | _, [] => rfl
  | last, p :: ps => by
    rw [pairsP, goP, goP_some (firstOf p) ps]
    cases h : pairOk last p
    · simp
    · simp
theorem goP_append : ∀ last a b, goP last (a ++ b) = (goP last a).bind fun m => goP m b
  | _, [], _ => rfl
  | last, p :: ps, b => by
    rw [List.cons_append, goP, goP]
    split
    · exact goP_append _ ps b
    · rfl
theorem word_free {p : List UInt8} (h : wordB p = true) : ∀ x ∈ p, x ≠ 61 := by
  intro x hx e
  unfold wordB at h
  rw [Bool.and_eq_true, List.all_eq_true] at h
  have := h.1 x hx
  rw [e] at this
  revert this; decide
theorem pairOk_cut (last p : List UInt8) : pairOk last p = (wordB (cutL 61 p).1 && wordB (cutL 61 p).2.1 && !leS (cutL 61 p).1 last) := by
  cases hf : (cutL 61 p).2.2 with
  | false =>
    have hm := cut_miss 61 p hf
    have hfree := cut_free 61 p
    rw [hm] at hfree ⊢
    unfold pairOk
    rw [splitL_last 61 p hfree]
    simp [wordB]
  | true =>
    have hh := cut_hit 61 p hf
    have hfree := cut_free 61 p
    generalize (cutL 61 p).1 = a at *
    generalize (cutL 61 p).2.1 = b at *
    subst hh
    unfold pairOk
    rw [splitL_part 61 a hfree]
    cases hb : wordB b with
    | true =>
      rw [splitL_last 61 b (word_free hb)]
      simp [hb]
    | false =>
      cases hs : splitL 61 b with
      | nil => exact absurd hs (splitL_ne 61 b)
      | cons q qs =>
        cases qs with
        | nil =>
          have h1 : q = b := by
            cases hc : (cutL 61 b).2.2 with
            | false =>
              have hm := cut_miss 61 b hc
              have hfr := cut_free 61 b
              rw [hm] at hfr
              rw [splitL_last 61 b hfr] at hs
              injection hs with hs _
              exact hs.symm
            | true =>
              have hh := cut_hit 61 b hc
              rw [hh, splitL_part 61 _ (cut_free 61 b)] at hs
              injection hs with _ hs
              exact absurd hs (splitL_ne 61 _)
          simp [h1, hb]
        | cons r rs => simp
theorem first_cut {last p : List UInt8} (h : pairOk last p = true) : firstOf p = (cutL 61 p).1 := by
  rw [pairOk_cut, Bool.and_eq_true, Bool.and_eq_true] at h
  cases hf : (cutL 61 p).2.2 with
  | false =>
    have hm := cut_miss 61 p hf
    rw [hm] at h
    exact absurd h.1.2 (by simp [wordB])
  | true =>
    have hh := cut_hit 61 p hf
    conv => lhs; rw [hh]
    unfold firstOf
    rw [splitL_part 61 _ (cut_free 61 p)]
    rfl
end Go.Tp
namespace Go.Proofs.YtodckdkbheapfaaGreat
open Go.RowKit Go.Rst Go.Tp Go.Shelf
attribute [local go_sem] Oper.semAt_some
structure AI (w : World) (ps : List (List UInt8)) (X : World) : Prop where
  ri : RI w false X
  st : ∃ r, goP [] ps = some r ∧ Boxed X (w.heap.size + 1) 9 (sv r)
set_option maxRecDepth 100000 in
set_option maxHeartbeats 4000000 in
theorem attrsP_any (l : List UInt8) (w : World) : Calls Tryz.prog 66 #[sv l] w fun e w' => e = .returned (.bool (attrsB l)) ∧ Below w.heap.size w w' := by
  refine (callsIn_wide (n := 3)).1 ?_
  refine callsIn_of_wp_marks Tryz.func66 rfl trivial ?_ rfl
  simp only [Tryz.ntmps66, List.size_toArray, List.length_cons, List.length_nil, Nat.reduceAdd, Nat.reduceSub, Array.replicate_succ, Array.replicate_zero, List.push_toArray, List.append_toArray, List.nil_append, List.cons_append]
  have h0 : RI w false (w.alloc (.cells #[.bool false] 4)) := ⟨(Below.refl _ w).alloc (Nat.le_refl _) _, Boxed.new w _ _⟩
  have H0 := Lib.hid h0
  clear h0
  by_cases hl0 : l = []
  · have b0 : (l == []) = true := by rw [hl0]; rfl
    have HE := Lib.hid (show attrsB l = true by rw [hl0]; rfl)
    clear hl0
    gi_wp2
    exact leaves_box0 (w := w) rfl rfl (b := true) ⟨(Below.refl _ w).alloc (Nat.le_refl _) _, Boxed.new w _ _⟩ (fun W' hb => ⟨by rw [HE.out], hb⟩)
  have b0 : (l == []) = false := by simpa using hl0
  have HL0 := Lib.hid hl0
  by_cases h30 : l.length ≤ 30
  · have q0 : ¬ (30 : Int) < (l.length : Int) := by omega
    have hat : attrsB l = (goP [] (splitL 44 l)).isSome := by
      unfold attrsB pairsR
      rw [if_neg hl0, ← goP_some]
      cases h : pairsP [] (splitL 44 l)
      · simp
      · simp [h30]
    have HAT := Lib.hid hat
    clear hat hl0
    have hp1 : ∀ n (w : World), CallsIn Fence.wide n Tryz.prog 97 #[sv l, .int .i32 44] w _ := fun n w => parts_in n l 44 w
    gi_wp2_with (first | (gi_at_call 97; refine (hp1 _ _).mono ?_; rintro e w2 ⟨rfl, rfl⟩) | (refine ⟨(show Fence.wide.fn _ from trivial), ?_⟩))
    have hai0 : AI w [] ((((w.alloc (.cells #[.bool false] 4)).alloc (.cells #[sv []] 9)).alloc (.cells #[sv l] 9)).alloc (.cells #[.int .i32 44] 21)) := by
      refine ⟨⟨((((Below.refl _ w).alloc (Nat.le_refl _) _).alloc (by simp) _).alloc (by simp; omega) _).alloc (by simp; omega) _, (((Boxed.new w _ _).alloc _).alloc _).alloc _⟩, [], rfl, ?_⟩
      have h2 := Boxed.new (w.alloc (.cells #[.bool false] 4)) 9 (sv [])
      rw [World.size_alloc] at h2
      exact (h2.alloc _).alloc _
    have hkb0 := kb_new ((w.alloc (.cells #[.bool false] 4)).alloc (.cells #[sv []] 9)) l 44
    rw [World.size_alloc, World.size_alloc] at hkb0
    have hsz0 : ((((w.alloc (.cells #[.bool false] 4)).alloc (.cells #[sv []] 9)).alloc (.cells #[sv l] 9)).alloc (.cells #[.int .i32 44] 21)).heap.size = w.heap.size + 4 := by simp
    obtain ⟨W0, hW0⟩ : ∃ W0, W0 = ((((w.alloc (.cells #[.bool false] 4)).alloc (.cells #[sv []] 9)).alloc (.cells #[sv l] 9)).alloc (.cells #[.int .i32 44] 21)) := ⟨_, rfl⟩
    have hkb : KB (w.heap.size + 1 + 1) l 44 W0 := by rw [hW0]; exact hkb0
    rw [← hW0] at hai0 hsz0
    rw [← hW0]
    clear hW0 hkb0 hp1
    refine wpIn_rangeFunc_ownG rfl (by decide) (gf := 129) (lb := #[.pointer (some ⟨w.heap.size + 1 + 1, 0, none⟩), .pointer (some ⟨w.heap.size + 1 + 1 + 1, 0, none⟩)]) rfl trivial (enters_of Tryz.func129 (by kernel_rfl) rfl)
      (parts_stops 2 (w.heap.size + 1 + 1) l 44 (by omega) (by decide) W0 (by omega) hkb) (fun h k => KeepsP.trans h k) (fun X l o o' _ hlo hc hw => KeepsP.turn X l o o' hlo hc hw) (Below.refl _ _) (fun _ => rfl)
      (fun pre X => AI w (pre.map (·.1.1)) X)
      (fun c pre X => c = .ret ∧ RI w false X ∧ goP [] (pre.map (·.1.1)) = none)
      ?oi ?ox hai0
      (fun x => { tmps := #[sv l, undef, .pointer (some ⟨w.heap.size, 0, none⟩), .pointer (some ⟨w.heap.size + 1, 0, none⟩), sv x.1.1, undef, undef, undef, sv l, .bool false, sv l, .int .i64 l.length, .bool false, sv l, .func (.func 129) #[] #[.pointer (some ⟨w.heap.size + 1 + 1, 0, none⟩), .pointer (some ⟨w.heap.size + 1 + 1 + 1, 0, none⟩)], sv x.1.1, .bool x.1.2, undef, undef, undef, undef, undef, undef, undef, undef, undef, undef, undef, undef, undef, undef, undef, undef, undef, undef, undef, undef], defers := [] }) ?assign ?body ?done ?stop
    case oi =>
      rintro pre X Y row ⟨h, r, h2, h3⟩ hg hr
      exact ⟨h.grown hg (by omega) hr, r, h2, h3.kept hg (fun e => by have := (hr _ e.symm).1; omega)⟩
    case ox =>
      rintro c pre X Y row ⟨rfl, h, h2⟩ hg hr
      exact ⟨rfl, h.grown hg (by omega) hr, h2⟩
    case assign =>
      intro l x X K hK
      gi_wp2
      exact hK
    case stop =>
      rintro D c pre X hD hS ⟨rfl, h, h2⟩ hK
      have e : attrsB l = false := by
        obtain ⟨q, hq⟩ := hS
        have h3 := congrArg (List.map (·.1)) hq
        rw [List.map_append, lastL_fst, List.map_map] at h3
        have h4 : pre.map (·.1.1) ++ q.map (·.1) = splitL 44 l := h3
        rw [HAT.out, ← h4, goP_append, h2]
        rfl
      have HE := Lib.hid e
      clear e
      gi_wp2
      exact leaves_box rfl rfl h (by omega) hK (fun W' hb => ⟨by rw [HE.out], hb⟩)
    case done =>
      rintro D xs X hD hS ⟨h, r, h2, h3⟩ hK
      have e : attrsB l = true := by
        rw [parts_all hS] at h2
        rw [HAT.out, h2]
        rfl
      have hc := h.bx.cell
      have hf := h.bx.frozen
      have HE := Lib.hid e
      have HR := Lib.hid (h.set true)
      have hK2 : (X.setCell ⟨w.heap.size, 0, none⟩ (.bool true)).heap[D]? = some (.deferred (some [])) := (Below.heap_setCell _ _ _ _ (fun e => by have e2 : D = w.heap.size := e; omega)).trans hK
      have HK2 := Lib.hid hK2
      clear h h2 hK hS hK2 h3 e
      gi_wp2
      exact leaves_box rfl rfl HR.out (by omega) HK2.out (fun W' hb => ⟨by rw [HE.out], hb⟩)
    case body =>
      rintro lp pre x X ⟨h, last, h2, h3⟩ hlt
      have hxl := x.2
      have hpo := pairOk_cut last x.1.1
      have hfc := @first_cut last x.1.1
      have hcut := cut_any x.1.1 61 (by omega) X
      obtain ⟨a, ha⟩ : ∃ a, a = (cutL 61 x.1.1).1 := ⟨_, rfl⟩
      obtain ⟨b, hb⟩ : ∃ b, b = (cutL 61 x.1.1).2.1 := ⟨_, rfl⟩
      rw [← ha, ← hb] at hpo hcut
      rw [← ha] at hfc
      have HRI2 := Lib.hid h
      have HBX := Lib.hid h3
      have HRM := Lib.hid h2
      have HC := Lib.hid hcut
      have HWA := Lib.hid (wordP_bel a)
      have HWB := Lib.hid (wordP_bel b)
      have HOK := Lib.hid hpo
      have HFC := Lib.hid hfc
      clear h h2 h3 hcut hpo hfc ha hb hxl
      cases hwa : wordB a with
      | false =>
        have hok : (wordB a && wordB b && !leS a last) = false := by rw [hwa]; rfl
        rw [hwa] at HWA
        clear hwa
        have HP := Lib.hid (show goP [] ((pre ++ [x]).map (·.1.1)) = none by rw [List.map_append, goP_append, HRM.out]; simp [goP, HOK.out, hok])
        have HX := Lib.hid hok
        clear hok
        gi_wp2_with (first | (gi_at_call 99; refine (CallsIn.inRound lp (callsIn_wide.2 HC.out)).mono ?_; rintro e w1 ⟨rfl, hb1⟩; have hI1 := HRI2.out.below hb1; have hB1 := (KX.below (p := fun _ _ => True) hb1).boxed trivial HBX.out; have HI1 := Lib.hid hI1; have HBX1 := Lib.hid hB1; have HB1 := Lib.hid hb1; clear hI1 hb1 hB1) | (gi_at_call 98; first | (refine (CallsIn.inRound lp (callsIn_wide.2 (HWB.out w2))).mono ?_; rintro e w3 ⟨rfl, hb3⟩; have hI3 := HI2.out.below hb3; have hB3 := (KX.below (p := fun _ _ => True) hb3).boxed trivial HBX2.out; have hc1 := hI3.bx.cell; have hf1 := hI3.bx.frozen; have hc2 := hB3.cell; have hf2 := hB3.frozen; have HI3 := Lib.hid hI3; have HBX3 := Lib.hid hB3; have HB3 := Lib.hid (HB2.out.trans (hb3.mono HB2.out.size)); clear hI3 hb3 hB3) | (refine (CallsIn.inRound lp (callsIn_wide.2 (HWA.out w1))).mono ?_; rintro e w2 ⟨rfl, hb2⟩; have hI2 := HI1.out.below hb2; have hB2 := (KX.below (p := fun _ _ => True) hb2).boxed trivial HBX1.out; have hc1 := hI2.bx.cell; have hf1 := hI2.bx.frozen; have hc2 := hB2.cell; have hf2 := hB2.frozen; have HI2 := Lib.hid hI2; have HBX2 := Lib.hid hB2; have HB2 := Lib.hid (HB1.out.trans (hb2.mono HB1.out.size)); clear hI2 hb2 hB2)) | (refine ⟨fun h => (by simp [Fence.wide] at h), ?_⟩) | (refine ⟨(show Fence.wide.fn _ from trivial), ?_⟩))
        exact ⟨(KeepsFrom.below HB2.out).trans (KeepsFrom.set _ _ (by omega)), rfl, HI2.out.set false, HP.out⟩
      | true =>
      cases hwb : wordB b with
      | false =>
        have hok : (wordB a && wordB b && !leS a last) = false := by rw [hwa, hwb]; rfl
        rw [hwa] at HWA
        rw [hwb] at HWB
        clear hwa hwb
        have HP := Lib.hid (show goP [] ((pre ++ [x]).map (·.1.1)) = none by rw [List.map_append, goP_append, HRM.out]; simp [goP, HOK.out, hok])
        have HX := Lib.hid hok
        clear hok
        gi_wp2_with (first | (gi_at_call 99; refine (CallsIn.inRound lp (callsIn_wide.2 HC.out)).mono ?_; rintro e w1 ⟨rfl, hb1⟩; have hI1 := HRI2.out.below hb1; have hB1 := (KX.below (p := fun _ _ => True) hb1).boxed trivial HBX.out; have HI1 := Lib.hid hI1; have HBX1 := Lib.hid hB1; have HB1 := Lib.hid hb1; clear hI1 hb1 hB1) | (gi_at_call 98; first | (refine (CallsIn.inRound lp (callsIn_wide.2 (HWB.out w2))).mono ?_; rintro e w3 ⟨rfl, hb3⟩; have hI3 := HI2.out.below hb3; have hB3 := (KX.below (p := fun _ _ => True) hb3).boxed trivial HBX2.out; have hc1 := hI3.bx.cell; have hf1 := hI3.bx.frozen; have hc2 := hB3.cell; have hf2 := hB3.frozen; have HI3 := Lib.hid hI3; have HBX3 := Lib.hid hB3; have HB3 := Lib.hid (HB2.out.trans (hb3.mono HB2.out.size)); clear hI3 hb3 hB3) | (refine (CallsIn.inRound lp (callsIn_wide.2 (HWA.out w1))).mono ?_; rintro e w2 ⟨rfl, hb2⟩; have hI2 := HI1.out.below hb2; have hB2 := (KX.below (p := fun _ _ => True) hb2).boxed trivial HBX1.out; have hc1 := hI2.bx.cell; have hf1 := hI2.bx.frozen; have hc2 := hB2.cell; have hf2 := hB2.frozen; have HI2 := Lib.hid hI2; have HBX2 := Lib.hid hB2; have HB2 := Lib.hid (HB1.out.trans (hb2.mono HB1.out.size)); clear hI2 hb2 hB2)) | (refine ⟨fun h => (by simp [Fence.wide] at h), ?_⟩) | (refine ⟨(show Fence.wide.fn _ from trivial), ?_⟩))
        exact ⟨(KeepsFrom.below HB3.out).trans (KeepsFrom.set _ _ (by omega)), rfl, HI3.out.set false, HP.out⟩
      | true =>
        rw [hwa] at HWA
        rw [hwb] at HWB
        cases hbl : Op.bytesLess a last with
        | true =>
          have hok : (wordB a && wordB b && !leS a last) = false := by simp [leS, hbl]
          clear hwa hwb
          have HP := Lib.hid (show goP [] ((pre ++ [x]).map (·.1.1)) = none by rw [List.map_append, goP_append, HRM.out]; simp [goP, HOK.out, hok])
          have HX := Lib.hid hok
          clear hok
          gi_wp2_with (first | (gi_at_call 99; refine (CallsIn.inRound lp (callsIn_wide.2 HC.out)).mono ?_; rintro e w1 ⟨rfl, hb1⟩; have hI1 := HRI2.out.below hb1; have hB1 := (KX.below (p := fun _ _ => True) hb1).boxed trivial HBX.out; have HI1 := Lib.hid hI1; have HBX1 := Lib.hid hB1; have HB1 := Lib.hid hb1; clear hI1 hb1 hB1) | (gi_at_call 98; first | (refine (CallsIn.inRound lp (callsIn_wide.2 (HWB.out w2))).mono ?_; rintro e w3 ⟨rfl, hb3⟩; have hI3 := HI2.out.below hb3; have hB3 := (KX.below (p := fun _ _ => True) hb3).boxed trivial HBX2.out; have hc1 := hI3.bx.cell; have hf1 := hI3.bx.frozen; have hc2 := hB3.cell; have hf2 := hB3.frozen; have HI3 := Lib.hid hI3; have HBX3 := Lib.hid hB3; have HB3 := Lib.hid (HB2.out.trans (hb3.mono HB2.out.size)); clear hI3 hb3 hB3) | (refine (CallsIn.inRound lp (callsIn_wide.2 (HWA.out w1))).mono ?_; rintro e w2 ⟨rfl, hb2⟩; have hI2 := HI1.out.below hb2; have hB2 := (KX.below (p := fun _ _ => True) hb2).boxed trivial HBX1.out; have hc1 := hI2.bx.cell; have hf1 := hI2.bx.frozen; have hc2 := hB2.cell; have hf2 := hB2.frozen; have HI2 := Lib.hid hI2; have HBX2 := Lib.hid hB2; have HB2 := Lib.hid (HB1.out.trans (hb2.mono HB1.out.size)); clear hI2 hb2 hB2)) | (refine ⟨fun h => (by simp [Fence.wide] at h), ?_⟩) | (refine ⟨(show Fence.wide.fn _ from trivial), ?_⟩))
          exact ⟨(KeepsFrom.below HB3.out).trans (KeepsFrom.set _ _ (by omega)), rfl, HI3.out.set false, HP.out⟩
        | false =>
          cases heq : (a == last) with
          | true =>
            have hok : (wordB a && wordB b && !leS a last) = false := by simp only [leS, hbl, heq]; simp
            clear hwa hwb
            have HP := Lib.hid (show goP [] ((pre ++ [x]).map (·.1.1)) = none by rw [List.map_append, goP_append, HRM.out]; simp [goP, HOK.out, hok])
            have HX := Lib.hid hok
            clear hok
            gi_wp2_with (first | (gi_at_call 99; refine (CallsIn.inRound lp (callsIn_wide.2 HC.out)).mono ?_; rintro e w1 ⟨rfl, hb1⟩; have hI1 := HRI2.out.below hb1; have hB1 := (KX.below (p := fun _ _ => True) hb1).boxed trivial HBX.out; have HI1 := Lib.hid hI1; have HBX1 := Lib.hid hB1; have HB1 := Lib.hid hb1; clear hI1 hb1 hB1) | (gi_at_call 98; first | (refine (CallsIn.inRound lp (callsIn_wide.2 (HWB.out w2))).mono ?_; rintro e w3 ⟨rfl, hb3⟩; have hI3 := HI2.out.below hb3; have hB3 := (KX.below (p := fun _ _ => True) hb3).boxed trivial HBX2.out; have hc1 := hI3.bx.cell; have hf1 := hI3.bx.frozen; have hc2 := hB3.cell; have hf2 := hB3.frozen; have HI3 := Lib.hid hI3; have HBX3 := Lib.hid hB3; have HB3 := Lib.hid (HB2.out.trans (hb3.mono HB2.out.size)); clear hI3 hb3 hB3) | (refine (CallsIn.inRound lp (callsIn_wide.2 (HWA.out w1))).mono ?_; rintro e w2 ⟨rfl, hb2⟩; have hI2 := HI1.out.below hb2; have hB2 := (KX.below (p := fun _ _ => True) hb2).boxed trivial HBX1.out; have hc1 := hI2.bx.cell; have hf1 := hI2.bx.frozen; have hc2 := hB2.cell; have hf2 := hB2.frozen; have HI2 := Lib.hid hI2; have HBX2 := Lib.hid hB2; have HB2 := Lib.hid (HB1.out.trans (hb2.mono HB1.out.size)); clear hI2 hb2 hB2)) | (refine ⟨fun h => (by simp [Fence.wide] at h), ?_⟩) | (refine ⟨(show Fence.wide.fn _ from trivial), ?_⟩))
            exact ⟨(KeepsFrom.below HB3.out).trans (KeepsFrom.set _ _ (by omega)), rfl, HI3.out.set false, HP.out⟩
          | false =>
            have hok : (wordB a && wordB b && !leS a last) = true := by simp only [leS, hbl, heq, hwa, hwb]; rfl
            have hfo := HFC.out (HOK.out.trans hok)
            clear hwa hwb
            have HP := Lib.hid (show goP [] ((pre ++ [x]).map (·.1.1)) = some a by rw [List.map_append, goP_append, HRM.out]; simp [goP, HOK.out, hok, hfo])
            have HX := Lib.hid hok
            clear hok hfo
            gi_wp2_with (first | (gi_at_call 99; refine (CallsIn.inRound lp (callsIn_wide.2 HC.out)).mono ?_; rintro e w1 ⟨rfl, hb1⟩; have hI1 := HRI2.out.below hb1; have hB1 := (KX.below (p := fun _ _ => True) hb1).boxed trivial HBX.out; have HI1 := Lib.hid hI1; have HBX1 := Lib.hid hB1; have HB1 := Lib.hid hb1; clear hI1 hb1 hB1) | (gi_at_call 98; first | (refine (CallsIn.inRound lp (callsIn_wide.2 (HWB.out w2))).mono ?_; rintro e w3 ⟨rfl, hb3⟩; have hI3 := HI2.out.below hb3; have hB3 := (KX.below (p := fun _ _ => True) hb3).boxed trivial HBX2.out; have hc1 := hI3.bx.cell; have hf1 := hI3.bx.frozen; have hc2 := hB3.cell; have hf2 := hB3.frozen; have HI3 := Lib.hid hI3; have HBX3 := Lib.hid hB3; have HB3 := Lib.hid (HB2.out.trans (hb3.mono HB2.out.size)); clear hI3 hb3 hB3) | (refine (CallsIn.inRound lp (callsIn_wide.2 (HWA.out w1))).mono ?_; rintro e w2 ⟨rfl, hb2⟩; have hI2 := HI1.out.below hb2; have hB2 := (KX.below (p := fun _ _ => True) hb2).boxed trivial HBX1.out; have hc1 := hI2.bx.cell; have hf1 := hI2.bx.frozen; have hc2 := hB2.cell; have hf2 := hB2.frozen; have HI2 := Lib.hid hI2; have HBX2 := Lib.hid hB2; have HB2 := Lib.hid (HB1.out.trans (hb2.mono HB1.out.size)); clear hI2 hb2 hB2)) | (refine ⟨fun h => (by simp [Fence.wide] at h), ?_⟩) | (refine ⟨(show Fence.wide.fn _ from trivial), ?_⟩))
            exact ⟨(KeepsFrom.below HB3.out).trans (KeepsFrom.set _ _ (by omega)), (KeepsP.below HB3.out).trans (KeepsP.set _ _ (by omega) (by omega)), HI3.out.setOther (by omega) _, a, HP.out, HBX3.out.set _⟩
  · have q0 : (30 : Int) < (l.length : Int) := by omega
    have e : attrsB l = false := by
      unfold attrsB pairsR
      rw [if_neg hl0]
      split
      · exact decide_eq_false h30
      · rfl
    have HE := Lib.hid e
    clear e hl0
    gi_wp2
    exact leaves_box0 (w := w) rfl rfl ⟨(Below.refl _ w).alloc (Nat.le_refl _) _, Boxed.new w _ _⟩ (fun W' hb => ⟨by rw [HE.out], hb⟩)
end Go.Proofs.YtodckdkbheapfaaGreat
set_option linter.unusedVariables false
namespace Go.Tp
open Go
theorem pairsP_ne : ∀ (last : List UInt8) (ps : List (List UInt8)), pairsP last ps = true → ∀ p ∈ ps, p ≠ []
  | _, [], _, p, hp => by cases hp
  | last, q :: ps, h, p, hp => by
    rw [pairsP, Bool.and_eq_true] at h
    rcases List.mem_cons.1 hp with e | e
    · intro h0
      rw [← e, h0] at h
      have := h.1
      simp [pairOk, splitL] at this
    · exact pairsP_ne _ ps h.2 p e
theorem want_parts {a b : List UInt8} (ha : attrsB a = true) (hb : attrsB b = true) (h0 : a ≠ []) : wantB a b = (splitL 44 a).all fun x => (splitL 44 b).contains x := by
  obtain ⟨h1, h2, h3⟩ := attrs_yes h0 ha
  have ha' : (pairsR a).2 = true := ha
  have hb' : (pairsR b).2 = true := hb
  unfold wantB
  rw [ha', hb', h3, Bool.and_self, Bool.and_true]
  by_cases hb0 : b = []
  · subst hb0
    have this : ∀ x ∈ splitL 44 a, (pairsR []).1.contains x = (splitL 44 []).contains x := fun x hx => by
      have := pairsP_ne _ _ h1 x hx
      rw [show pairsR [] = ([], true) from rfl, show splitL 44 [] = [[]] from rfl]
      simp [this]
    rw [Bool.eq_iff_iff, List.all_eq_true, List.all_eq_true]
    exact ⟨fun h x hx => by rw [← this x hx]; exact h x hx, fun h x hx => by rw [this x hx]; exact h x hx⟩
  · rw [(attrs_yes hb0 hb).2.2]
theorem want_no1 {a b : List UInt8} (h : attrsB a = false) : wantB a b = false := by
  have : (pairsR a).2 = false := h
  unfold wantB
  rw [this]; simp
theorem want_no2 {a b : List UInt8} (h : attrsB b = false) : wantB a b = false := by
  have : (pairsR b).2 = false := h
  unfold wantB
  rw [this]; simp
end Go.Tp
namespace Go.Proofs.YtodckdkbheapfaaGreat
open Go.RowKit Go.Rst Go.Tp Go.Shelf
attribute [local go_sem] Oper.semAt_some
theorem contains_any (ps : List (List UInt8)) (q : List UInt8) : ps.contains q = ps.any fun x => x == q := by
  induction ps with
  | nil => rfl
  | cons p ps ih =>
    rw [List.contains_cons, List.any_cons, ih]
    congr 1
    exact Bool.beq_comm
set_option maxRecDepth 100000 in
set_option maxHeartbeats 4000000 in
theorem hasW_any (l q : List UInt8) (hl : l.length ≤ 1000000) (w : World) : Calls Tryz.prog 106 #[sv l, sv q] w fun e w' => e = .returned (.bool ((splitL 44 l).contains q)) ∧ Below w.heap.size w w' := by
  rw [contains_any]
  refine (callsIn_wide (n := 3)).1 ?_
  refine callsIn_of_wp_marks Tryz.func106 rfl trivial ?_ rfl
  simp only [Tryz.ntmps106, List.size_toArray, List.length_cons, List.length_nil, Nat.reduceAdd, Nat.reduceSub, Array.replicate_succ, Array.replicate_zero, List.push_toArray, List.append_toArray, List.nil_append, List.cons_append]
  have hp1 : ∀ n (w : World), CallsIn Fence.wide n Tryz.prog 97 #[sv l, .int .i32 44] w _ := fun n w => parts_in n l 44 w
  gi_wp2_with (first | (gi_at_call 97; refine (hp1 _ _).mono ?_; rintro e w2 ⟨rfl, rfl⟩) | (refine ⟨(show Fence.wide.fn _ from trivial), ?_⟩))
  obtain ⟨w1, hw1⟩ : ∃ w1, w1 = w.alloc (.cells #[sv q] 9) := ⟨_, rfl⟩
  have hs1 : w1.heap.size = w.heap.size + 1 := by rw [hw1]; simp
  have hbw : Below w.heap.size w w1 := by rw [hw1]; exact (Below.refl _ w).alloc (Nat.le_refl _) _
  have hbq : Boxed w1 w.heap.size 9 (sv q) := by rw [hw1]; exact Boxed.new w _ _
  rw [← hw1, ← hs1]
  have hri0 : RI w1 false (((w1.alloc (.cells #[.bool false] 4)).alloc (.cells #[sv l] 9)).alloc (.cells #[.int .i32 44] 21)) :=
    ⟨(((Below.refl _ w1).alloc (Nat.le_refl _) _).alloc (by simp) _).alloc (by simp; omega) _, ((Boxed.new w1 _ _).alloc _).alloc _⟩
  have hkb0 := kb_new (w1.alloc (.cells #[.bool false] 4)) l 44
  rw [World.size_alloc] at hkb0
  have hsz0 : (((w1.alloc (.cells #[.bool false] 4)).alloc (.cells #[sv l] 9)).alloc (.cells #[.int .i32 44] 21)).heap.size = w1.heap.size + 3 := by simp
  have hq0 := ((hbq.alloc (.cells #[.bool false] 4)).alloc (.cells #[sv l] 9)).alloc (.cells #[.int .i32 44] 21)
  obtain ⟨W0, hW0⟩ : ∃ W0, W0 = (((w1.alloc (.cells #[.bool false] 4)).alloc (.cells #[sv l] 9)).alloc (.cells #[.int .i32 44] 21)) := ⟨_, rfl⟩
  have hkb : KB (w1.heap.size + 1) l 44 W0 := by rw [hW0]; exact hkb0
  rw [← hW0] at hri0 hsz0 hq0 ⊢
  have HBW := Lib.hid hbw
  have HS1 := Lib.hid hs1
  obtain ⟨b0, hb0⟩ : ∃ b0, b0 = w.heap.size := ⟨_, rfl⟩
  rw [← hb0] at hq0 hs1 ⊢
  have hlt0 : b0 < w1.heap.size := by omega
  clear hW0 hkb0 hp1 hw1 hs1 hbw hbq hb0
  refine wpIn_rangeFunc_ownG rfl (by decide) (gf := 129) (lb := #[.pointer (some ⟨w1.heap.size + 1, 0, none⟩), .pointer (some ⟨w1.heap.size + 1 + 1, 0, none⟩)]) rfl trivial (enters_of Tryz.func129 (by kernel_rfl) rfl)
    (parts_stops 2 (w1.heap.size + 1) l 44 (by omega) (by decide) W0 (by omega) hkb) (fun h k => KeepsP.trans h k) (fun X l o o' _ hlo hc hw => KeepsP.turn X l o o' hlo hc hw) (Below.refl _ _) (fun _ => rfl)
    (fun pre X => RI w1 false X ∧ Boxed X b0 9 (sv q) ∧ pre.any (fun x => x.1.1 == q) = false)
    (fun c pre X => c = .ret ∧ RI w1 true X ∧ pre.any (fun x => x.1.1 == q) = true)
    ?oi ?ox ⟨hri0, hq0, rfl⟩
    (fun x => { tmps := #[sv l, sv q, undef, .pointer (some ⟨b0, 0, none⟩), .pointer (some ⟨w1.heap.size, 0, none⟩), sv x.1.1, sv l, .func (.func 129) #[] #[.pointer (some ⟨w1.heap.size + 1, 0, none⟩), .pointer (some ⟨w1.heap.size + 1 + 1, 0, none⟩)], sv x.1.1, .bool x.1.2, undef, undef, undef], defers := [] }) ?assign ?body ?done ?stop
  case oi =>
    rintro pre X Y row ⟨h, hq, h2⟩ hg hr
    exact ⟨h.grown hg (by omega) hr, hq.kept hg (fun e => by have := (hr _ e.symm).1; omega), h2⟩
  case ox =>
    rintro c pre X Y row ⟨rfl, h, h2⟩ hg hr
    exact ⟨rfl, h.grown hg (by omega) hr, h2⟩
  case assign =>
    intro l x X K hK
    gi_wp2
    exact hK
  case stop =>
    rintro D c pre X hD hS ⟨rfl, h, h2⟩ hK
    have e : ((splitL 44 l).any fun x => x == q) = true := by
      obtain ⟨x, hx, hw⟩ := List.any_eq_true.1 h2
      exact List.any_eq_true.2 ⟨x.1.1, part_mem hS hx, hw⟩
    have HE := Lib.hid e
    clear e
    gi_wp2
    exact leaves_box rfl rfl h (by omega) hK (fun W' hb => ⟨by rw [HE.out], HBW.out.trans (hb.mono HBW.out.size)⟩)
  case done =>
    rintro D xs X hD hS ⟨h, hq, h2⟩ hK
    have e : ((splitL 44 l).any fun x => x == q) = false := by
      rw [← parts_all hS, List.any_map]
      exact h2
    have hc := h.bx.cell
    have hf := h.bx.frozen
    have HE := Lib.hid e
    have HR := Lib.hid (h.set false)
    have hK2 : (X.setCell ⟨w1.heap.size, 0, none⟩ (.bool false)).heap[D]? = some (.deferred (some [])) := (Below.heap_setCell _ _ _ _ (fun e => by have e2 : D = w1.heap.size := e; omega)).trans hK
    have HK2 := Lib.hid hK2
    clear h h2 hK hS hK2 e hq
    gi_wp2
    exact leaves_box rfl rfl HR.out (by omega) HK2.out (fun W' hb => ⟨by rw [HE.out], HBW.out.trans (hb.mono HBW.out.size)⟩)
  case body =>
    rintro lp pre x X ⟨h, hq, h2⟩ hlt
    have hc := h.bx.cell
    have hf := h.bx.frozen
    have hcq := hq.cell
    have HI := Lib.hid h
    have HQ := Lib.hid hq
    cases hxq : (x.1.1 == q) with
    | false =>
      have HP := Lib.hid (show (pre ++ [x]).any (fun x => x.1.1 == q) = false by rw [List.any_append, h2]; simpa using hxq)
      clear h2 h hq
      gi_wp2_with (first | (refine ⟨fun h => (by simp [Fence.wide] at h), ?_⟩) | (refine ⟨(show Fence.wide.fn _ from trivial), ?_⟩))
      exact ⟨KeepsFrom.below (Below.refl _ _), KeepsP.below (Below.refl _ _), HI.out, HQ.out, HP.out⟩
    | true =>
      have HP := Lib.hid (show (pre ++ [x]).any (fun x => x.1.1 == q) = true by rw [List.any_append]; simp only [List.any_cons, hxq]; simp)
      clear h2 h hq
      gi_wp2_with (first | (refine ⟨fun h => (by simp [Fence.wide] at h), ?_⟩) | (refine ⟨(show Fence.wide.fn _ from trivial), ?_⟩))
      exact ⟨KeepsFrom.set _ _ (by omega), rfl, HI.out.set true, HP.out⟩
structure RJ (w : World) (m : List UInt8) (b : Bool) (X : World) : Prop where
  be : Below w.heap.size w X
  bx : Boxed X (w.heap.size + 1) 4 (.bool b)
  bm : Boxed X w.heap.size 9 (sv m)
theorem RJ.grown {w : World} {m : List UInt8} {b : Bool} {X Y : World} {row : Option Nat} {B : Nat} (h : RJ w m b X) (hg : X.grownBy Y row) (hB : w.heap.size + 1 < B) (hr : ∀ r, row = some r → B ≤ r ∧ ∃ o : Obj, X.heap[r]? = some o ∧ o.isCells = false) : RJ w m b Y :=
  ⟨h.be.grown hg h.be.size (fun k e => by have := (hr k e).1; omega), h.bx.kept hg (fun e => by have := (hr _ e.symm).1; omega), h.bm.kept hg (fun e => by have := (hr _ e.symm).1; omega)⟩
theorem RJ.below {w : World} {m : List UInt8} {b : Bool} {X Y : World} (h : RJ w m b X) (hb : Below X.heap.size X Y) : RJ w m b Y :=
  ⟨h.be.trans (hb.mono h.be.size), (KX.below (p := fun _ _ => True) hb).boxed trivial h.bx, (KX.below (p := fun _ _ => True) hb).boxed trivial h.bm⟩
theorem RJ.set {w : World} {m : List UInt8} {b : Bool} {X : World} (h : RJ w m b X) (b' : Bool) : RJ w m b' (X.setCell ⟨w.heap.size + 1, 0, none⟩ (.bool b')) :=
  ⟨h.be.trans ((Below.refl _ X).setCell (by simp) _), h.bx.set _, h.bm.kept (grownBy_setCell' X _ _) (fun e => by injection e; omega)⟩
theorem RJ.start (w : World) (m : List UInt8) (b : Bool) : RJ w m b ((w.alloc (.cells #[sv m] 9)).alloc (.cells #[.bool b] 4)) := by
  have h2 := Boxed.new (w.alloc (.cells #[sv m] 9)) 4 (.bool b)
  rw [World.size_alloc] at h2
  exact ⟨((Below.refl _ w).alloc (Nat.le_refl _) _).alloc (by simp) _, h2, (Boxed.new w _ _).alloc _⟩
theorem leaves_boxJ {F : Fence} {n : Nat} {fn : Func} {w X : World} {m : List UInt8} {b : Bool} {tmps : Array Value} {p : Nat} {R : Ending → World → Prop} (hfn : fn.results = #[.cell p 4]) (hp : tmps.getD p undef = .pointer (some ⟨w.heap.size + 1, 0, none⟩)) (h : RJ w m b X)
    {D : Nat} (hD : w.heap.size ≤ D) (hK : X.heap[D]? = some (.deferred (some []))) (hR : ∀ W', Below w.heap.size w W' → R (.returned (.bool b)) W') :
    LeavesInM F n Tryz.prog fn tmps R [{ target := .collected D, args := #[] }] .returning X :=
  leaves_marks (base := w.heap.size) (hi := X.heap.size) ⟨⟨D, rfl, hD, (Array.getElem?_eq_some_iff.1 hK).1, hK, fun d hd => by cases hd⟩, trivial⟩
    (fun W' hk hb => ⟨_, leaveB hfn hp (hk.boxed trivial h.bx).cell, hR W' (h.be.trans hb)⟩)
theorem leaves_boxJ0 {F : Fence} {n : Nat} {fn : Func} {w X : World} {m : List UInt8} {b : Bool} {tmps : Array Value} {p : Nat} {R : Ending → World → Prop} (hfn : fn.results = #[.cell p 4]) (hp : tmps.getD p undef = .pointer (some ⟨w.heap.size + 1, 0, none⟩)) (h : RJ w m b X)
    (hR : ∀ W', Below w.heap.size w W' → R (.returned (.bool b)) W') : LeavesInM F n Tryz.prog fn tmps R [] .returning X :=
  leaves_marks (base := w.heap.size) (hi := X.heap.size) trivial (fun W' hk hb => ⟨_, leaveB hfn hp (hk.boxed trivial h.bx).cell, hR W' (h.be.trans hb)⟩)
set_option maxRecDepth 100000 in
set_option maxHeartbeats 4000000 in
theorem wantP_any (l m : List UInt8) (w : World) : Calls Tryz.prog 73 #[sv l, sv m] w fun e w' => e = .returned (.bool (wantB l m)) ∧ Below w.heap.size w w' := by
  have HAL := Lib.hid (attrsP_any l)
  have HAM := Lib.hid (attrsP_any m)
  refine (callsIn_wide (n := 3)).1 ?_
  refine callsIn_of_wp_marks Tryz.func73 rfl trivial ?_ rfl
  simp only [Tryz.ntmps73, List.size_toArray, List.length_cons, List.length_nil, Nat.reduceAdd, Nat.reduceSub, Array.replicate_succ, Array.replicate_zero, List.push_toArray, List.append_toArray, List.nil_append, List.cons_append]
  have H0 := Lib.hid (RJ.start w m false)
  cases hal : attrsB l with
  | false =>
    have HE := Lib.hid (want_no1 (b := m) hal)
    rw [hal] at HAL
    clear hal
    gi_wp2_with (first | (gi_at_call 66; refine (callsIn_wide.2 (HAL.out _)).mono ?_; rintro e w1 ⟨rfl, hb1⟩; have hI1 := H0.out.below hb1; have hc1 := hI1.bx.cell; have hf1 := hI1.bx.frozen; have hm1 := hI1.bm.cell; have HI1 := Lib.hid hI1; clear hI1 hb1) | (refine ⟨(show Fence.wide.fn _ from trivial), ?_⟩))
    exact leaves_boxJ0 (w := w) rfl rfl (HI1.out.set false) (fun W' hb => ⟨by rw [HE.out], hb⟩)
  | true =>
  rw [hal] at HAL
  cases ham : attrsB m with
  | false =>
    have HE := Lib.hid (want_no2 (a := l) ham)
    rw [ham] at HAM
    clear hal ham
    gi_wp2_with (first | (gi_at_call 66; first | (refine (callsIn_wide.2 (HAM.out w1)).mono ?_; rintro e w2 ⟨rfl, hb2⟩; have hI2 := HI1.out.below hb2; have hc2 := hI2.bx.cell; have hf2 := hI2.bx.frozen; have HI2 := Lib.hid hI2; clear hI2 hb2 hm1) | (refine (callsIn_wide.2 (HAL.out _)).mono ?_; rintro e w1 ⟨rfl, hb1⟩; have hI1 := H0.out.below hb1; have hm1 := hI1.bm.cell; have HI1 := Lib.hid hI1; clear hI1 hb1)) | (refine ⟨(show Fence.wide.fn _ from trivial), ?_⟩))
    exact leaves_boxJ0 (w := w) rfl rfl (HI2.out.set false) (fun W' hb => ⟨by rw [HE.out], hb⟩)
  | true =>
  rw [ham] at HAM
  by_cases hl0 : l = []
  · have HE := Lib.hid (show wantB l m = true by rw [hl0, want_none, ham])
    have b0 : (l == []) = true := by rw [hl0]; rfl
    clear hal ham hl0
    gi_wp2_with (first | (gi_at_call 66; first | (refine (callsIn_wide.2 (HAM.out w1)).mono ?_; rintro e w2 ⟨rfl, hb2⟩; have hI2 := HI1.out.below hb2; have hc2 := hI2.bx.cell; have hf2 := hI2.bx.frozen; have HI2 := Lib.hid hI2; clear hI2 hb2 hm1) | (refine (callsIn_wide.2 (HAL.out _)).mono ?_; rintro e w1 ⟨rfl, hb1⟩; have hI1 := H0.out.below hb1; have hm1 := hI1.bm.cell; have HI1 := Lib.hid hI1; clear hI1 hb1)) | (refine ⟨(show Fence.wide.fn _ from trivial), ?_⟩))
    exact leaves_boxJ0 (w := w) rfl rfl (HI2.out.set true) (fun W' hb => ⟨by rw [HE.out], hb⟩)
  · have HWE := Lib.hid (want_parts hal ham hl0)
    have b0 : (l == []) = false := by simpa using hl0
    have hll : l.length ≤ 30 := (attrs_yes hl0 hal).2.1
    have hml : m.length ≤ 30 := by
      by_cases hm0 : m = []
      · rw [hm0]; simp
      · exact (attrs_yes hm0 ham).2.1
    have HHAS := Lib.hid (fun q => hasW_any m q (by omega))
    have hp1 : ∀ n (w : World), CallsIn Fence.wide n Tryz.prog 97 #[sv l, .int .i32 44] w _ := fun n w => parts_in n l 44 w
    clear hal ham hl0
    gi_wp2_with (first | (gi_at_call 66; first | (refine (callsIn_wide.2 (HAM.out w1)).mono ?_; rintro e w2 ⟨rfl, hb2⟩; have HI2 := Lib.hid (HI1.out.below hb2); clear hb2 hm1) | (refine (callsIn_wide.2 (HAL.out _)).mono ?_; rintro e w1 ⟨rfl, hb1⟩; have hI1 := H0.out.below hb1; have hm1 := hI1.bm.cell; have HI1 := Lib.hid hI1; clear hI1 hb1)) | (gi_at_call 97; refine (hp1 _ _).mono ?_; rintro e w3 ⟨rfl, rfl⟩) | (refine ⟨(show Fence.wide.fn _ from trivial), ?_⟩))
    have hr0 : RJ w m false ((w2.alloc (.cells #[sv l] 9)).alloc (.cells #[.int .i32 44] 21)) := HI2.out.below (((Below.refl _ w2).alloc (Nat.le_refl _) _).alloc (by simp) _)
    have hkb0 := kb_new w2 l 44
    have hsz0 : ((w2.alloc (.cells #[sv l] 9)).alloc (.cells #[.int .i32 44] 21)).heap.size = w2.heap.size + 2 := by simp
    have hw2 : w.heap.size + 1 < w2.heap.size := HI2.out.bx.lt
    obtain ⟨W0, hW0⟩ : ∃ W0, W0 = ((w2.alloc (.cells #[sv l] 9)).alloc (.cells #[.int .i32 44] 21)) := ⟨_, rfl⟩
    have hkb : KB w2.heap.size l 44 W0 := by rw [hW0]; exact hkb0
    rw [← hW0] at hr0 hsz0 ⊢
    obtain ⟨Bl, hBl⟩ : ∃ Bl, Bl = w2.heap.size := ⟨_, rfl⟩
    rw [← hBl] at hkb hsz0 hw2 ⊢
    clear hW0 hkb0 hp1 hBl
    refine wpIn_rangeFunc_ownG rfl (by decide) (gf := 129) (lb := #[.pointer (some ⟨Bl, 0, none⟩), .pointer (some ⟨Bl + 1, 0, none⟩)]) rfl trivial (enters_of Tryz.func129 (by kernel_rfl) rfl)
      (parts_stops 2 Bl l 44 (by omega) (by decide) W0 (by omega) hkb) (fun h k => KeepsP.trans h k) (fun X l o o' _ hlo hc hw => KeepsP.turn X l o o' hlo hc hw) (Below.refl _ _) (fun _ => rfl)
      (fun pre X => RJ w m false X ∧ pre.all (fun x => (splitL 44 m).contains x.1.1) = true)
      (fun c pre X => c = .ret ∧ RJ w m false X ∧ pre.all (fun x => (splitL 44 m).contains x.1.1) = false)
      ?oi ?ox ⟨hr0, rfl⟩
      (fun x => { tmps := #[sv l, sv m, undef, .pointer (some ⟨w.heap.size, 0, none⟩), .pointer (some ⟨w.heap.size + 1, 0, none⟩), sv x.1.1, sv l, .bool true, .bool false, .bool false, sv m, .bool true, .bool false, .bool false, sv l, .bool false, sv l, .func (.func 129) #[] #[.pointer (some ⟨Bl, 0, none⟩), .pointer (some ⟨Bl + 1, 0, none⟩)], sv x.1.1, .bool x.1.2, undef, undef, undef, undef], defers := [] }) ?assign ?body ?done ?stop
    case oi =>
      rintro pre X Y row ⟨h, h2⟩ hg hr
      exact ⟨h.grown hg (by omega) hr, h2⟩
    case ox =>
      rintro c pre X Y row ⟨rfl, h, h2⟩ hg hr
      exact ⟨rfl, h.grown hg (by omega) hr, h2⟩
    case assign =>
      intro l x X K hK
      gi_wp2
      exact hK
    case stop =>
      rintro D c pre X hD hS ⟨rfl, h, h2⟩ hK
      have e : wantB l m = false := by
        obtain ⟨x, hx, hw⟩ := List.all_eq_false.1 h2
        rw [HWE.out]
        exact List.all_eq_false.2 ⟨x.1.1, part_mem hS hx, hw⟩
      have HE := Lib.hid e
      clear e
      gi_wp2
      exact leaves_boxJ rfl rfl h (by omega) hK (fun W' hb => ⟨by rw [HE.out], hb⟩)
    case done =>
      rintro D xs X hD hS ⟨h, h2⟩ hK
      have e : wantB l m = true := by
        rw [HWE.out, ← parts_all hS, List.all_map]
        exact h2
      have hc := h.bx.cell
      have hf := h.bx.frozen
      have HE := Lib.hid e
      have HR := Lib.hid (h.set true)
      have hK2 : (X.setCell ⟨w.heap.size + 1, 0, none⟩ (.bool true)).heap[D]? = some (.deferred (some [])) := (Below.heap_setCell _ _ _ _ (fun e => by have e2 : D = w.heap.size + 1 := e; omega)).trans hK
      have HK2 := Lib.hid hK2
      clear h h2 hK hS hK2 e
      gi_wp2
      exact leaves_boxJ rfl rfl HR.out (by omega) HK2.out (fun W' hb => ⟨by rw [HE.out], hb⟩)
    case body =>
      rintro lp pre x X ⟨h, h2⟩ hlt
      have hcm := h.bm.cell
      have HI := Lib.hid h
      have hbw := HHAS.out x.1.1 X
      cases hxq : (splitL 44 m).contains x.1.1 with
      | false =>
        rw [hxq] at hbw
        have HW := Lib.hid hbw
        have HP := Lib.hid (show (pre ++ [x]).all (fun x => (splitL 44 m).contains x.1.1) = false by rw [List.all_append]; simp only [List.all_cons, hxq]; simp)
        clear h2 h hbw hxq
        gi_wp2_with (first | (gi_at_call 106; refine (CallsIn.inRound lp (callsIn_wide.2 HW.out)).mono ?_; rintro e w3 ⟨rfl, hb3⟩; have hI3 := HI.out.below hb3; have hc3 := hI3.bx.cell; have hf3 := hI3.bx.frozen; have HI3 := Lib.hid hI3; have HB3 := Lib.hid hb3; clear hI3 hb3) | (refine ⟨fun h => (by simp [Fence.wide] at h), ?_⟩) | (refine ⟨(show Fence.wide.fn _ from trivial), ?_⟩))
        exact ⟨(KeepsFrom.below HB3.out).trans (KeepsFrom.set _ _ (by omega)), rfl, HI3.out.set false, HP.out⟩
      | true =>
        rw [hxq] at hbw
        have HW := Lib.hid hbw
        have HP := Lib.hid (show (pre ++ [x]).all (fun x => (splitL 44 m).contains x.1.1) = true by rw [List.all_append, h2]; simp only [List.all_cons, hxq]; simp)
        clear h2 h hbw hxq
        gi_wp2_with (first | (gi_at_call 106; refine (CallsIn.inRound lp (callsIn_wide.2 HW.out)).mono ?_; rintro e w3 ⟨rfl, hb3⟩; have HI3 := Lib.hid (HI.out.below hb3); have HB3 := Lib.hid hb3; clear hb3) | (refine ⟨fun h => (by simp [Fence.wide] at h), ?_⟩) | (refine ⟨(show Fence.wide.fn _ from trivial), ?_⟩))
        exact ⟨KeepsFrom.below HB3.out, KeepsP.below HB3.out, HI3.out, HP.out⟩
end Go.Proofs.YtodckdkbheapfaaGreat
