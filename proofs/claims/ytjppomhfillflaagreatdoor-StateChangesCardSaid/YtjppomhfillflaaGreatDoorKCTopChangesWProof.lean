/-
  Find, Put, Without and Settle in any state, and in such of choices, are what the chapter says, and so is Same of any two: StateChanges answers true and leaves its arguments as they are, for all states, all subscriptions, all numbers, all choices, and what the library's variables that it reads were laid with. No condition.
-/
import Derived.Test.YtjppomhfillflaaGreatDoorCards
import Derived.Test.YtjppomhfillflaaGreatDoorTie
import Derived.WalkKit
import Derived.ProofKit
import Derived.OpenShut
import Derived.ShutString
import Derived.ChangeOld
import Derived.Below
import Derived.SizedLaws
import Derived.SevenTiedAt
import Derived.Test.YtjppomhfillflaaGreatDoorKCF
import Derived.Test.YtjppomhfillflaaGreatDoorKCBD
import Derived.Test.YtjppomhfillflaaGreatDoorKCDA
set_option linter.unusedVariables false
namespace Go.Proofs.YtjppomhfillflaaGreatDoor.stateChanges
open Go.Rst Go.Ts
open Go.ChangeShapes Go.WideShapes Go.ChangeAt Go.RowKit
open Go.ChangeMaps (open_string shut_string)
set_option linter.unusedVariables false
theorem own : ownKnob Tryz.prog.godebug = none := by kernel_rfl
theorem laidOut : laidOutB Tryz.prog = true := by kernel_rfl
set_option maxRecDepth 100000 in
theorem lifted (os : Os) (started : os.Started) (H : Type) (enc : TypeId × Value → H) :
    ReturnsInHanded {} Tryz.checked os 3 .any (fun w args => (Rows.stateChangesSpec.pre enc Tryz.prog Tryz.f3 [] false w args ∧ laidMetH Tryz.prog laid5 w) ∧ sizedMet enc Tryz.prog Tryz.f3 (OpenSpec.ofChange Rows.stateChangesSpec) false w args)
      (Rows.stateChangesSpec.post enc Tryz.prog Tryz.f3 false true false false) := by
  refine returnsInHanded_of_change_and (C := Tryz.checked) (X := fun w _ => laidMetH Tryz.prog laid5 w) (fun _ _ _ hh h => h.of_heap hh) own started (by kernel_rfl) Tryz.func3
    (ChangeSpec.witness_shaped (enc := enc) (C := Tryz.checked) (os := os) (X := fun w _ => laidMetH Tryz.prog laid5 w) false (World.doorLaid Tryz.prog 62 os) #[.agg #[.int .i64 0, .int .i64 0, .int .i64 0, .slice none 0 0], .agg #[.int .i64 0, .int .i64 0, .int .i64 0, .slice none 0 0], .agg #[.int .i64 0, .string .empty, .string .empty, .string .empty, .int .i64 0, .int .i64 0, .int .i64 0, .slice none 0 0, .slice none 0 0, .string .empty], .int .i64 0, .int .i64 0, .slice none 0 0, .slice none 0 0, .int .u8 0] 8 rfl (World.shaped_of_RefB (by kernel_rfl) (by kernel_rfl)) (by kernel_rfl) (by kernel_rfl) (by kernel_rfl) (door_met os _)) ?_
  intro W base args ds gs before hval0 hW _ hsz0 hL _
  have hval : ∀ (j : Nat) t v, Tryz.f3.params[j]? = some t → args[j]? = some v → Value.okWide Tryz.prog W .any base t v := hval0
  have hsz : (DataW.weightsEach Tryz.prog (Tryz.f3.params.toList ++ Rows.stateChangesSpec.plain.varTypes Tryz.prog) (ds ++ gs)).all (· ≤ reachBytes) = true := hsz0
  clear hsz0
  have hW' := hW
  obtain ⟨p, q, hA0, hV, rfl, hfz, hnd⟩ := hW
  have hA : DataW.TrodAll enc Tryz.prog W 0 (fun _ => true) true Tryz.f3.params.toList args.toList ds p := hA0
  rw [Tryz.params3] at hA hval hsz
  obtain ⟨v0, vs0, d0, ds0, p0, q0, hargs, rfl, rfl, h0, r0⟩ := trodAll_cons hA
  obtain ⟨v1, vs1, d1, ds1, p1, q1, rfl, rfl, rfl, h1, r1⟩ := trodAll_cons r0
  obtain ⟨v2, vs2, d2, ds2, p2, q2, rfl, rfl, rfl, h2, r2⟩ := trodAll_cons r1
  obtain ⟨v3, vs3, d3, ds3, p3, q3, rfl, rfl, rfl, h3, r3⟩ := trodAll_cons r2
  obtain ⟨v4, vs4, d4, ds4, p4, q4, rfl, rfl, rfl, h4, r4⟩ := trodAll_cons r3
  obtain ⟨v5, vs5, d5, ds5, p5, q5, rfl, rfl, rfl, h5, r5⟩ := trodAll_cons r4
  obtain ⟨v6, vs6, d6, ds6, p6, q6, rfl, rfl, rfl, h6, r6⟩ := trodAll_cons r5
  obtain ⟨v7, vs7, d7, ds7, p7, q7, rfl, rfl, rfl, h7, r7⟩ := trodAll_cons r6
  obtain ⟨rfl, rfl, rfl⟩ := trodAll_nil r7
  obtain rfl : args = #[v0, v1, v2, v3, v4, v5, v6, v7] := by cases args; simp_all
  obtain ⟨rfl, rfl⟩ := trodVars_none hV
  have hwt : ∀ (j : Nat) (t : TypeId) (d : DataW H), [24, 24, 28, 3, 3, 29, 29, 5][j]? = some t → [d0, d1, d2, d3, d4, d5, d6, d7][j]? = some d → ∀ n ∈ d.weights Tryz.prog t, n ≤ reachBytes := by
    intro j t d ht hd n hn
    have h1 := List.all_eq_true.1 hsz _ (DataW.weights_mem_each (j := j) (t := t) (d := d) (by exact ht) (by exact hd) n hn)
    simpa using h1
  have k0 := h0
  have lt0 : ∀ x ∈ p0, x.block < W.heap.size := by obtain ⟨m, hm⟩ := k0; exact DataW.trod_lt m _ _ _ hm
  obtain ⟨cs0, rfl, hsz0⟩ := okWide_struct Tryz.underlying24 (hval 0 24 v0 rfl rfl)
  obtain ⟨st0, sv0, e0, x0, y0, z0⟩ : ∃ (s : St) (sv : Value), cs0.toList = stC s.clock s.next s.last sv ∧ RS W sv s.subs ∧ (∀ y ∈ s.subs, Sized y) ∧ s.subs.length ≤ 977343669105 := by
    have hc0 : Tryz.prog.cellsOf 24 = 4 := by kernel_rfl
    obtain ⟨fuel, hf⟩ := h0
    exact First.open_state (x := (d0, p0)) (by rw [Array.length_toList, hsz0, hc0]) hf (hwt 0 24 d0 rfl rfl)
  obtain rfl : cs0 = (stC st0.clock st0.next st0.last sv0).toArray := by rw [← e0, Array.toArray_toList]
  have k1 := h1
  have lt1 : ∀ x ∈ p1, x.block < W.heap.size := by obtain ⟨m, hm⟩ := k1; exact DataW.trod_lt m _ _ _ hm
  obtain ⟨cs1, rfl, hsz1⟩ := okWide_struct Tryz.underlying24 (hval 1 24 v1 rfl rfl)
  obtain ⟨st1, sv1, e1, x1, y1, z1⟩ : ∃ (s : St) (sv : Value), cs1.toList = stC s.clock s.next s.last sv ∧ RS W sv s.subs ∧ (∀ y ∈ s.subs, Sized y) ∧ s.subs.length ≤ 977343669105 := by
    have hc1 : Tryz.prog.cellsOf 24 = 4 := by kernel_rfl
    obtain ⟨fuel, hf⟩ := h1
    exact First.open_state (x := (d1, p1)) (by rw [Array.length_toList, hsz1, hc1]) hf (hwt 1 24 d1 rfl rfl)
  obtain rfl : cs1 = (stC st1.clock st1.next st1.last sv1).toArray := by rw [← e1, Array.toArray_toList]
  have k2 := h2
  have lt2 : ∀ x ∈ p2, x.block < W.heap.size := by obtain ⟨m, hm⟩ := k2; exact DataW.trod_lt m _ _ _ hm
  obtain ⟨cs2, rfl, hsz2⟩ := okWide_struct Tryz.underlying28 (hval 2 28 v2 rfl rfl)
  obtain ⟨sb2, ⟨av2, qv2, e2, xa2, xq2⟩, y2⟩ : ∃ y : Sub, CS W y cs2.toList ∧ Sized y := by
    have hc2 : Tryz.prog.cellsOf 28 = 10 := by kernel_rfl
    obtain ⟨fuel, hf⟩ := h2
    exact First.open_sub (x := (d2, p2)) (by rw [Array.length_toList, hsz2, hc2]) hf (hwt 2 28 d2 rfl rfl)
  obtain rfl : cs2 = (subC sb2 av2 qv2).toArray := by rw [← e2, Array.toArray_toList]
  obtain ⟨a3, rfl, rfl, rfl, w3⟩ := open_int Tryz.underlying3 (hval 3 3 v3 rfl rfl) h3
  have hb3 := w3
  simp only [Lit.wf, Bool.and_eq_true, decide_eq_true_eq] at hb3
  have mn3 : IntKind.i64.min = -9223372036854775808 := rfl
  have mx3 : IntKind.i64.max = 9223372036854775807 := rfl
  obtain ⟨a4, rfl, rfl, rfl, w4⟩ := open_int Tryz.underlying3 (hval 4 3 v4 rfl rfl) h4
  have hb4 := w4
  simp only [Lit.wf, Bool.and_eq_true, decide_eq_true_eq] at hb4
  have mn4 : IntKind.i64.min = -9223372036854775808 := rfl
  have mx4 : IntKind.i64.max = 9223372036854775807 := rfl
  have k5 := h5
  have lt5 : ∀ x ∈ p5, x.block < W.heap.size := by obtain ⟨m, hm⟩ := k5; exact DataW.trod_lt m _ _ _ hm
  obtain ⟨A5, len5, cap5, rfl⟩ := okWide_slice Tryz.underlying29 (hval 5 29 v5 rfl rfl)
  obtain ⟨l5, x5, y5⟩ : ∃ l : List UInt8, RB W (.slice A5 len5 cap5) l ∧ l.length ≤ 140737488351232 := by
    obtain ⟨fuel, hf⟩ := h5
    exact open_bytes (x := (d5, p5)) hf (hwt 5 29 d5 rfl rfl)
  have k6 := h6
  have lt6 : ∀ x ∈ p6, x.block < W.heap.size := by obtain ⟨m, hm⟩ := k6; exact DataW.trod_lt m _ _ _ hm
  obtain ⟨A6, len6, cap6, rfl⟩ := okWide_slice Tryz.underlying29 (hval 6 29 v6 rfl rfl)
  obtain ⟨l6, x6, y6⟩ : ∃ l : List UInt8, RB W (.slice A6 len6 cap6) l ∧ l.length ≤ 140737488351232 := by
    obtain ⟨fuel, hf⟩ := h6
    exact open_bytes (x := (d6, p6)) hf (hwt 6 29 d6 rfl rfl)
  obtain ⟨a7, rfl, rfl, rfl, w7⟩ := open_int Tryz.underlying5 (hval 7 5 v7 rfl rfl) h7
  have hb7 := w7
  simp only [Lit.wf, Bool.and_eq_true, decide_eq_true_eq] at hb7
  have mn7 : IntKind.u8.min = 0 := rfl
  have mx7 : IntKind.u8.max = 255 := rfl
  obtain ⟨n7, rfl⟩ := Int.eq_ofNat_of_zero_le (show 0 ≤ a7 by omega)
  clear hA0 hval0
  have hwk := changes_walk st0.clock st0.next st0.last st1.clock st1.next st1.last a3 a4 sv0 sv1 av2 qv2 _ _ st0.subs st1.subs sb2 l5 l6 n7 W x0 y0 (by omega) x1 xa2 xq2 y2 x5 y5 x6 y6 (by omega) (of_laid hL)
  refine hwk.mono fun e W' ⟨he, bel⟩ => ?_
  subst he
  exact ⟨_, rfl, _, _, _, [], _, [], hW', trodAll_mk1 (shut_bool Tryz.underlying4 _), (trodAll_cons_mk (Below.trod laidOut (by kernel_rfl) (of_decide_eq_true (by kernel_rfl)) k0 bel lt0) (trodAll_cons_mk (Below.trod laidOut (by kernel_rfl) (of_decide_eq_true (by kernel_rfl)) k1 bel lt1) (trodAll_cons_mk (Below.trod laidOut (by kernel_rfl) (of_decide_eq_true (by kernel_rfl)) k2 bel lt2) (trodAll_cons_mk (shut_int Tryz.underlying3 w3) (trodAll_cons_mk (shut_int Tryz.underlying3 w4) (trodAll_cons_mk (Below.trod laidOut (by kernel_rfl) (of_decide_eq_true (by kernel_rfl)) k5 bel lt5) (trodAll_cons_mk (Below.trod laidOut (by kernel_rfl) (of_decide_eq_true (by kernel_rfl)) k6 bel lt6) (trodAll_cons_mk (shut_int Tryz.underlying5 w7) trodAll_mk0)))))))), rfl, bel.frame _, fun h => by cases h⟩
theorem over : Rows.stateChangesRow.holds Tryz.pinned (OpenSpec.ofChange Rows.stateChangesSpec) :=
  OpenClaim.holds_of_wide 3 Tryz.f3 rfl rfl rfl rfl rfl rfl rfl ⟨rfl, rfl, rfl, rfl, rfl⟩ rfl rfl rfl rfl rfl (by kernel_rfl) Tryz.func3 (by kernel_rfl)
    (of_decide_eq_true (by kernel_rfl)) (by unfold Func.isWrapper; first | (rw [if_pos (by decide +kernel)]; kernel_rfl) | (rw [if_neg (by decide +kernel)]; exact ⟨rfl, rfl⟩))
    (fun os started H enc _ => lifted os started H enc)
theorem proved : Rows.StateChangesCardSaid :=
  Claim7.holds_tied_plain_at .later [] [.data, .data, .data, .sentinel, .sentinel] true (true, "3058f7ef65c27eaa95a3fb853ded6243de2c2710393b2ee1b002e4baaf733059") true
    over (fun _ h => by cases h) (by kernel_rfl) (fun _ h => by cases h) stateChanges_row_tie rfl ⟨rfl, rfl⟩ (by kernel_rfl) rfl
    (fun f fn hf hfn => by
      obtain rfl : f = 3 := Option.some.inj ((show Tryz.prog.funcNamed "roadstead/roadsteadlaw10.StateChanges" = some 3 by kernel_rfl).symm.trans hf) |>.symm
      obtain rfl : fn = Tryz.f3 := (Option.some.inj (Tryz.func3.symm.trans hfn)).symm
      exact ⟨by kernel_rfl, fun j t ht => by
        rw [Tryz.params3] at ht
        have hm : t ∈ [24, 24, 28, 3, 3, 29, 29, 5] := by simpa using Array.mem_of_getElem? ht
        have hall : ([24, 24, 28, 3, 3, 29, 29, 5].all fun u => !Tryz.prog.wantsStandIn u) = true := by kernel_rfl
        exact (show Tryz.prog.wantsStandIn t = false by simpa using List.all_eq_true.1 hall t hm)⟩)
    (by kernel_rfl)
#print axioms proved
end Go.Proofs.YtjppomhfillflaaGreatDoor.stateChanges
