/-
  StateKeyed: for every input the law returns true (keys rise as what they are of does, and tell their parts); its row lists the library's tables and errors as their own initialisers lay them, tied to the program's text (a pruned copy of the repository: the card says nothing of packages that were left out).
-/
import Derived.Test.YtcmkmdghekkkhaaDoorCards
import Derived.Test.YtcmkmdghekkkhaaDoorTie
import Derived.Test.YtcmkmdghekkkhaaDoorTkLaid
import Derived.Test.YtcmkmdghekkkhaaDoorKeyedW
import Derived.WalkKit
import Derived.ProofKit
import Derived.OpenShut
import Derived.ShutString
import Derived.ChangeOld
import Derived.Below
import Derived.SizedLaws
import Derived.SevenTiedAt
namespace Go.Proofs.YtcmkmdghekkkhaaDoor.stateKeyed
open Go.Rst Go.Ts
open Go.ChangeShapes Go.WideShapes Go.ChangeAt Go.RowKit
open Go.ChangeMaps (open_string shut_string)
set_option linter.unusedVariables false

theorem own : ownKnob Tryd.prog.godebug = none := by kernel_rfl
theorem laidOut : laidOutB Tryd.prog = true := by kernel_rfl

set_option maxRecDepth 100000 in
theorem lifted (os : Os) (started : os.Started) (H : Type) (enc : TypeId × Value → H) :
    ReturnsInHanded {} Tryd.checked os 7 .any (fun w args => (Rows.stateKeyedSpec.pre enc Tryd.prog Tryd.f7 [] false w args ∧ laidMetH Tryd.prog laid5 w) ∧ sizedMet enc Tryd.prog Tryd.f7 (OpenSpec.ofChange Rows.stateKeyedSpec) false w args)
      (Rows.stateKeyedSpec.post enc Tryd.prog Tryd.f7 false true false false) := by
  refine returnsInHanded_of_change_and (C := Tryd.checked) (X := fun w _ => laidMetH Tryd.prog laid5 w) (fun _ _ _ hh h => h.of_heap hh) own started (by kernel_rfl) Tryd.func7
    (ChangeSpec.witness_shaped (enc := enc) (C := Tryd.checked) (os := os) (X := fun w _ => laidMetH Tryd.prog laid5 w) false (World.doorLaid Tryd.prog 62 os) #[.int .u8 0, .int .u8 0, .int .u8 0, .int .u8 0, .int .u32 0, .int .u32 0, .int .u32 0, .int .u32 0] 8 rfl (World.shaped_of_RefB (by kernel_rfl) (by kernel_rfl)) (by kernel_rfl) (by kernel_rfl) (by kernel_rfl) (door_met os _)) ?_
  intro W base args ds gs before hval0 hW _ hsz0 hL _
  have hval : ∀ (j : Nat) t v, Tryd.f7.params[j]? = some t → args[j]? = some v → Value.okWide Tryd.prog W .any base t v := hval0
  have hsz : (DataW.weightsEach Tryd.prog (Tryd.f7.params.toList ++ Rows.stateKeyedSpec.plain.varTypes Tryd.prog) (ds ++ gs)).all (· ≤ reachBytes) = true := hsz0
  clear hsz0
  have hW' := hW
  obtain ⟨p, q, hA0, hV, rfl, hfz, hnd⟩ := hW
  have hA : DataW.TrodAll enc Tryd.prog W 0 (fun _ => true) true Tryd.f7.params.toList args.toList ds p := hA0
  rw [Tryd.params7] at hA hval hsz
  obtain ⟨v0, vs0, d0, ds0, p0, q0, hargs, rfl, rfl, h0, r0⟩ := trodAll_cons hA
  obtain ⟨v1, vs1, d1, ds1, p1, q1, rfl, rfl, rfl, h1, r1⟩ := trodAll_cons r0
  obtain ⟨v2, vs2, d2, ds2, p2, q2, rfl, rfl, rfl, h2, r2⟩ := trodAll_cons r1
  obtain ⟨v3, vs3, d3, ds3, p3, q3, rfl, rfl, rfl, h3, r3⟩ := trodAll_cons r2
  obtain ⟨v4, vs4, d4, ds4, p4, q4, rfl, rfl, rfl, h4, r4⟩ := trodAll_cons r3
  obtain ⟨v5, vs5, d5, ds5, p5, q5, rfl, rfl, rfl, h5, r5⟩ := trodAll_cons r4
  obtain ⟨v6, vs6, d6, ds6, p6, q6, rfl, rfl, rfl, h6, r6⟩ := trodAll_cons r5
  obtain ⟨v7, vs7, d7, ds7, p7, q7, rfl, rfl, rfl, h7, r7⟩ := trodAll_cons r6
  obtain ⟨rfl, rfl, rfl⟩ := trodAll_nil r7
  obtain rfl : args = #[v0, v1, v2, v3, v4, v5, v6, v7] := by cases args; simp_all
  obtain ⟨rfl, rfl⟩ := trodVars_none hV
  obtain ⟨a0, rfl, rfl, rfl, w0⟩ := open_int Tryd.underlying5 (hval 0 5 v0 rfl rfl) h0
  have hb0 := w0
  simp only [Lit.wf, Bool.and_eq_true, decide_eq_true_eq] at hb0
  have mn0 : IntKind.u8.min = 0 := rfl
  have mx0 : IntKind.u8.max = 255 := rfl
  obtain ⟨n0, rfl⟩ := Int.eq_ofNat_of_zero_le (show 0 ≤ a0 by omega)
  obtain ⟨a1, rfl, rfl, rfl, w1⟩ := open_int Tryd.underlying5 (hval 1 5 v1 rfl rfl) h1
  have hb1 := w1
  simp only [Lit.wf, Bool.and_eq_true, decide_eq_true_eq] at hb1
  have mn1 : IntKind.u8.min = 0 := rfl
  have mx1 : IntKind.u8.max = 255 := rfl
  obtain ⟨n1, rfl⟩ := Int.eq_ofNat_of_zero_le (show 0 ≤ a1 by omega)
  obtain ⟨a2, rfl, rfl, rfl, w2⟩ := open_int Tryd.underlying5 (hval 2 5 v2 rfl rfl) h2
  have hb2 := w2
  simp only [Lit.wf, Bool.and_eq_true, decide_eq_true_eq] at hb2
  have mn2 : IntKind.u8.min = 0 := rfl
  have mx2 : IntKind.u8.max = 255 := rfl
  obtain ⟨n2, rfl⟩ := Int.eq_ofNat_of_zero_le (show 0 ≤ a2 by omega)
  obtain ⟨a3, rfl, rfl, rfl, w3⟩ := open_int Tryd.underlying5 (hval 3 5 v3 rfl rfl) h3
  have hb3 := w3
  simp only [Lit.wf, Bool.and_eq_true, decide_eq_true_eq] at hb3
  have mn3 : IntKind.u8.min = 0 := rfl
  have mx3 : IntKind.u8.max = 255 := rfl
  obtain ⟨n3, rfl⟩ := Int.eq_ofNat_of_zero_le (show 0 ≤ a3 by omega)
  obtain ⟨a4, rfl, rfl, rfl, w4⟩ := open_int Tryd.underlying49 (hval 4 49 v4 rfl rfl) h4
  have hb4 := w4
  simp only [Lit.wf, Bool.and_eq_true, decide_eq_true_eq] at hb4
  have mn4 : IntKind.u32.min = 0 := rfl
  have mx4 : IntKind.u32.max = 4294967295 := rfl
  obtain ⟨n4, rfl⟩ := Int.eq_ofNat_of_zero_le (show 0 ≤ a4 by omega)
  obtain ⟨a5, rfl, rfl, rfl, w5⟩ := open_int Tryd.underlying49 (hval 5 49 v5 rfl rfl) h5
  have hb5 := w5
  simp only [Lit.wf, Bool.and_eq_true, decide_eq_true_eq] at hb5
  have mn5 : IntKind.u32.min = 0 := rfl
  have mx5 : IntKind.u32.max = 4294967295 := rfl
  obtain ⟨n5, rfl⟩ := Int.eq_ofNat_of_zero_le (show 0 ≤ a5 by omega)
  obtain ⟨a6, rfl, rfl, rfl, w6⟩ := open_int Tryd.underlying49 (hval 6 49 v6 rfl rfl) h6
  have hb6 := w6
  simp only [Lit.wf, Bool.and_eq_true, decide_eq_true_eq] at hb6
  have mn6 : IntKind.u32.min = 0 := rfl
  have mx6 : IntKind.u32.max = 4294967295 := rfl
  obtain ⟨n6, rfl⟩ := Int.eq_ofNat_of_zero_le (show 0 ≤ a6 by omega)
  obtain ⟨a7, rfl, rfl, rfl, w7⟩ := open_int Tryd.underlying49 (hval 7 49 v7 rfl rfl) h7
  have hb7 := w7
  simp only [Lit.wf, Bool.and_eq_true, decide_eq_true_eq] at hb7
  have mn7 : IntKind.u32.min = 0 := rfl
  have mx7 : IntKind.u32.max = 4294967295 := rfl
  obtain ⟨n7, rfl⟩ := Int.eq_ofNat_of_zero_le (show 0 ≤ a7 by omega)
  clear hA0 hval0
  have hwk := keyed_case n0 n1 n2 n3 n4 n5 n6 n7 W (by omega) (by omega) (by omega) (by omega) (by omega) (by omega) (by omega) (by omega) (of_laid hL)
  refine hwk.mono fun e W' ⟨he, bel⟩ => ?_
  subst he
  exact ⟨_, rfl, _, _, _, [], _, [], hW', trodAll_mk1 (shut_bool Tryd.underlying4 _), (trodAll_cons_mk (shut_int Tryd.underlying5 w0) (trodAll_cons_mk (shut_int Tryd.underlying5 w1) (trodAll_cons_mk (shut_int Tryd.underlying5 w2) (trodAll_cons_mk (shut_int Tryd.underlying5 w3) (trodAll_cons_mk (shut_int Tryd.underlying49 w4) (trodAll_cons_mk (shut_int Tryd.underlying49 w5) (trodAll_cons_mk (shut_int Tryd.underlying49 w6) (trodAll_cons_mk (shut_int Tryd.underlying49 w7) trodAll_mk0)))))))), rfl, bel.frame _, fun h => by cases h⟩

theorem over : Rows.stateKeyedRow.holds Tryd.pinned (OpenSpec.ofChange Rows.stateKeyedSpec) :=
  OpenClaim.holds_of_wide 7 Tryd.f7 rfl rfl rfl rfl rfl rfl rfl ⟨rfl, rfl, rfl, rfl, rfl⟩ rfl rfl rfl rfl rfl (by kernel_rfl) Tryd.func7 (by kernel_rfl)
    (of_decide_eq_true (by kernel_rfl)) (by unfold Func.isWrapper; first | (rw [if_pos (by decide +kernel)]; kernel_rfl) | (rw [if_neg (by decide +kernel)]; exact ⟨rfl, rfl⟩))
    (fun os started H enc _ => lifted os started H enc)

theorem proved : Rows.StateKeyedCardSaid :=
  Claim7.holds_tied_plain_at .later [] [.data, .data, .data, .sentinel, .sentinel] true (true, "5322003bbfb2c01f6f9ab104e218df61e32721b589fc47e52027538e6cca1423") true
    over (fun _ h => by cases h) (by kernel_rfl) (fun _ h => by cases h) stateKeyed_row_tie rfl ⟨rfl, rfl⟩ (by kernel_rfl) rfl
    (fun f fn hf hfn => by
      obtain rfl : f = 7 := Option.some.inj ((show Tryd.prog.funcNamed "roadstead/roadsteadlaw10.StateKeyed" = some 7 by kernel_rfl).symm.trans hf) |>.symm
      obtain rfl : fn = Tryd.f7 := (Option.some.inj (Tryd.func7.symm.trans hfn)).symm
      exact ⟨by kernel_rfl, fun j t ht => by
        rw [Tryd.params7] at ht
        have hm : t ∈ [5, 5, 5, 5, 49, 49, 49, 49] := by simpa using Array.mem_of_getElem? ht
        have hall : ([5, 5, 5, 5, 49, 49, 49, 49].all fun u => !Tryd.prog.wantsStandIn u) = true := by kernel_rfl
        exact (show Tryd.prog.wantsStandIn t = false by simpa using List.all_eq_true.1 hall t hm)⟩)
    (by kernel_rfl)
#print axioms proved
end Go.Proofs.YtcmkmdghekkkhaaDoor.stateKeyed
