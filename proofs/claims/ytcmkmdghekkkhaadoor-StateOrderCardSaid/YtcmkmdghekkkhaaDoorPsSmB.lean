/-
  The program's same, where one of the later fields differs (layer state).
-/
import Derived.Test.YtcmkmdghekkkhaaDoorPsEq
set_option linter.unusedVariables false
namespace Go.Proofs.YtcmkmdghekkkhaaDoor
open Go.RowKit Go.Rst Go.Tp Go.Ts
set_option maxRecDepth 100000 in
set_option maxHeartbeats 8000000 in
theorem sameP_b {id lease most floor lease2 most2 floor2 : Int} {name topic want note note2 : List UInt8} {acks acks2 : List Int} {queue queue2 : List Msg} (A1 A2 Q1 Q2 : Option Addr) (k1 k2 j1 j2 : Nat) (w : World)
    (hno : ¬ (lease = lease2 ∧ most = most2 ∧ floor = floor2 ∧ note = note2)) :
    Calls Tryd.prog 45 #[.agg #[.int .i64 id, sv name, sv topic, sv want, .int .i64 lease, .int .i64 most, .int .i64 floor, .slice A1 acks.length k1, .slice Q1 queue.length j1, sv note], .agg #[.int .i64 id, sv name, sv topic, sv want, .int .i64 lease2, .int .i64 most2, .int .i64 floor2, .slice A2 acks2.length k2, .slice Q2 queue2.length j2, sv note2]] w fun e w' => e = .returned (.bool false) ∧ Below w.heap.size w w' := by
  have HBT := Lib.hid (below_two w #[.int .i64 id, sv name, sv topic, sv want, .int .i64 lease, .int .i64 most, .int .i64 floor, .slice A1 acks.length k1, .slice Q1 queue.length j1, sv note] #[.int .i64 id, sv name, sv topic, sv want, .int .i64 lease2, .int .i64 most2, .int .i64 floor2, .slice A2 acks2.length k2, .slice Q2 queue2.length j2, sv note2] 35 35)
  by_cases hne : lease = lease2
  case neg =>
    go_enter Tryd.func45, Tryd.ntmps45
    go_wp2
    go_ret
    exact ⟨rfl, HBT.out⟩
  subst hne
  by_cases hne : most = most2
  case neg =>
    go_enter Tryd.func45, Tryd.ntmps45
    go_wp2
    go_ret
    exact ⟨rfl, HBT.out⟩
  subst hne
  by_cases hne : floor = floor2
  case neg =>
    go_enter Tryd.func45, Tryd.ntmps45
    go_wp2
    go_ret
    exact ⟨rfl, HBT.out⟩
  subst hne
  by_cases hne : note = note2
  case neg =>
    go_enter Tryd.func45, Tryd.ntmps45
    go_wp2
    go_ret
    exact ⟨rfl, HBT.out⟩
  subst hne
  exact absurd ⟨rfl, rfl, rfl, rfl⟩ hno
end Go.Proofs.YtcmkmdghekkkhaaDoor
