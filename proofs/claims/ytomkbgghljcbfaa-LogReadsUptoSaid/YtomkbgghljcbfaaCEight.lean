/-
  The contract of crc.eight: eight steps, for every number of 32 bits.
-/
import Derived.Test.YtomkbgghljcbfaaCStep
namespace Go.Proofs.Ytomkbgghljcbfaa
open Go.RowKit Go.Rst Go.Crc

set_option maxRecDepth 100000 in
set_option maxHeartbeats 400000 in
theorem eight_any (n : Nat) (hn : n < B32) (w : World) : Calls Try.prog 98 #[.int .u32 n] w fun e w' => e = .returned (.int .u32 (ceight n : Nat)) ∧ w = w' := by
  have hlt := fun k => csteps_lt k hn
  have H := Lib.hid hlt
  clear hlt hn
  go_enter Try.func98, Try.ntmps98
  go_wp2
  go_loop [0, 3] (fun x i => ∃ k : Nat, k ≤ 8 ∧ i = .int .i64 k ∧ x = .int .u32 (csteps k n : Nat)) (fun _ i => 8 - (intOf i).toNat)
  case atStart => exact ⟨0, by omega, rfl, rfl⟩
  case round =>
    obtain ⟨k, hk, rfl, rfl⟩ := hrel
    by_cases hlt : k < 8
    · go_wp2_with fail
      refine (step_any _ (H.out k) _).mono ?_
      rintro e w' ⟨rfl, rfl⟩
      go_wp2
      go_round
      case rel => exact ⟨k + 1, by omega, by go_num, by rw [csteps_succ]⟩
      case measure => simp [intOf]; omega
    · go_wp2
      go_ret
      have : k = 8 := by omega
      subst this
      exact ⟨rfl, rfl⟩
end Go.Proofs.Ytomkbgghljcbfaa
