/-
  The contracts of crc.step and crc.eight: they are a step and eight steps, for every number of 32 bits.
-/
import Derived.Test.YtomkbgghljcbfaaGTail
import Derived.Test.YtomkbgghljcbfaaGPure
import Derived.Test.YtomkbgghljcbfaaProg
namespace Go.Proofs.Ytomkbgghljcbfaa
open Go.RowKit Go.Rst Go.Crc

set_option maxRecDepth 100000 in
set_option maxHeartbeats 400000 in
theorem step_any (n : Nat) (hn : n < B32) (w : World) : Calls Try.prog 99 #[.int .u32 n] w fun e w' => e = .returned (.int .u32 (cstep n : Nat)) ∧ w = w' := by
  have h2 : n / 2 < B32 := Nat.lt_of_le_of_lt (Nat.div_le_self _ _) hn
  have hx := xor32_poly h2
  have H := Lib.hid hx
  clear hx
  have hb : n ≤ 4294967295 := by unfold B32 at hn; omega
  by_cases h : n % 2 = 1
  · have e : cstep n = n / 2 ^^^ poly := by unfold cstep; rw [if_pos h]
    have E := Lib.hid e
    clear e
    have hq : ((n : Int) % 2 == 1) = true := by rw [beq_iff_eq]; omega
    have h' : 1 ≤ n % 2 := by omega
    clear h h2 hn
    go_enter Try.func99, Try.ntmps99
    go_wp2
    go_ret
    rw [E.out, ← H.out]
    exact ⟨rfl, rfl⟩
  · have e : cstep n = n / 2 := by unfold cstep; rw [if_neg h]
    have E := Lib.hid e
    clear e
    have hq : ((n : Int) % 2 == 1) = false := by rw [beq_eq_false_iff_ne]; omega
    clear h h2 hn
    go_enter Try.func99, Try.ntmps99
    go_wp2
    go_ret
    rw [E.out]
    exact ⟨rfl, rfl⟩
end Go.Proofs.Ytomkbgghljcbfaa
