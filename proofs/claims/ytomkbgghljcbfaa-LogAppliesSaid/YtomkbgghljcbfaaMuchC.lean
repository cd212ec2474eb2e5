/-
  The contract of the statements' own much, at changes: it tells whether the sum that the machine reckons is above fifteen hundred.
-/
import Derived.Test.YtomkbgghljcbfaaGNum
import Derived.Test.YtomkbgghljcbfaaChgM
import Derived.BigQuiet
import Derived.Deep.QuietTactic
namespace Go.Proofs.Ytomkbgghljcbfaa
open Go.RowKit Go.Rst
def muchC (rs : List Chg) : Bool := decide (1500 < IntKind.i64.wrap ((totC rs : Nat) : Int))
theorem muchC_few {rs : List Chg} (h : totC rs ≤ 4000000) (hm : muchC rs = false) : totC rs ≤ 1500 := by
  unfold muchC at hm
  have h1 := of_decide_eq_false hm
  rw [IntKind.wrap_i64] at h1
  omega

set_option maxRecDepth 100000 in
set_option maxHeartbeats 1000000 in
theorem much_any (v : Value) (rs : List Chg) (w : World) (hv : RC w v rs) :
    Calls Try.prog 10 #[v] w fun e w' => e = .returned (.bool (muchC rs)) ∧ ∃ m, w' = w.drewN m := by
  have HA := Lib.hid hv
  obtain ⟨A1, c1, rfl, hl1, hc1, _⟩ := hv
  unfold maxLen at hc1
  have hm : muchC rs = decide (1500 < IntKind.i64.wrap ((rs.length + sizesC rs : Nat) : Int)) := rfl
  have HM := Lib.hid hm
  have h0 : IntKind.i64.wrap ((rs.length + sizesC (rs.take 0) : Nat) : Int) = rs.length := by
    have : sizesC (rs.take 0) = 0 := rfl
    rw [this, IntKind.wrap_i64]
    omega
  have HN0 := Lib.hid h0
  clear hm h0
  go_enter Try.func10, Try.ntmps10
  go_wp2
  go_loopw [3, 4] (fun n i wr => ∃ k : Nat, k ≤ rs.length ∧ i = .int .i64 k ∧ (∃ N, N = IntKind.i64.wrap ((rs.length + sizesC (rs.take k) : Nat) : Int) ∧ n = .int .i64 N) ∧ ∃ m, wr = w.drewN m) (fun _ i _ => rs.length - (intOf i).toNat)
  case atStart => exact ⟨0, Nat.zero_le _, rfl, ⟨_, HN0.out.symm, rfl⟩, 0, rfl⟩
  case round =>
    obtain ⟨k, hk, rfl, ⟨N, hN, rfl⟩, m, rfl⟩ := hrel
    by_cases hlt : k < rs.length
    · obtain ⟨b1, o1, u1, rfl, hx1, hy1, hr1, _⟩ := rc_at HA.out hlt
      have hs := sizesC_take hlt
      obtain ⟨A2, c2, rfl, _⟩ := hr1
      generalize rs[k] = r at *

      generalize sizesC (rs.take k) = S at *
      have b1 : (0 : Int) ≤ (k : Int) := by omega
      have b2 : (k : Int) < (rs.length : Int) := by omega
      obtain ⟨Y, w1⟩ : ∃ Y, IntKind.i64.wrap ((r.1.size : Int) + (r.2.1.length : Int)) = Y := ⟨_, rfl⟩
      obtain ⟨Z, w2⟩ : ∃ Z, IntKind.i64.wrap (N + Y) = Z := ⟨_, rfl⟩
      have hZ : Z = IntKind.i64.wrap ((rs.length + (S + (r.1.size + r.2.1.length)) : Nat) : Int) := by
        rw [IntKind.wrap_i64] at w1 w2 hN ⊢
        omega
      have HZ := Lib.hid hZ
      have HS := Lib.hid hs
      clear hZ hs hN
      go_wp2
      go_quiet (fail)
      clear w1 w2
      go_wp2
      go_roundw
      case rel => exact ⟨k + 1, by omega, by go_num, ⟨Z, by rw [HS.out]; exact HZ.out, rfl⟩, _, rfl⟩
      case measure => simp [intOf]; omega
    · have e : k = rs.length := by omega
      rw [e, List.take_length] at hN
      clear e
      have HN := Lib.hid hN
      clear hN
      go_wp2
      go_ret
      rw [HM.out, ← HN.out]
      exact ⟨rfl, m, rfl⟩
end Go.Proofs.Ytomkbgghljcbfaa
