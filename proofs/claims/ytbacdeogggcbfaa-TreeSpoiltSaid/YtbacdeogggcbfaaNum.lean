/-
  The contract of code.Num: it makes the bytes of the clipped number, for every number.
-/
import Derived.Test.YtbacdeogggcbfaaGWords
import Derived.Test.YtbacdeogggcbfaaProg
namespace Go.Proofs.Ytbacdeogggcbfaa
open Go.RowKit Go.Rst
set_option maxRecDepth 100000 in
set_option maxHeartbeats 400000 in
theorem num_any (n : Int) (w : World) : Calls Try.prog 26 #[.int .i64 n] w (NewB 5 w (numL (clip n))) := by
  have hcl := clip_le n
  have h8 := numL_len8 hcl
  rcases (show n < 0 ∨ (0 ≤ n ∧ n ≤ 9007199254740992) ∨ 9007199254740992 < n from by omega) with h | ⟨h, h'⟩ | h
  all_goals
    have hc : (clip n : Int) = max 0 (min n 9007199254740992) := by unfold clip; omega
    generalize clip n = c at *
    have HC := Lib.hid hc
    clear hc
    go_enter Try.func26, Try.ntmps26
    go_wp2
    go_loopw [0, 3] (fun x b wr => ∃ (k : Nat) (acc : List UInt8), (k : Int) ≤ 9007199254740992 ∧ x = .int .i64 k ∧ acc ++ numL k = numL c ∧ wr.ownsRow w.heap.size 5 1 b acc.length (bvs acc) ∧ Below w.heap.size w wr)
      (fun x _ _ => (intOf x).toNat)
    case atStart => exact ⟨c, [], by omega, by have := HC.out; go_num, rfl, World.ownsRow_nil _ _ _ _, Below.refl _ _⟩
    case round =>
      obtain ⟨k, acc, hk, rfl, heq, hown, hbel⟩ := hrel
      have hsz := hbel.size
      have hlen : acc.length ≤ 7 := by
        have h1 := congrArg List.length heq
        rw [List.length_append] at h1
        have h2 := numL_pos k
        omega
      have H := Lib.hid heq
      clear heq
      by_cases hlt : 128 ≤ k
      · go_wp2_with (at_builtin; refine wpList_own rfl (.tmp 11) (.tmp 15) 23 23 rfl w.heap.size 5 (.int .u8 0) 1 1 Try.underlying23 info5 rfl rfl (hown.alloc _) rfl (src_one wr Try.underlying23 5 _ rfl) (hbel.alloc hbel.size _) (Nat.le_refl _) ?_ ?_ ?_ ?_)
        · unfold maxLen; omega
        · omega
        · simp; omega
        · intro v' w1 hown' hbel' _
          rw [byte_more k] at hown'
          clear hown hbel
          go_wp2
          go_roundw
          case rel => exact ⟨k / 128, acc ++ [UInt8.ofNat (k % 128 + 128)], by omega, by go_num, by rw [← H.out, numL_ge hlt, List.append_assoc]; rfl, own_snoc hown', hbel'⟩
          case measure => simp [intOf]; omega
      · go_wp2_with (at_builtin; refine wpList_own rfl (.tmp 17) (.tmp 20) 23 23 rfl w.heap.size 5 (.int .u8 0) 1 1 Try.underlying23 info5 rfl rfl (hown.alloc _) rfl (src_one wr Try.underlying23 5 _ rfl) (hbel.alloc hbel.size _) (Nat.le_refl _) ?_ ?_ ?_ ?_)
        · unfold maxLen; omega
        · omega
        · simp; omega
        · intro v' w1 hown' hbel' _
          go_wp2
          go_ret
          rw [byte_last (show k < 128 by omega)] at hown'
          have e : numL c = acc ++ [UInt8.ofNat k] := by rw [← H.out, numL_lt (by omega)]
          exact ⟨v', rfl, by rw [e]; exact own_snoc hown', hbel'⟩
end Go.Proofs.Ytbacdeogggcbfaa
