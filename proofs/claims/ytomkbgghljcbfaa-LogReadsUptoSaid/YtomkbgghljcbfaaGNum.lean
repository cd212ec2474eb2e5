/-
  The contract of code.Num: it makes the bytes of the clipped number, for every number.
-/
import Derived.Test.YtomkbgghljcbfaaGWords
import Derived.Test.YtomkbgghljcbfaaProg
import Derived.Test.YtomkbgghljcbfaaGChg
import Derived.Deep.QuietTactic
import Derived.BigQuiet
set_option linter.unusedVariables false

namespace Go.Proofs.Ytomkbgghljcbfaa
open Go.RowKit Go.Rst
set_option maxRecDepth 100000 in
set_option maxHeartbeats 400000 in
theorem num_any (n : Int) (w : World) : Calls Try.prog 81 #[.int .i64 n] w (NewB 5 w (numL (clip n))) := by
  have hcl := clip_le n
  have h8 := numL_len8 hcl
  rcases (show n < 0 ∨ (0 ≤ n ∧ n ≤ 9007199254740992) ∨ 9007199254740992 < n from by omega) with h | ⟨h, h'⟩ | h
  all_goals
    have hc : (clip n : Int) = max 0 (min n 9007199254740992) := by unfold clip; omega
    generalize clip n = c at *
    have HC := Lib.hid hc
    clear hc
    go_enter Try.func81, Try.ntmps81
    go_wp2
    go_loopw [0, 3] (fun x b wr => ∃ (k : Nat) (acc : List UInt8), (k : Int) ≤ 9007199254740992 ∧ x = .int .i64 k ∧ acc ++ numL k = numL c ∧ wr.ownsRow w.heap.size 5 1 b acc.length (bvs acc) ∧ Below w.heap.size w wr)
      (fun x _ _ => (intOf x).toNat)
    case atStart => exact ⟨c, [], by omega, by have := HC.out; go_num, rfl, World.ownsRow_nil _ _ _ _, Below.refl _ _⟩
    case round =>
      obtain ⟨k, acc, hk, rfl, heq, hown, hbel⟩ := hrel
      have hsz := hbel.size
      have hlen : acc.length ≤ 7 := by
        have h1 := congrArg List.length heq
        rw [List.length_append] at h1
        have h2 := numL_pos k
        omega
      have H := Lib.hid heq
      clear heq
      by_cases hlt : 128 ≤ k
      · go_wp2_with (at_builtin; refine wpList_own rfl (.tmp 11) (.tmp 15) 23 23 rfl w.heap.size 5 (.int .u8 0) 1 1 Try.underlying23 info5 rfl rfl (hown.alloc _) rfl (src_one wr Try.underlying23 5 _ rfl) (hbel.alloc hbel.size _) (Nat.le_refl _) ?_ ?_ ?_ ?_)
        · unfold maxLen; omega
        · omega
        · simp; omega
        · intro v' w1 hown' hbel' _
          rw [byte_more k] at hown'
          clear hown hbel
          go_wp2
          go_roundw
          case rel => exact ⟨k / 128, acc ++ [UInt8.ofNat (k % 128 + 128)], by omega, by go_num, by rw [← H.out, numL_ge hlt, List.append_assoc]; rfl, own_snoc hown', hbel'⟩
          case measure => simp [intOf]; omega
      · go_wp2_with (at_builtin; refine wpList_own rfl (.tmp 17) (.tmp 20) 23 23 rfl w.heap.size 5 (.int .u8 0) 1 1 Try.underlying23 info5 rfl rfl (hown.alloc _) rfl (src_one wr Try.underlying23 5 _ rfl) (hbel.alloc hbel.size _) (Nat.le_refl _) ?_ ?_ ?_ ?_)
        · unfold maxLen; omega
        · omega
        · simp; omega
        · intro v' w1 hown' hbel' _
          go_wp2
          go_ret
          rw [byte_last (show k < 128 by omega)] at hown'
          have e : numL c = acc ++ [UInt8.ofNat k] := by rw [← H.out, numL_lt (by omega)]
          exact ⟨v', rfl, by rw [e]; exact own_snoc hown', hbel'⟩
end Go.Proofs.Ytomkbgghljcbfaa

/-
  The contract of code.Text: how many bytes a text has, and these, for every text of at most a billion bytes.
-/
namespace Go.Proofs.Ytomkbgghljcbfaa
open Go.RowKit Go.Rst
set_option maxRecDepth 100000 in
set_option maxHeartbeats 400000 in
theorem text_any (s : ByteArray) (hs : s.size ≤ 1000000000) (w : World) : Calls Try.prog 82 #[.string s] w (NewB 5 w (textL s.data.toList)) := by
  go_enter Try.func82, Try.ntmps82
  go_wp2_with fail
  refine (num_any _ _).mono ?_
  rintro e w1 ⟨v, rfl, hown, hbel⟩
  have e1 : clip (s.size : Int) = s.data.toList.length := by unfold clip; rw [Array.length_toList]; show _ = s.size; omega
  rw [e1] at hown
  have h8 := numL_len8 (n := s.data.toList.length) (by rw [Array.length_toList]; show s.size ≤ _; omega)
  have hls : s.data.toList.length = s.size := by rw [Array.length_toList]; rfl
  have HLS := Lib.hid hls
  clear hls e1
  go_wp2_with (at_builtin; refine wpList_own rfl (.tmp 5) (.tmp 6) 23 9 rfl w.heap.size 5 (.int .u8 0) 1 1 Try.underlying23 info5 rfl rfl hown rfl (src_string Try.underlying9 s) hbel (Nat.le_refl _) ?_ ?_ ?_ ?_)
  · have := HLS.out; unfold maxLen; omega
  · have := HLS.out; omega
  · exact hbel.size
  · intro v' w2 hown' hbel' _
    go_wp2
    go_ret
    exact ⟨v', rfl, own_cat hown', hbel'⟩
end Go.Proofs.Ytomkbgghljcbfaa

/-
  The contract of the reference's SameChanges, at changes that read alike: it answers true.
-/
namespace Go.Proofs.Ytomkbgghljcbfaa
open Go.RowKit Go.Rst

theorem rc_at {w : World} {A : Option Addr} {n c : Nat} {rs : List Chg} (h : RC w (.slice A n c) rs) {k : Nat} (hk : k < rs.length) :
    ∃ b off u, A = some ⟨b, off, none⟩ ∧ w.cell? ⟨b, off + k * 3, none⟩ = some (.string rs[k].1) ∧ w.cell? ⟨b, off + k * 3 + 1, none⟩ = some u ∧ RB w u rs[k].2.1 ∧ w.cell? ⟨b, off + k * 3 + 2, none⟩ = some (.bool rs[k].2.2) := by
  obtain ⟨A', c', he, _, _, h3⟩ := h
  injection he with e1 _ _
  subst e1
  rcases h3 with rfl | ⟨b, off, rfl, _, hc⟩
  · simp at hk
  · obtain ⟨h1, ⟨u, h2, h3⟩, h4⟩ := hc k hk
    exact ⟨b, off, u, rfl, h1, h2, h3, h4⟩

set_option maxRecDepth 100000 in
set_option maxHeartbeats 800000 in
theorem sameChgs_any (va vb : Value) (rs : List Chg) (w : World) (ha : RC w va rs) (hb : RC w vb rs) : Calls Try.prog 20 #[va, vb] w fun e w' => e = .returned (.bool true) ∧ ∃ m, w' = w.drewN m := by
  have HA := Lib.hid ha
  have HB := Lib.hid hb
  obtain ⟨A1, c1, rfl, hl1, hc1, _⟩ := ha
  obtain ⟨A2, c2, rfl, hl2, hc2, _⟩ := hb
  unfold maxLen at hc1 hc2
  have hbne : ((rs.length : Int) != (rs.length : Int)) = false := by simp
  go_enter Try.func20, Try.ntmps20
  go_wp2
  go_loopw [5] (fun i wr => ∃ k : Nat, k ≤ rs.length ∧ i = .int .i64 k ∧ ∃ m, wr = w.drewN m) (fun i _ => rs.length - (intOf i).toNat)
  case atStart => exact ⟨0, Nat.zero_le _, rfl, 0, rfl⟩
  case round =>
    obtain ⟨k, hk, rfl, m, rfl⟩ := hrel
    by_cases hlt : k < rs.length
    · obtain ⟨b1, o1, u1, rfl, hx1, hy1, hr1, hz1⟩ := rc_at HA.out hlt
      obtain ⟨b2, o2, u2, rfl, hx2, hy2, hr2, hz2⟩ := rc_at HB.out hlt
      have hs1 := fun (W : World) (hW : W.heap = w.heap) => (hr1.keep (w' := W) (by rw [hW]; exact Nat.le_refl _) (fun b o _ => by simp [World.cell?, hW])).str (P := Try.prog) (src := 23) (dst := 9) Try.underlying23 Try.underlying5 Try.underlying9
      have hs2 := fun (W : World) (hW : W.heap = w.heap) => (hr2.keep (w' := W) (by rw [hW]; exact Nat.le_refl _) (fun b o _ => by simp [World.cell?, hW])).str (P := Try.prog) (src := 23) (dst := 9) Try.underlying23 Try.underlying5 Try.underlying9
      have hs1' := fun j => hs1 (w.drewN j) rfl
      have hs2' := fun j => hs2 (w.drewN j) rfl
      generalize rs[k] = r at *
      clear hs1 hs2
      go_wp2
      go_quiet (fail)
      go_wp2
      go_roundw
      case rel => exact ⟨k + 1, by omega, by go_num, _, rfl⟩
      case measure => simp [intOf]; omega
    · go_wp2
      go_ret
      exact ⟨rfl, m, rfl⟩
end Go.Proofs.Ytomkbgghljcbfaa
