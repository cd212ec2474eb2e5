/-
  The contract of code.Text: how many bytes a text has, and these, for every text of at most a billion bytes.
-/
import Derived.Test.YtbacdeogggcbfaaNum
namespace Go.Proofs.Ytbacdeogggcbfaa
open Go.RowKit Go.Rst
set_option maxRecDepth 100000 in
set_option maxHeartbeats 400000 in
theorem text_any (s : ByteArray) (hs : s.size ≤ 1000000000) (w : World) : Calls Try.prog 44 #[.string s] w (NewB 5 w (textL s.data.toList)) := by
  go_enter Try.func44, Try.ntmps44
  go_wp2_with fail
  refine (num_any _ _).mono ?_
  rintro e w1 ⟨v, rfl, hown, hbel⟩
  have e1 : clip (s.size : Int) = s.data.toList.length := by unfold clip; rw [Array.length_toList]; show _ = s.size; omega
  rw [e1] at hown
  have h8 := numL_len8 (n := s.data.toList.length) (by rw [Array.length_toList]; show s.size ≤ _; omega)
  have hls : s.data.toList.length = s.size := by rw [Array.length_toList]; rfl
  have HLS := Lib.hid hls
  clear hls e1
  go_wp2_with (at_builtin; refine wpList_own rfl (.tmp 5) (.tmp 6) 23 9 rfl w.heap.size 5 (.int .u8 0) 1 1 Try.underlying23 info5 rfl rfl hown rfl (src_string Try.underlying9 s) hbel (Nat.le_refl _) ?_ ?_ ?_ ?_)
  · have := HLS.out; unfold maxLen; omega
  · have := HLS.out; omega
  · exact hbel.size
  · intro v' w2 hown' hbel' _
    go_wp2
    go_ret
    exact ⟨v', rfl, own_cat hown', hbel'⟩
end Go.Proofs.Ytbacdeogggcbfaa
