/-
  The contracts of the reference's Num, join and Text: they make the same bytes as the code's.
-/
import Derived.Test.YthhopfpgnjjpdaaText
namespace Go.Proofs.Ythhopfpgnjjpdaa
open Go.RowKit Go.Rst
theorem refByte (k : Nat) : (128 : Int) + (k : Int) % 128 = ((UInt8.ofNat (k % 128 + 128)).toNat : Int) := by
  have : (UInt8.ofNat (k % 128 + 128)).toNat = k % 128 + 128 := byte_val (by omega)
  rw [this]; omega

set_option maxRecDepth 100000 in
set_option maxHeartbeats 400000 in
theorem refNum_any (n : Int) (w : World) : Calls Try.prog 45 #[.int .i64 n] w (NewB 5 w (numL (clip n))) := by
  have hcl := clip_le n
  have h8 := numL_len8 hcl
  have hc : (clip n : Int) = max 0 (min n 9007199254740992) := by unfold clip; omega
  generalize clip n = c at *
  have HC := Lib.hid hc
  clear hc
  rcases (show n < 0 ∨ n = 0 ∨ (0 < n ∧ n ≤ 9007199254740992) ∨ 9007199254740992 < n from by omega) with h | rfl | ⟨h, h'⟩ | h
  all_goals
    go_enter Try.func45, Try.ntmps45
    go_wp2
    go_loopw [0, 3] (fun x b wr => ∃ (k : Nat) (acc : List UInt8), (k : Int) ≤ 9007199254740992 ∧ x = .int .i64 k ∧ acc ++ numL k = numL c ∧ wr.ownsRow w.heap.size 5 1 b acc.length (bvs acc) ∧ Below w.heap.size w wr)
      (fun x _ _ => (intOf x).toNat)
    case atStart => exact ⟨c, [], by omega, by have := HC.out; go_num, rfl, World.ownsRow_nil _ _ _ _, Below.refl _ _⟩
    case round =>
      obtain ⟨k, acc, hk, rfl, heq, hown, hbel⟩ := hrel
      have hsz := hbel.size
      have hlen : acc.length ≤ 7 := by
        have h1 := congrArg List.length heq
        rw [List.length_append] at h1
        have h2 := numL_pos k
        omega
      have H := Lib.hid heq
      clear heq
      by_cases hlt : 128 ≤ k
      · go_wp2_with (at_builtin; refine wpList_own rfl (.tmp 9) (.tmp 14) 22 22 rfl w.heap.size 5 (.int .u8 0) 1 1 Try.underlying22 info5 rfl rfl (hown.alloc _) rfl (src_one wr Try.underlying22 5 _ rfl) (hbel.alloc hbel.size _) (Nat.le_refl _) ?_ ?_ ?_ ?_)
        · unfold maxLen; omega
        · omega
        · simp; omega
        · intro v' w1 hown' hbel' _
          rw [refByte k] at hown'
          clear hown hbel
          go_wp2
          go_roundw
          case rel => exact ⟨k / 128, acc ++ [UInt8.ofNat (k % 128 + 128)], by omega, by go_num, by rw [← H.out, numL_ge hlt, List.append_assoc]; rfl, own_snoc hown', hbel'⟩
          case measure => simp [intOf]; omega
      · go_wp2_with (at_builtin; refine wpList_own rfl (.tmp 18) (.tmp 21) 22 22 rfl w.heap.size 5 (.int .u8 0) 1 1 Try.underlying22 info5 rfl rfl (hown.alloc _) rfl (src_one wr Try.underlying22 5 _ rfl) (hbel.alloc hbel.size _) (Nat.le_refl _) ?_ ?_ ?_ ?_)
        · unfold maxLen; omega
        · omega
        · simp; omega
        · intro v' w1 hown' hbel' _
          go_wp2
          go_ret
          rw [byte_last (show k < 128 by omega)] at hown'
          have e : numL c = acc ++ [UInt8.ofNat k] := by rw [← H.out, numL_lt (by omega)]
          exact ⟨v', rfl, by rw [e]; exact own_snoc hown', hbel'⟩

set_option maxRecDepth 100000 in
set_option maxHeartbeats 400000 in
theorem join_any (va vb : Value) (a b : List UInt8) (ha : a.length ≤ 10000000000) (hb : b.length ≤ 10000000000) (w : World) (h1 : RB w va a) (h2 : RB w vb b) : Calls Try.prog 44 #[va, vb] w (NewB 5 w (a ++ b)) := by
  have H1 := Lib.hid h1
  have H2 := Lib.hid h2
  obtain ⟨A1, c1, rfl, _⟩ := h1
  obtain ⟨A2, c2, rfl, _⟩ := h2
  go_enter Try.func44, Try.ntmps44
  go_wp2_with (at_builtin; refine wpList_own rfl (.tmp 6) (.tmp 7) 22 22 rfl w.heap.size 5 (.int .u8 0) 1 1 Try.underlying22 info5 rfl rfl (World.ownsRow_nil _ _ _ _) rfl (H1.out.src Try.underlying22) (Below.refl w.heap.size w) (Nat.le_refl _) ?_ ?_ ?_ ?_)
  · unfold maxLen; omega
  · omega
  · exact Nat.le_refl _
  intro v1 w1 hown hbel _
  have hown' : w1.ownsRow w.heap.size 5 1 v1 a.length (bvs a) := by simpa using hown
  have HO := Lib.hid hown'
  have HB := Lib.hid hbel
  clear hown hown' hbel
  go_wp2_with (at_builtin; refine wpList_own (n := a.length) (xs := bvs a) rfl (.tmp 9) (.tmp 10) 22 22 rfl w.heap.size 5 (.int .u8 0) 1 1 Try.underlying22 info5 rfl rfl HO.out rfl ((H2.out.below HB.out).src Try.underlying22) HB.out (Nat.le_refl _) ?_ ?_ ?_ ?_)
  · unfold maxLen; omega
  · omega
  · exact HB.out.size
  intro v2 w2 hown2 hbel2 _
  go_wp2
  go_ret
  exact ⟨v2, rfl, own_cat hown2, hbel2⟩

set_option maxRecDepth 100000 in
set_option maxHeartbeats 400000 in
theorem refText_any (s : ByteArray) (hs : s.size ≤ 1000000000) (w : World) : Calls Try.prog 36 #[.string s] w (NewB 5 w (textL s.data.toList)) := by
  have e1 : clip (s.size : Int) = s.data.toList.length := by unfold clip; rw [Array.length_toList]; show _ = s.size; omega
  have hnum := fun W => refNum_any (s.size : Int) W
  rw [e1] at hnum
  have h8 := numL_len8 (n := s.data.toList.length) (by rw [Array.length_toList]; show s.size ≤ _; omega)
  have hls : s.data.toList.length ≤ 1000000000 := by rw [Array.length_toList]; exact hs
  have HN := Lib.hid hnum
  clear hnum e1
  go_enter Try.func36, Try.ntmps36
  go_wp2_with fail
  refine (HN.out _).mono ?_
  rintro e w1 ⟨v, rfl, hown, hbel⟩
  have HR := Lib.hid (RB.own hown)
  have HB := Lib.hid hbel
  clear hown hbel
  go_wp2_with (refine wpList_bytes rfl (.tmp 6) 9 22 5 rfl Try.underlying9 Try.underlying22 Try.underlying5 (by rfl) ?_ ?_)
  · unfold maxLen; omega
  intro g c w2 hfb hb2
  have HF := Lib.hid hfb.rb
  have HB2 := Lib.hid hb2
  clear hfb hb2
  go_wp2_with fail
  refine (join_any _ _ _ _ (by omega) (by omega) _ (HR.out.below HB2.out) HF.out).mono ?_
  rintro e w3 ⟨v3, rfl, hown3, hb3⟩
  have h1 := HB.out.size
  have h2 := HB2.out.size
  go_wp2
  go_ret
  exact ⟨v3, rfl, own_base hown3 (by omega), (HB.out.trans (HB2.out.mono h1)).trans (hb3.mono (by omega))⟩
end Go.Proofs.Ythhopfpgnjjpdaa
