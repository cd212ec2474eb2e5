/-
  The contract of the reference's Seal: bytes with their check behind.
-/
import Derived.Test.YtbacdeogggcbfaaCRef
namespace Go.Proofs.Ytbacdeogggcbfaa
open Go.RowKit Go.Rst Go.Crc
set_option maxRecDepth 100000 in
set_option maxHeartbeats 1000000 in
theorem refSeal_any (v : Value) (l : List UInt8) (w : World) (hv : RB w v l) (hl : l.length ≤ 1000000) :
    Calls Try.prog 50 #[v] w (NewB 5 w (sealL l)) := by
  have hs := csum_lt l
  have HV := Lib.hid hv
  obtain ⟨A, c, rfl, _⟩ := hv
  go_enter Try.func50, Try.ntmps50
  go_wp2_with fail
  refine (refSum_any _ l _ HV.out).mono ?_
  rintro e w1 ⟨rfl, rfl⟩
  have e0 : sealL l = l ++ tailL (csum l) := rfl
  generalize csum l = n at *
  have E0 := Lib.hid e0
  clear e0
  have hb : n ≤ 4294967295 := by unfold B32 at hs; omega
  have HC := Lib.hid (tail_cells hb)
  go_wp2_with (at_builtin; refine wpList_own rfl (.tmp 7) (.tmp 8) 23 23 rfl w.heap.size 5 (.int .u8 0) 1 1 Try.underlying23 info5 rfl rfl (World.ownsRow_nil _ _ _ _) rfl (HV.out.src Try.underlying23) (Below.refl _ _) (Nat.le_refl _) ?_ ?_ ?_ ?_)
  · unfold maxLen; omega
  · omega
  · exact Nat.le_refl _
  · intro v1 w1 hown hbel _
    have hsz := hbel.size
    have HO := Lib.hid hown
    have HB := Lib.hid hbel
    clear hown hbel
    go_wp2_with (at_builtin; (refine wpList_own rfl (.tmp 10) (.tmp 25) 23 23 rfl w.heap.size 5 (.int .u8 0) 1 1 Try.underlying23 info5 rfl rfl (HO.out.alloc _) rfl ((RB.own (tail_own HC.out w1 5)).src Try.underlying23) (HB.out.alloc HB.out.size _) (Nat.le_refl _) ?_ ?_ ?_ ?_))
    · rw [tailL_length]; unfold maxLen; omega
    · rw [tailL_length]; omega
    · simp; omega
    · intro v2 w2 hown2 hbel2 _
      go_wp2
      go_ret
      refine ⟨v2, rfl, ?_, hbel2⟩
      rw [E0.out]
      exact own_cat (by simpa using hown2)
end Go.Proofs.Ytbacdeogggcbfaa
