/-
  The contracts of crc.tail and of the reference's Seal: four bytes of a number, the least first; bytes with their check behind.
-/
import Derived.Test.YtbacdeogggcbfaaCWords
namespace Go.Proofs.Ytbacdeogggcbfaa
open Go.RowKit Go.Rst Go.Crc
set_option maxRecDepth 100000 in
set_option maxHeartbeats 400000 in
theorem tail_any (n : Nat) (hn : n < B32) (w : World) : Calls Try.prog 46 #[.int .u32 n] w (NewB 5 w (tailL n)) := by
  have hb : n ≤ 4294967295 := by unfold B32 at hn; omega
  go_enter Try.func46, Try.ntmps46
  go_wp2
  go_ret
  exact ⟨_, rfl, own_lit (l := tailL n) (tail_cells hb) rfl (by decide), (Below.refl _ _).alloc (Nat.le_refl _) _⟩

end Go.Proofs.Ytbacdeogggcbfaa
