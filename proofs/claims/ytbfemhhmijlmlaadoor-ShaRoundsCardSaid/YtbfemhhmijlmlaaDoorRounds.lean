/-
  ShaRounds returns true, and changes nothing that was there, for every number and byte, where the program's tables hold what they were laid with.
-/
import Derived.Test.YtbfemhhmijlmlaaDoorKnown
namespace Go.Proofs.YtbfemhhmijlmlaaDoor
open Go.RowKit Go.Rst Go.Sha

theorem round_w (i : Int) (w : World) (hL : Laid w) : Calls Tryd.prog 9 #[.int .i64 i] w fun e w' => e = .returned (.int .u32 ((tab kts i).toNat : Int)) ∧ w = w' := round_any i w hL
theorem begin_w (i : Int) (w : World) (hL : Laid w) : Calls Tryd.prog 11 #[.int .i64 i] w fun e w' => e = .returned (.int .u32 ((tab hbs i).toNat : Int)) ∧ w = w' := begin_any i w hL
theorem refRound_w (i : Int) (w : World) : Calls Tryd.prog 10 #[.int .i64 i] w fun e w' => e = .returned (.int .u32 ((tab kts i).toNat : Int)) ∧ Below w.heap.size w w' := refRound_any i w
theorem refBegin_w (i : Int) (w : World) : Calls Tryd.prog 12 #[.int .i64 i] w fun e w' => e = .returned (.int .u32 ((tab hbs i).toNat : Int)) ∧ Below w.heap.size w w' := refBegin_any i w

set_option maxRecDepth 100000 in
set_option maxHeartbeats 1000000 in
theorem rounds_walk (i : Int) (k : Nat) (w : World) (hL : Laid w) (hk : k ≤ 255) :
    Calls Tryd.prog 4 #[.int .i64 i, .int .u8 k] w fun e w' => e = .returned (.bool true) ∧ Below w.heap.size w w' := by
  have HL := Lib.hid hL
  clear hL
  go_enter Tryd.func4, Tryd.ntmps4
  go_wp2_with fail
  refine (known_any _ HL.out).mono ?_
  rintro e w1 ⟨rfl, hb⟩
  have HB1 := Lib.hid hb
  have HL1 := Lib.hid (HL.out.below hb)
  clear hb
  go_wp2_with fail
  refine (round_w _ _ HL1.out).mono ?_
  rintro e w' ⟨rfl, rfl⟩
  go_wp2_with fail
  refine (refRound_w _ _).mono ?_
  rintro e w2 ⟨rfl, hb⟩
  have HB2 := Lib.hid (HB1.out.trans (hb.mono HB1.out.size))
  have HL2 := Lib.hid (HL1.out.below hb)
  clear hb HL1 HB1
  go_wp2_with fail
  refine (begin_w _ _ HL2.out).mono ?_
  rintro e w' ⟨rfl, rfl⟩
  go_wp2_with fail
  refine (refBegin_w _ _).mono ?_
  rintro e w3 ⟨rfl, hb⟩
  have HB3 := Lib.hid (HB2.out.trans (hb.mono HB2.out.size))
  have HL3 := Lib.hid (HL2.out.below hb)
  clear hb HL2 HB2
  go_wp2_with fail
  refine (round_w _ _ HL3.out).mono ?_
  rintro e w' ⟨rfl, rfl⟩
  go_wp2_with fail
  refine (refRound_w _ _).mono ?_
  rintro e w4 ⟨rfl, hb⟩
  have HB4 := Lib.hid (HB3.out.trans (hb.mono HB3.out.size))
  have HL4 := Lib.hid (HL3.out.below hb)
  clear hb HL3 HB3
  go_wp2_with fail
  refine (begin_w _ _ HL4.out).mono ?_
  rintro e w' ⟨rfl, rfl⟩
  go_wp2_with fail
  refine (refBegin_w _ _).mono ?_
  rintro e w5 ⟨rfl, hb⟩
  have HB5 := Lib.hid (HB4.out.trans (hb.mono HB4.out.size))
  clear hb HL4 HB4
  go_wp2
  go_ret
  exact ⟨rfl, HB5.out⟩
end Go.Proofs.YtbfemhhmijlmlaaDoor
