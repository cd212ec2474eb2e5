/-
  The contract of the program's comparison of places by priority (layer model).
-/
import Derived.BigRegion
import Derived.BigQuiet
import Derived.Test.YtodckdkbheapfaaGreatKODA
import Derived.Test.YtodckdkbheapfaaGreatKODE
set_option linter.unusedVariables false
set_option linter.unusedVariables false
set_option linter.unusedSimpArgs false
namespace Go.Proofs.YtodckdkbheapfaaGreat
open Go.RowKit Go.Rst Go.Tp Go.Ts Go.Md Go.Lib
set_option maxRecDepth 100000 in
set_option maxHeartbeats 4000000 in
theorem less_any (q : List Msg) (B g c b : Nat) (w : World) (hq : OwnQ w B (.slice (some ⟨g, 0, none⟩) q.length c) q) (hb : w.cell? ⟨b, 0, none⟩ = some (.slice (some ⟨g, 0, none⟩) q.length c)) (i j : Nat) (hi : i < q.length) (hj : j < q.length) (hl : q.length ≤ 1000000) :
    Calls Tryz.prog 108 #[.int .i64 i, .int .i64 j, .pointer (some ⟨b, 0, none⟩)] w fun e w' => e = .returned (.int .i64 (Lib.compareInt q[j].prio q[i].prio)) ∧ ∃ n, w' = w.drewN n := by
  have ci := hq.at_ hi 7 (.int .i64 q[i].prio) rfl
  have cj := hq.at_ hj 7 (.int .i64 q[j].prio) rfl
  have hc := fun w => Tryz.cmp_Compare_int q[j].prio q[i].prio w
  have HC := Lib.hid hc
  clear hc
  have i1 : (i : Int) < (q.length : Int) := by omega
  have j1 : (j : Int) < (q.length : Int) := by omega
  have hfm : Tryz.prog.follows Departure.mixedOrders = true := by kernel_rfl
  go_enter Tryz.func108, Tryz.ntmps108
  go_wp2_with fail
  go_quiet_o (refine Calls.quiet_of_same (HC.out _))
  go_wp2
  go_ret
  exact ⟨rfl, nq, rfl⟩
end Go.Proofs.YtodckdkbheapfaaGreat
