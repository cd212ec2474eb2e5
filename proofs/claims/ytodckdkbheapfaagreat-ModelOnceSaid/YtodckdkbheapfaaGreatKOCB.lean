/-
  The contracts of the program's must, within and named (layer model).
-/
import Derived.Test.YtodckdkbheapfaaGreatKOBA
import Derived.Test.YtodckdkbheapfaaGreatKOCA
set_option linter.unusedVariables false
set_option linter.unusedVariables false
set_option linter.unusedSimpArgs false
namespace Go.Proofs.YtodckdkbheapfaaGreat
open Go.RowKit Go.Rst Go.Tp Go.Ts Go.Md
set_option maxRecDepth 100000 in
theorem must_yes (k : Int) (w : World) : Calls Tryz.prog 35 #[.bool true, .int .u16 k] w fun e w' => e = .returned (.tuple #[]) ∧ w' = w := by
  go_enter Tryz.func35, Tryz.ntmps35
  go_wp2
  go_end0
  exact ⟨rfl, rfl⟩
set_option maxRecDepth 100000 in
theorem must_no (k : Int) (w : World) : Calls Tryz.prog 35 #[.bool false, .int .u16 k] w fun e w' => e = .panicked (errP k) ∧ w' = w := by
  go_enter Tryz.func35, Tryz.ntmps35
  go_wp2
  exact ⟨rfl, rfl, rfl⟩
set_option maxRecDepth 100000 in
theorem within_any (n a b : Int) (w : World) : Calls Tryz.prog 67 #[.int .i64 n, .int .i64 a, .int .i64 b] w fun e w' => e = .returned (.bool (decide (a ≤ n) && decide (n ≤ b))) ∧ w' = w := by
  go_enter Tryz.func67, Tryz.ntmps67
  by_cases h1 : a ≤ n
  · by_cases h2 : n ≤ b
    · go_wp2
      go_ret
      simp [h1, h2]
    · go_wp2
      go_ret
      simp [h2]
  · go_wp2
    go_ret
    simp
    omega
theorem good_name (l : List UInt8) : goodB ⟨1, l, [97], [], 1, 1, 0, [], [], []⟩ 0 1 = nameB l := by
  have h1 : patB [97] = true := by decide
  have h2 : attrsB [] = true := rfl
  unfold goodB fieldsB
  simp [h1, h2, ackB, queB]
set_option maxRecDepth 100000 in
theorem named_any (l : List UInt8) (hl : l.length ≤ 1000000) (w : World) : Calls Tryz.prog 64 #[sv l] w fun e w' => e = .returned (.bool (nameB l)) ∧ Below w.heap.size w w' := by
  have hc := goodP_any ⟨1, l, [97], [], 1, 1, 0, [], [], []⟩ (.slice none 0 0) (.slice none 0 0) 0 1 w (RL.nil_ _ _ _ (Nat.zero_le _)) (RL.nil_ _ _ _ (Nat.zero_le _)) (fun m hm => by cases hm) (by omega) (by omega)
  rw [good_name] at hc
  have HC := Lib.hid hc
  clear hc
  go_enter Tryz.func64, Tryz.ntmps64
  go_wp2_with fail
  refine HC.out.mono ?_
  rintro e w' ⟨rfl, hb⟩
  go_wp2
  go_ret
  exact ⟨rfl, hb⟩
end Go.Proofs.YtodckdkbheapfaaGreat
