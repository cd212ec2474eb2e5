/-
  The contracts of strconv.Itoa, strings.Repeat and strconv.Atoi, as they are wanted.
-/
import Derived.Lib.AtoiErrMem
import Derived.Lib.AppendIntMem
import Derived.Test.YtmdkonfmbbbepaaDoorKUC
import Derived.Test.YtmdkonfmbbbepaaDoorKUD
set_option linter.unusedVariables false
set_option linter.unusedVariables false
namespace Go.Proofs.YtmdkonfmbbbepaaDoor
open Go.RowKit Go.Rst Go.Tk
def Pow (w : World) : Prop := Lib.TabIs Tryd.prog w "internal/strconv.uint64pow10" .u64 Lib.pow10Tab
theorem rep_any (c : Nat) (hc : c ≤ 9) (w : World) : Calls Tryd.prog 69 #[.string ⟨#[48]⟩, .int .i64 c] w fun e w' => e = .returned (.string ⟨(List.replicate c 48).toArray⟩) ∧ Below w.heap.size w w' := by
  have h := Tryd.strings_Repeat ⟨#[48]⟩ c w (by omega) (by show 1 * c ≤ _; omega)
  refine h.mono ?_
  rintro e w' ⟨rfl, hb⟩
  refine ⟨?_, hb⟩
  congr 3
  have : ∀ c, Lib.repeatL [48] c = List.replicate c 48 := fun c => by
    induction c with
    | zero => rfl
    | succ c ih => rw [Lib.repeatL, ih]; rfl
  exact congrArg List.toArray (this c)
theorem itoa_any (n : Nat) (hn : n ≤ 9999999999) (w : World) (ht : Pow w) : Calls Tryd.prog 49 #[.int .i64 n] w fun e w' => e = .returned (.string ⟨(Lib.decDigits n).toArray⟩) ∧ Below w.heap.size w w' := by
  have h := Tryd.strconv_Itoa n (by omega) (by omega) w ht
  refine h.mono ?_
  rintro e w' ⟨rfl, k, os, rfl⟩
  refine ⟨?_, ?_⟩
  · unfold Lib.itoa
    rw [if_neg (by omega)]
    rfl
  · exact Lib.below_grow _ w (Nat.le_refl _) k os
theorem atoi_any (k n : Nat) (hk : k ≤ 17) (hn : n < 10 ^ (k + 1)) (w : World) : Calls Tryd.prog 28 #[.string ⟨(pad (k + 1) n).toArray⟩] w fun e w' => e = .returned (.tuple #[.int .i64 n, .nilIface]) ∧ Below w.heap.size w w' := by
  have h := Tryd.strconv_Atoi ⟨(pad (k + 1) n).toArray⟩ n (by show (pad (k + 1) n).toArray.size ≤ 18; rw [List.size_toArray, pad_len]; omega) (by show Lib.atoi (pad (k + 1) n).toArray.toList = _; rw [List.toList_toArray]; exact atoi_pad k n hn) w
  refine h.mono ?_
  rintro e w' ⟨rfl, t, rfl⟩
  exact ⟨rfl, Lib.bytesWorld_below w _ t⟩
end Go.Proofs.YtmdkonfmbbbepaaDoor
