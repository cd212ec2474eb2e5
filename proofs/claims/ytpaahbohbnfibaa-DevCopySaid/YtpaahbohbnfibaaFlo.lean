/-
  What the program's type table says of the device's types; and: a traffic's two parts count one by one, up to 300. No condition beyond those that each theorem states.
-/
import Derived.Test.YtpaahbohbnfibaaProg
import Derived.Test.YtpaahbohbnfibaaBase
import Derived.Laws.ComplexArith
import Derived.KernelRfl
namespace Go.Proofs.Ytpaahbohbnfibaa
open Go.RowKit Go.Rst
theorem info64 : (Try.prog.info? 64).map (fun i => (i.zero, i.size)) = some (some (.agg #[.slice none 0 0, .slice none 0 0, .slice none 0 0, .bool false, .int .i64 0, .complex .f64 0 0]), 6) := by kernel_rfl
theorem info66 : (Try.prog.info? 66).map (fun i => (i.zero, i.size, i.bytes)) = some (some (.agg (Array.replicate 64 (.int .u8 0))), 64, 64) := by kernel_rfl
theorem info68 : (Try.prog.info? 68).map (fun i => (i.zero, i.size, i.bytes)) = some (some (.agg (#[.int .i64 0] ++ Array.replicate 64 (.int .u8 0))), 65, 72) := by kernel_rfl
theorem info38 : (Try.prog.info? 38).map (fun i => (i.zero, i.size)) = some (some (.agg #[.slice none 0 0, .slice none 0 0, .int .i64 0, .int .i64 0, .bool false, .int .i64 0]), 6) := by kernel_rfl
theorem info84 : (Try.prog.info? 84).map (fun i => (i.zero, i.size, i.bytes)) = some (some (.agg #[.int .i64 0, .slice none 0 0]), 2, 32) := by kernel_rfl
theorem info28 : (Try.prog.info? 28).map (fun i => (i.zero, i.size, i.bytes)) = some (some (.slice none 0 0), 1, 24) := by kernel_rfl
theorem info3 : (Try.prog.info? 3).map (fun i => (i.zero, i.size, i.bytes)) = some (some (.int .i64 0), 1, 8) := by kernel_rfl
theorem info5 : (Try.prog.info? 5).map (fun i => (i.zero, i.size, i.bytes)) = some (some (.int .u8 0), 1, 1) := by kernel_rfl
theorem info4 : (Try.prog.info? 4).map (fun i => (i.zero, i.size, i.bytes)) = some (some (.bool false), 1, 1) := by kernel_rfl
theorem info44 : (Try.prog.info? 44).map (fun i => (i.zero, i.size)) = some (some (.agg #[.int .u8 0, .int .i64 0, .slice none 0 0, .slice none 0 0, .int .u8 0]), 5) := by kernel_rfl

/-- The bits of a number as a float. -/
def fb (n : Nat) : Nat := floatOfInt .f64 (n : Int)
theorem fb_zero : fb 0 = 0 := by decide +kernel
theorem fb_more : ∀ n < 300, floatBits .add .f64 (fb n) 4607182418800017408 = some (fb (n + 1)) := by decide +kernel
theorem fb_same : ∀ n < 300, floatBits .add .f64 (fb n) 0 = some (fb n) := by decide +kernel
theorem fb_order : ∀ n < 300, (FloatKind.f64.format.order (fb n) (fb n) == some .eq) = true := by decide +kernel
theorem fb_two : fb 2 = 4611686018427387904 := by decide +kernel
theorem fb_one : fb 1 = 4607182418800017408 := by decide +kernel
end Go.Proofs.Ytpaahbohbnfibaa
