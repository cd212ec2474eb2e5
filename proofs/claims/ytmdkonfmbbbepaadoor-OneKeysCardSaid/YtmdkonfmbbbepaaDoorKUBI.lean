/-
  A subscription that a call hands back, put into a box of its own (layer state). No program but the seat's types.
-/
import Derived.Laws.Tables
import Derived.Test.YtmdkonfmbbbepaaDoorKUBH
set_option linter.unusedVariables false
set_option linter.unusedVariables false
namespace Go.Proofs.YtmdkonfmbbbepaaDoor
open Go.RowKit Go.Rst Go.Tp Go.Ts
def boxW (w : World) (C : List Value) : World := (w.alloc (.cells #[.int .i64 0, .string ⟨#[]⟩, .string ⟨#[]⟩, .string ⟨#[]⟩, .int .i64 0, .int .i64 0, .int .i64 0, .slice none 0 0, .slice none 0 0, .string ⟨#[]⟩] 27)).setRow w.heap.size C.toArray
theorem box_def (w : World) (C : List Value) : (w.alloc (.cells #[.int .i64 0, .string ⟨#[]⟩, .string ⟨#[]⟩, .string ⟨#[]⟩, .int .i64 0, .int .i64 0, .int .i64 0, .slice none 0 0, .slice none 0 0, .string ⟨#[]⟩] 27)).setRow w.heap.size C.toArray = boxW w C := rfl
theorem box_below (w : World) (C : List Value) : Below w.heap.size w (boxW w C) := below_setRow ((Below.refl _ w).alloc (Nat.le_refl _) _) (Nat.le_refl _) _
theorem box_wh (w : World) (C : List Value) : Wh (boxW w C) w.heap.size C 27 := (Wh.new w [.int .i64 0, .string ⟨#[]⟩, .string ⟨#[]⟩, .string ⟨#[]⟩, .int .i64 0, .int .i64 0, .int .i64 0, .slice none 0 0, .slice none 0 0, .string ⟨#[]⟩] 27).set C
theorem box_old (w : World) : Wh (w.alloc (.cells #[.int .i64 0, .string ⟨#[]⟩, .string ⟨#[]⟩, .string ⟨#[]⟩, .int .i64 0, .int .i64 0, .int .i64 0, .slice none 0 0, .slice none 0 0, .string ⟨#[]⟩] 27)) w.heap.size [.int .i64 0, .string ⟨#[]⟩, .string ⟨#[]⟩, .string ⟨#[]⟩, .int .i64 0, .int .i64 0, .int .i64 0, .slice none 0 0, .slice none 0 0, .string ⟨#[]⟩] 27 := Wh.new w [.int .i64 0, .string ⟨#[]⟩, .string ⟨#[]⟩, .string ⟨#[]⟩, .int .i64 0, .int .i64 0, .int .i64 0, .slice none 0 0, .slice none 0 0, .string ⟨#[]⟩] 27
structure Cub (C : List Value) : Prop where
  len : C.length = 10
  all : C.toArray.all (·.oneCell') = true
theorem Cub.mk_ (x : Sub) {av qv : Value} (ha : av.oneCell' = true) (hq : qv.oneCell' = true) : Cub (subC x av qv) := ⟨rfl, sub_all x ha hq⟩
theorem Cub.old {C : List Value} (h : Cub C) : (#[.int .i64 0, .string ⟨#[]⟩, .string ⟨#[]⟩, .string ⟨#[]⟩, .int .i64 0, .int .i64 0, .int .i64 0, .slice none 0 0, .slice none 0 0, .string ⟨#[]⟩] : Array Value).size = C.toArray.size := by simp [h.len]
theorem Cub.info {C : List Value} (h : Cub C) : (Tryd.prog.info? 27).map (·.size) = some C.toArray.size := by simp [h.len, size35]
theorem Cub.infoL {C : List Value} (h : Cub C) : (Tryd.prog.info? 27).map (·.size) = some C.length := by rw [h.len]; exact size35
end Go.Proofs.YtmdkonfmbbbepaaDoor
