/-
  A subscription that a call hands back, put into a box of its own (layer state). No program but the seat's types.; A state that a call hands back, put into a box of its own (layer state). No program but the seat's types.
-/
import Derived.Laws.Tables
import Derived.Test.YtodckdkbheapfaaGreatKQH
set_option linter.unusedVariables false
set_option linter.unusedVariables false
namespace Go.Proofs.YtodckdkbheapfaaGreat
open Go.RowKit Go.Rst Go.Tp Go.Ts
def boxW (w : World) (C : List Value) : World := (w.alloc (.cells #[.int .i64 0, .string ⟨#[]⟩, .string ⟨#[]⟩, .string ⟨#[]⟩, .int .i64 0, .int .i64 0, .int .i64 0, .slice none 0 0, .slice none 0 0, .string ⟨#[]⟩] 30)).setRow w.heap.size C.toArray
theorem box_def (w : World) (C : List Value) : (w.alloc (.cells #[.int .i64 0, .string ⟨#[]⟩, .string ⟨#[]⟩, .string ⟨#[]⟩, .int .i64 0, .int .i64 0, .int .i64 0, .slice none 0 0, .slice none 0 0, .string ⟨#[]⟩] 30)).setRow w.heap.size C.toArray = boxW w C := rfl
theorem box_below (w : World) (C : List Value) : Below w.heap.size w (boxW w C) := below_setRow ((Below.refl _ w).alloc (Nat.le_refl _) _) (Nat.le_refl _) _
theorem box_wh (w : World) (C : List Value) : Wh (boxW w C) w.heap.size C 30 := (Wh.new w [.int .i64 0, .string ⟨#[]⟩, .string ⟨#[]⟩, .string ⟨#[]⟩, .int .i64 0, .int .i64 0, .int .i64 0, .slice none 0 0, .slice none 0 0, .string ⟨#[]⟩] 30).set C
theorem box_size (w : World) (C : List Value) : (boxW w C).heap.size = w.heap.size + 1 := by simp [boxW]
theorem box_old (w : World) : Wh (w.alloc (.cells #[.int .i64 0, .string ⟨#[]⟩, .string ⟨#[]⟩, .string ⟨#[]⟩, .int .i64 0, .int .i64 0, .int .i64 0, .slice none 0 0, .slice none 0 0, .string ⟨#[]⟩] 30)) w.heap.size [.int .i64 0, .string ⟨#[]⟩, .string ⟨#[]⟩, .string ⟨#[]⟩, .int .i64 0, .int .i64 0, .int .i64 0, .slice none 0 0, .slice none 0 0, .string ⟨#[]⟩] 30 := Wh.new w [.int .i64 0, .string ⟨#[]⟩, .string ⟨#[]⟩, .string ⟨#[]⟩, .int .i64 0, .int .i64 0, .int .i64 0, .slice none 0 0, .slice none 0 0, .string ⟨#[]⟩] 30
structure Cub (C : List Value) : Prop where
  len : C.length = 10
  all : C.toArray.all (·.oneCell') = true
theorem Cub.mk_ (x : Sub) {av qv : Value} (ha : av.oneCell' = true) (hq : qv.oneCell' = true) : Cub (subC x av qv) := ⟨rfl, sub_all x ha hq⟩
theorem Cub.old {C : List Value} (h : Cub C) : (#[.int .i64 0, .string ⟨#[]⟩, .string ⟨#[]⟩, .string ⟨#[]⟩, .int .i64 0, .int .i64 0, .int .i64 0, .slice none 0 0, .slice none 0 0, .string ⟨#[]⟩] : Array Value).size = C.toArray.size := by simp [h.len]
theorem Cub.info {C : List Value} (h : Cub C) : (Tryz.prog.info? 30).map (·.size) = some C.toArray.size := by simp [h.len, size35]
theorem Cub.infoL {C : List Value} (h : Cub C) : (Tryz.prog.info? 30).map (·.size) = some C.length := by rw [h.len]; exact size35
end Go.Proofs.YtodckdkbheapfaaGreat
set_option linter.unusedVariables false
namespace Go.Proofs.YtodckdkbheapfaaGreat
open Go.RowKit Go.Rst Go.Tp Go.Ts
def boxT (w : World) (C : List Value) : World := (w.alloc (.cells #[.int .i64 0, .int .i64 0, .int .i64 0, .slice none 0 0] 25)).setRow w.heap.size C.toArray
theorem boxT_def (w : World) (C : List Value) : (w.alloc (.cells #[.int .i64 0, .int .i64 0, .int .i64 0, .slice none 0 0] 25)).setRow w.heap.size C.toArray = boxT w C := rfl
theorem boxT_below (w : World) (C : List Value) : Below w.heap.size w (boxT w C) := below_setRow ((Below.refl _ w).alloc (Nat.le_refl _) _) (Nat.le_refl _) _
theorem boxT_wh (w : World) (C : List Value) : Wh (boxT w C) w.heap.size C 25 := (Wh.new w [.int .i64 0, .int .i64 0, .int .i64 0, .slice none 0 0] 25).set C
theorem boxT_old (w : World) : Wh (w.alloc (.cells #[.int .i64 0, .int .i64 0, .int .i64 0, .slice none 0 0] 25)) w.heap.size [.int .i64 0, .int .i64 0, .int .i64 0, .slice none 0 0] 25 := Wh.new w _ _
structure Cut (C : List Value) : Prop where
  len : C.length = 4
  all : C.toArray.all (·.oneCell') = true
theorem Cut.mk_ (c n l : Int) {v : Value} (hv : v.oneCell' = true) : Cut (stC c n l v) := ⟨rfl, st_all c n l hv⟩
theorem Cut.old {C : List Value} (h : Cut C) : (#[.int .i64 0, .int .i64 0, .int .i64 0, .slice none 0 0] : Array Value).size = C.toArray.size := by simp [h.len]
theorem Cut.info {C : List Value} (h : Cut C) : (Tryz.prog.info? 25).map (·.size) = some C.toArray.size := by simp [h.len, size24]
theorem Cut.infoL {C : List Value} (h : Cut C) : (Tryz.prog.info? 25).map (·.size) = some C.length := by rw [h.len]; exact size24
end Go.Proofs.YtodckdkbheapfaaGreat
