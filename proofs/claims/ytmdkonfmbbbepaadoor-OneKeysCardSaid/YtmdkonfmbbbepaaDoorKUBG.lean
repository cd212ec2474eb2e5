/-
  Words for structs in boxes, by value (layer state). No program but the seat's types.; A whole struct read at a step of a drawn region. No program.
-/
import Derived.Laws.CopyOwn
import Derived.Test.YtmdkonfmbbbepaaDoorKUBF
set_option linter.unusedVariables false
set_option linter.unusedVariables false
namespace Go.Proofs.YtmdkonfmbbbepaaDoor
open Go.RowKit Go.Rst Go.Tp Go.Ts
def Wh (w : World) (g : Nat) (cs : List Value) (t : TypeId) : Prop := w.heap[g]? = some (.cells cs.toArray t (0, 0))
theorem Wh.lt {w : World} {g : Nat} {cs : List Value} {t : TypeId} (h : Wh w g cs t) : g < w.heap.size := (Array.getElem?_eq_some_iff.1 h).1
theorem Wh.below {w w' : World} {g : Nat} {cs : List Value} {t : TypeId} (h : Wh w g cs t) (hb : Below w.heap.size w w') : Wh w' g cs t := (hb.block g h.lt).trans h
theorem Wh.kept {w w' : World} {g : Nat} {cs : List Value} {t : TypeId} {row : Option Nat} (h : Wh w g cs t) (hg : w.grownBy w' row) (hne : some g ≠ row) : Wh w' g cs t := (hg.block g h.lt hne).trans h
theorem Wh.new (w : World) (cs : List Value) (t : TypeId) : Wh (w.alloc (.cells cs.toArray t)) w.heap.size cs t := heap_alloc_new w _
theorem Wh.alloc {w : World} {g : Nat} {cs : List Value} {t : TypeId} (h : Wh w g cs t) (o : Obj) : Wh (w.alloc o) g cs t := (Below.heap_alloc _ _ _ h.lt).trans h
theorem Wh.bx {w : World} {g : Nat} {cs : List Value} {t : TypeId} (h : Wh w g cs t) : BX w g cs := ⟨h.lt, fun i hi => by rw [cell_of_row w g i cs.toArray t (0, 0) h]; simp [hi]⟩
theorem Wh.range {w : World} {g : Nat} {cs : List Value} {t : TypeId} (h : Wh w g cs t) : w.rangeAt g 0 cs := h.bx.range
theorem Wh.set {w : World} {g : Nat} {cs : List Value} {t : TypeId} (h : Wh w g cs t) (ds : List Value) : Wh (w.setRow g ds.toArray) g ds t := setRow_heap w g _ _ t (0, 0) h
theorem Wh.setOther {w : World} {g : Nat} {cs : List Value} {t : TypeId} (h : Wh w g cs t) {k : Nat} (hk : g ≠ k) (ds : Array Value) : Wh (w.setRow k ds) g cs t := (setRow_other w k g ds hk).trans h
theorem Wh.set1 {w : World} {g : Nat} {cs : List Value} {t : TypeId} (h : Wh w g cs t) (i : Nat) (v : Value) : Wh (w.setCell ⟨g, i, none⟩ v) g (cs.set i v) t := by
  rw [setCell_eq_setRow w g i cs.toArray t (0, 0) v h]
  have := h.set (cs.set i v)
  simpa using this
theorem Wh.set1Other {w : World} {g : Nat} {cs : List Value} {t : TypeId} (h : Wh w g cs t) {k : Nat} (hk : g ≠ k) (i : Nat) (v : Value) : Wh (w.setCell ⟨k, i, none⟩ v) g cs t := (Below.heap_setCell w _ _ g hk).trans h
theorem Wh.frozen {w : World} {g : Nat} {cs : List Value} {t : TypeId} (h : Wh w g cs t) (i : Nat) : w.frozen? ⟨g, i, none⟩ = false := by simp [World.frozen?, show w.heap[g]? = _ from h]
theorem sub_all (x : Sub) {av qv : Value} (ha : av.oneCell' = true) (hq : qv.oneCell' = true) : (subC x av qv).toArray.all (·.oneCell') = true :=
  all_oneCell_toArray (by
    intro v hv
    simp only [subC, List.mem_cons, List.not_mem_nil, or_false] at hv
    rcases hv with rfl | rfl | rfl | rfl | rfl | rfl | rfl | rfl | rfl | rfl <;> first | rfl | assumption)
theorem rl_one {α : Type} {sz : Nat} {C : World → α → List Value → Prop} {w : World} {v : Value} {xs : List α} (h : RL sz C w v xs) : v.oneCell' = true := by
  obtain ⟨A, c, rfl, _⟩ := h; rfl
theorem results_row_tmp {P : Program} {fn : Func} {p u : Tmp} {ty : TypeId} (h : fn.results = #[.cell p ty, .tmp u]) (tmps : Array Value) (w : World) (g : Nat) (cs : List Value) {t : TypeId} {d : TypeDesc} (hp : tmps.getD p undef = .pointer (some ⟨g, 0, none⟩)) (hg : Wh w g cs t)
    (hu : P.underlying ty = some d) (hd : d.isRow = true) (hi : (P.info? ty).map (·.size) = some cs.length) : (results fn tmps).run P w = .ok (.tuple #[.agg cs.toArray, tmps.getD u undef]) w := by
  rw [results_cell_tmp h, hp]
  have hl := run_loadVar_mid w g 0 ty cs d hg.range hu hd hi
  simp [asAddr, hl, Result.andThen]
theorem range_below {w w' : World} {b off : Nat} {cs : List Value} {B : Nat} (h : w.rangeAt b off cs) (hb : b < B) (hw : Below B w w') : w'.rangeAt b off cs := fun j v hv => (hw.cell (p := ⟨b, off + j, none⟩) hb).trans (h j v hv)
end Go.Proofs.YtmdkonfmbbbepaaDoor
set_option linter.unusedVariables false
namespace Go.Proofs.YtmdkonfmbbbepaaDoor
open Go.RowKit Go.Rst Go.Tp Go.Ts
theorem exec_load_mid {P : Program} {a : Act} {oi : Oper} {W : World} (ty : TypeId) (x : Operand) (ho : oi.op = .load ty x) (b o : Nat) (hx : a.eval x = .pointer (some ⟨b, o, none⟩)) (cs : List Value) (d : TypeDesc) (hc : W.rangeAt b o cs)
    (hu : P.underlying ty = some d) (hd : d.isRow = true) (hi : (P.info? ty).map (·.size) = some cs.length) : (execOp a.eval oi).run P W = .ok (.value (.agg cs.toArray)) W := by
  unfold execOp
  simp only [ho, hx, Instr.loadAt, Instr.sureAddr, Sem.run_bind, Sem.run_pure, Result.andThen_ok, run_loadVar_mid W b o ty cs d hc hu hd hi]
end Go.Proofs.YtmdkonfmbbbepaaDoor
