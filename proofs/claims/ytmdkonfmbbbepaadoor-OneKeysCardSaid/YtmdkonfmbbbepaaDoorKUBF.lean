/-
  The contract of the document's own Good (layer state).
-/
import Derived.Deep.MidRow
import Derived.Test.YtmdkonfmbbbepaaDoorKUBE
set_option linter.unusedVariables false
set_option linter.unusedVariables false
namespace Go.Ts
end Go.Ts
namespace Go.Proofs.YtmdkonfmbbbepaaDoor
open Go.RowKit Go.Rst Go.Tp Go.Ts
theorem CellsAt.range {w : World} {b off : Nat} {cs : List Value} (h : CellsAt w b off cs) : w.rangeAt b off cs := fun j v hv => by
  obtain ⟨hj, rfl⟩ := List.getElem?_eq_some_iff.1 hv
  exact h j hj
theorem BX.range {w : World} {g : Nat} {cs : List Value} (h : BX w g cs) : w.rangeAt g 0 cs := fun j v hv => by
  obtain ⟨hj, rfl⟩ := List.getElem?_eq_some_iff.1 hv
  rw [Nat.zero_add]; exact h.at_ j hj
theorem size57 : (Tryd.prog.info? 45).map (·.size) = some 8 := by kernel_rfl
theorem size35 : (Tryd.prog.info? 27).map (·.size) = some 10 := by kernel_rfl
theorem ri_at {w : World} {A : Option Addr} {n c : Nat} {l : List Int} (h : RI w (.slice A n c) l) {k : Nat} (hk : k < l.length) : ∃ b off, A = some ⟨b, off, none⟩ ∧ w.cell? ⟨b, off + k, none⟩ = some (.int .i64 l[k]) := by
  obtain ⟨b, off, cs, rfl, _, hcs, hcell⟩ := h.at_ hk
  have hcs : cs = [.int .i64 l[k]] := hcs
  subst hcs
  have := hcell 0 (by simp)
  exact ⟨b, off, rfl, by simpa using this⟩
theorem rm_at {w : World} {A : Option Addr} {n c : Nat} {l : List Msg} (h : RM w (.slice A n c) l) {k : Nat} (hk : k < l.length) : ∃ b off, A = some ⟨b, off, none⟩ ∧ b < w.heap.size ∧ w.rangeAt b (off + k * 8) (msgC l[k]) := by
  obtain ⟨b, off, cs, rfl, hb, hcs, hcell⟩ := h.at_ hk
  have hcs : cs = msgC l[k] := hcs
  subst hcs
  exact ⟨b, off, rfl, hb, CellsAt.range hcell⟩
theorem wpList_load_midG {P : Program} {ops : Array Oper} {rest : List Oper} {op : Oper} {a : Act} {w : World} {Q : Exit → Act → World → Prop} (hw : Region.wanted op (yielded ops a.tmps) = true) (ty : TypeId) (x : Operand) (ho : op.op = .load ty x)
    (b o : Nat) (hx : a.eval x = .pointer (some ⟨b, o, none⟩)) (cs : List Value) (d : TypeDesc) (hc : w.rangeAt b o cs)
    (hu : P.underlying ty = some d) (hd : d.isRow = true) (hi : (P.info? ty).map (·.size) = some cs.length)
    (h : wpList P ops Q rest (a.put op.dst (.agg cs.toArray)) w) : wpList P ops Q (op :: rest) a w := by
  unfold wpList
  rw [if_pos hw]
  exact .inl (wp_load_mid ty x ho b o hx cs d hc hu hd hi h)
end Go.Proofs.YtmdkonfmbbbepaaDoor
