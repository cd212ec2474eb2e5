/-
  Words for ops and what is answered, as they lie in memory (layer model). No condition.
-/
import Derived.Deep.Onto
import Derived.Test.YtodckdkbheapfaaGreatKOJ
set_option linter.unusedVariables false
set_option linter.unusedVariables false
namespace Go.Proofs.YtodckdkbheapfaaGreat
open Go.RowKit Go.Rst Go.Tp Go.Ts Go.Md
def opC (o : Md.Op) (dv : Value) : List Value := [.int .i64 o.kind, .int .i64 o.sub, .int .i64 o.n, .int .i64 o.seq, sv o.name, sv o.topic, sv o.want, sv o.body, sv o.attr, dv]
def askC (s : St) (v : Value) (o : Md.Op) (dv : Value) : List Value := stC s.clock s.next s.last v ++ opC o dv
def rpC (r : Rp) (lv : Value) : List Value := [.int .u16 r.err, .int .i64 r.n, lv, .slice none 0 0]
theorem sizeA : (Tryz.prog.info? 73).map (·.size) = some 14 := by kernel_rfl
theorem sizeR : (Tryz.prog.info? 37).map (·.size) = some 4 := by kernel_rfl
theorem sizeO : (Tryz.prog.info? 41).map (·.size) = some 10 := by kernel_rfl
theorem ask_all (s : St) {v : Value} (hv : v.oneCell' = true) (o : Md.Op) {dv : Value} (h : dv.oneCell' = true) : (askC s v o dv).toArray.all (·.oneCell') = true :=
  all_oneCell_toArray (by
    intro u hu
    simp only [askC, stC, opC, List.cons_append, List.nil_append, List.mem_cons, List.not_mem_nil, or_false] at hu
    rcases hu with rfl | rfl | rfl | rfl | rfl | rfl | rfl | rfl | rfl | rfl | rfl | rfl | rfl | rfl <;> first | rfl | assumption)
theorem rp_all (r : Rp) {lv : Value} (h : lv.oneCell' = true) : (rpC r lv).toArray.all (·.oneCell') = true :=
  all_oneCell_toArray (by
    intro u hu
    simp only [rpC, List.mem_cons, List.not_mem_nil, or_false] at hu
    rcases hu with rfl | rfl | rfl | rfl <;> first | rfl | assumption)
def GivesDo (w : World) (s : St) (r : Rp) (e : Ending) (w' : World) : Prop := ∃ v lv, e = .returned (.tuple #[.agg (stC s.clock s.next s.last v).toArray, .agg (rpC r lv).toArray]) ∧ ON w.heap.size w' v s.subs ∧ RLt 45 8 CM w' lv r.list ∧ Below w.heap.size w w'
theorem ON.mono {b b2 : Nat} {w : World} {v : Value} {ys : List Sub} (h : ON b w v ys) (hb : b2 ≤ b) : ON b2 w v ys := by
  obtain ⟨css, ho, hl, hc⟩ := h
  exact ⟨css, ho.mono hb, hl, hc⟩
def errP (e : Int) : List PanicEntry := [{ v := .iface 35 (.int .u16 e), recovered := false }]
def GivesRes (w : World) (r : Res) (e : Ending) (w' : World) : Prop := match r with
  | .no k => e = .panicked (errP k) ∧ Below w.heap.size w w'
  | .yes s rp => GivesDo w s rp e w'
structure OpOk (o : Md.Op) : Prop where
  nm : o.name.length ≤ 1000000
  tp : o.topic.length ≤ 1000000
  wt : o.want.length ≤ 1000000
  bd : o.body.length ≤ 1000000
  at_ : o.attr.length ≤ 1000000
theorem _root_.Go.Md.Gd.sized {x : Sub} {c n : Int} (h : Gd x c n) : Sized x := Sized.few (by have := h.al; omega) (by have := h.pd.ql; omega)
theorem _root_.Go.Md.Rt.sized {s : St} (h : Rt s) : ∀ x ∈ s.subs, Sized x := fun x hx => (h.gd hx).sized
end Go.Proofs.YtodckdkbheapfaaGreat
