/-
  Words for a map of bytes to values, that a call makes and asks by itself (layer one).; The contract of the program's tables (layer one).
-/
import Derived.MapKept
import Derived.Maps.Own
import Derived.Test.YtmdkonfmbbbepaaDoorKUBJ
set_option linter.unusedVariables false
set_option linter.unusedVariables false
set_option linter.unusedSimpArgs false
namespace Go.Proofs.YtmdkonfmbbbepaaDoor
open Go.RowKit Go.Rst Go.Tp Go.Ts Go.MapKept
def KB (w : World) (b : Nat) (ks : List (Int × Value)) : Prop := ∃ es clk, w.heap[b]? = some (.map es clk) ∧ es.toList.map (fun e => (e.key, e.val)) = ks.map (fun p => (Value.int .u8 p.1, p.2))
theorem KB.new (w : World) : KB (w.alloc (.map #[] 0)) w.heap.size [] := ⟨#[], 0, (heap_alloc w _).1, rfl⟩
theorem KB.kept {w w' : World} {row : Option Nat} {b : Nat} {ks : List (Int × Value)} (h : KB w b ks) (hg : w.grownBy w' row) (hne : some b ≠ row) : KB w' b ks := by
  obtain ⟨es, clk, h1, h2⟩ := h
  exact ⟨es, clk, (hg.block b (Array.getElem?_eq_some_iff.1 h1).1 hne).trans h1, h2⟩
theorem KB.below {w w' : World} {b : Nat} {ks : List (Int × Value)} (h : KB w b ks) (hb : Below w.heap.size w w') : KB w' b ks := by
  obtain ⟨es, clk, h1, h2⟩ := h
  exact ⟨es, clk, (hb.block b (Array.getElem?_eq_some_iff.1 h1).1).trans h1, h2⟩
theorem findNow_kb (k : Int) : ∀ (l : List MapEntry) (ks : List (Int × Value)) (i : Nat), l.map (fun e => (e.key, e.val)) = ks.map (fun p => (Value.int .u8 p.1, p.2)) →
    (((∀ p ∈ ks, p.1 ≠ k) ∧ Instr.findNow (.int .u8) (.int .u8 k) l i = some none) ∨ ∃ j v, Instr.findNow (.int .u8) (.int .u8 k) l i = some (some (j, v)) ∧ ks.lookup k = some v)
  | [], [], i, _ => .inl ⟨fun p hp => (by cases hp), rfl⟩
  | [], p :: ks, i, h => by simp at h
  | e :: l, [], i, h => by simp at h
  | e :: l, p :: ks, i, h => by
    simp only [List.map_cons, List.cons.injEq, Prod.mk.injEq] at h
    obtain ⟨⟨h1, h2⟩, h3⟩ := h
    by_cases hk : p.1 = k
    · right
      refine ⟨i, e.val, ?_, ?_⟩
      · unfold Instr.findNow
        rw [h1]
        simp [Instr.sameNow, hk]
      · rw [h2]
        simp [List.lookup, hk]
    · have hs : Instr.sameNow (.int .u8) (.int .u8 k) e.key = some false := by
        rw [h1]
        simp [Instr.sameNow]
        omega
      rcases findNow_kb k l ks (i + 1) h3 with ⟨h4, h5⟩ | ⟨j, v, h4, h5⟩
      · left
        refine ⟨fun q hq => ?_, ?_⟩
        · rcases List.mem_cons.1 hq with rfl | hq
          · exact hk
          · exact h4 q hq
        · unfold Instr.findNow
          rw [hs]
          exact h5
      · right
        refine ⟨j, v, ?_, ?_⟩
        · unfold Instr.findNow
          rw [hs]
          exact h4
        · have hk2 : (k == p.1) = false := by simp; omega
          obtain ⟨p1, p2⟩ := p
          simp only [List.lookup]
          rw [hk2]
          exact h5
theorem lookup_none_kb {k : Int} : ∀ {ks : List (Int × Value)}, (∀ p ∈ ks, p.1 ≠ k) → ks.lookup k = none
  | [], _ => rfl
  | (a, b) :: ks, h => by
    have h1 := h (a, b) List.mem_cons_self
    have hk2 : (k == a) = false := by simp at h1 ⊢; omega
    simp only [List.lookup]
    rw [hk2]
    exact lookup_none_kb fun p hp => h p (List.mem_cons_of_mem _ hp)
theorem KB.put {P : Program} {t e : TypeId} {w : World} {b : Nat} {ks : List (Int × Value)} (h : KB w b ks) (ht : P.underlying t = some (.map 5 e)) (hi : P.underlying 5 = some (.int .u8)) {k : Int} (hk : ∀ p ∈ ks, p.1 ≠ k) (v : Value) :
    ∃ w', (Instr.mapUpdate t (.map (some b)) (.int .u8 k) v).run P w = .ok () w' ∧ KB w' b (ks ++ [(k, v)]) ∧ w.grownBy w' (some b) := by
  obtain ⟨es, clk, h1, h2⟩ := h
  have hf : Instr.findNow (.int .u8) (.int .u8 k) es.toList 0 = some none := by
    rcases findNow_kb k es.toList ks 0 h2 with ⟨_, h3⟩ | ⟨j, u, _, h4⟩
    · exact h3
    · rw [lookup_none_kb hk] at h4
      cases h4
  have hr : (Instr.mapUpdate t (.map (some b)) (.int .u8 k) v).run P w = .ok () { w with heap := w.heap.setIfInBounds b (.map (es.push { key := .int .u8 k, val := v, born := clk }) (clk + 1)) } := by
    unfold Instr.mapUpdate
    simp only [Sem.run_bind, run_underlying ht, Result.andThen, MapKept.run_getObj_map h1, run_checkKey (k := .int .u8 k) hi (by simp [IsKey]) false 9999, run_findKey hi hf, MapKept.run_setObj_map _ h1]
  refine ⟨_, hr, ⟨es.push { key := .int .u8 k, val := v, born := clk }, clk + 1, (heap_set h1).1, ?_⟩, ⟨rfl, rfl, rfl, by simp, fun i _ hi => (heap_set h1).2 i (fun e => hi (by rw [e]))⟩⟩
  rw [Array.toList_push, List.map_append, List.map_append, h2]
  rfl
theorem KB.get {P : Program} {t e : TypeId} {w : World} {b : Nat} {ks : List (Int × Value)} (h : KB w b ks) (ht : P.underlying t = some (.map 5 e)) (hi : P.underlying 5 = some (.int .u8)) {z : Value} (hz : (zeroValue e).run P w = .ok z w) (k : Int) :
    (Instr.lookup t (.map (some b)) (.int .u8 k) true).run P w = .ok (.tuple #[(ks.lookup k).getD z, .bool (ks.lookup k).isSome]) w := by
  obtain ⟨es, clk, h1, h2⟩ := h
  have hck := fun e => run_checkKey (w := w) (k := .int .u8 k) hi (by simp [IsKey]) e 9999
  rcases findNow_kb k es.toList ks 0 h2 with ⟨h3, h4⟩ | ⟨j, u, h3, h4⟩
  · unfold Instr.lookup
    simp only [Sem.run_bind, run_underlying ht, Result.andThen, MapKept.run_getObj_map h1, Sem.run_pure, hck, run_findKey hi h4, hz, lookup_none_kb h3]
    rfl
  · unfold Instr.lookup
    simp only [Sem.run_bind, run_underlying ht, Result.andThen, MapKept.run_getObj_map h1, Sem.run_pure, hck, run_findKey hi h3, h4]
    rfl
theorem wpList_insert_kb {P : Program} (w : World) {ops : Array Oper} {rest : List Oper} {o : Oper} {a : Act} {Q : Exit → Act → World → Prop}
    (hg : o.guard = none) (m x v : Operand) (t : TypeId) (hop : o.op = Op.insert t m x v) (e : TypeId) (ht : P.underlying t = some (.map 5 e)) (hi : P.underlying 5 = some (.int .u8)) (b : Nat) (ks : List (Int × Value))
    (hm : a.eval m = .map (some b)) (hown : KB w b ks) (k : Int) (val : Value) (hx : a.eval x = .int .u8 k) (hv : a.eval v = val) (hk : ∀ p ∈ ks, p.1 ≠ k)
    (hK : ∀ w', KB w' b (ks ++ [(k, val)]) → w.grownBy w' (some b) → wpList P ops Q rest (a.put o.dst undef) w') :
    wpList P ops Q (o :: rest) a w := by
  refine wpList_plain hg fun K' hK' => ?_
  obtain ⟨w', hrun, r1, r2⟩ := hown.put ht hi hk val
  unfold Oper.wp
  simp [execOp, hop, hm, hx, hv, hrun, Result.andThen]
  exact hK' _ _ (hK w' r1 r2)
end Go.Proofs.YtmdkonfmbbbepaaDoor
set_option linter.unusedVariables false
set_option linter.unusedSimpArgs false
namespace Go.Proofs.YtmdkonfmbbbepaaDoor
open Go.RowKit Go.Rst Go.Tp Go.Ts
def tabL (V : Value) : List (Int × Value) := [(97, .func (.func 37) #[V] #[]), (110, .func (.func 38) #[V] #[]), (113, .func (.func 39) #[V] #[]), (115, .func (.func 40) #[V] #[]), (119, .func (.func 41) #[V] #[]), (120, .func (.func 42) #[V] #[])]
set_option maxRecDepth 100000 in
set_option maxHeartbeats 8000000 in
theorem tables_any (rb : Nat) (w : World) : Calls Tryd.prog 23 #[.pointer (some ⟨rb, 0, none⟩)] w fun e w' => ∃ b, e = .returned (.map (some b)) ∧ KB w' b (tabL (.pointer (some ⟨rb, 0, none⟩))) ∧ Below w.heap.size w w' ∧ w.heap.size ≤ b := by
  have hmf : ∀ (fn : Fn) (first cap : Array Value) (w : World), (Instr.makeFunc fn first cap).run Tryd.prog w = .ok (.func fn first cap) w := fun _ _ _ _ => rfl
  have hmm : ∀ w : World, (Instr.makeMap 52 none).run Tryd.prog w = .ok (.map (some w.heap.size)) (w.alloc (.map #[] 0)) := fun w => run_makeMap _ w
  have HK := Lib.hid (KB.new w)
  have HB := Lib.hid ((Below.refl w.heap.size w).alloc (Nat.le_refl _) (.map #[] 0))
  go_enter Tryd.func23, Tryd.ntmps23
  go_wp2_with (refine wpList_insert_kb _ rfl (.tmp 3) _ _ 52 rfl 54 Tryd.underlying52 Tryd.underlying5 _ _ rfl HK.out _ _ rfl rfl (by simp) ?_; intro v1 hk hg; have hb := HB.out.grown hg HB.out.size (fun k e => by cases e; exact Nat.le_refl _); clear HK HB hg; have HK := Lib.hid hk; have HB := Lib.hid hb; clear hk hb)
  go_ret
  exact ⟨_, rfl, HK.out, HB.out, Nat.le_refl _⟩
end Go.Proofs.YtmdkonfmbbbepaaDoor
