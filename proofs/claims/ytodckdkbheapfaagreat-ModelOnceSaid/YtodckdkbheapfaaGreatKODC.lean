/-
  Words for a map of numbers to values, that a call makes and asks by itself (layer model).; The contracts of the program's kinds (layer model).
-/
import Derived.MapKept
import Derived.Maps.Own
import Derived.Test.YtodckdkbheapfaaGreatKODA
set_option linter.unusedVariables false
set_option linter.unusedVariables false
set_option linter.unusedSimpArgs false
namespace Go.Proofs.YtodckdkbheapfaaGreat
open Go.RowKit Go.Rst Go.Tp Go.Ts Go.Md Go.MapKept
def KM (w : World) (b : Nat) (ks : List (Int × Value)) : Prop := ∃ es clk, w.heap[b]? = some (.map es clk) ∧ es.toList.map (fun e => (e.key, e.val)) = ks.map (fun p => (Value.int .i64 p.1, p.2))
theorem KM.new (w : World) : KM (w.alloc (.map #[] 0)) w.heap.size [] := ⟨#[], 0, (heap_alloc w _).1, rfl⟩
theorem KM.kept {w w' : World} {row : Option Nat} {b : Nat} {ks : List (Int × Value)} (h : KM w b ks) (hg : w.grownBy w' row) (hne : some b ≠ row) : KM w' b ks := by
  obtain ⟨es, clk, h1, h2⟩ := h
  exact ⟨es, clk, (hg.block b (Array.getElem?_eq_some_iff.1 h1).1 hne).trans h1, h2⟩
theorem KM.below {w w' : World} {b : Nat} {ks : List (Int × Value)} (h : KM w b ks) (hb : Below w.heap.size w w') : KM w' b ks := by
  obtain ⟨es, clk, h1, h2⟩ := h
  exact ⟨es, clk, (hb.block b (Array.getElem?_eq_some_iff.1 h1).1).trans h1, h2⟩
theorem findNow_km (k : Int) : ∀ (l : List MapEntry) (ks : List (Int × Value)) (i : Nat), l.map (fun e => (e.key, e.val)) = ks.map (fun p => (Value.int .i64 p.1, p.2)) →
    (((∀ p ∈ ks, p.1 ≠ k) ∧ Instr.findNow (.int .i64) (.int .i64 k) l i = some none) ∨ ∃ j v, Instr.findNow (.int .i64) (.int .i64 k) l i = some (some (j, v)) ∧ ks.lookup k = some v)
  | [], [], i, _ => .inl ⟨fun p hp => (by cases hp), rfl⟩
  | [], p :: ks, i, h => by simp at h
  | e :: l, [], i, h => by simp at h
  | e :: l, p :: ks, i, h => by
    simp only [List.map_cons, List.cons.injEq, Prod.mk.injEq] at h
    obtain ⟨⟨h1, h2⟩, h3⟩ := h
    by_cases hk : p.1 = k
    · right
      refine ⟨i, e.val, ?_, ?_⟩
      · unfold Instr.findNow
        rw [h1]
        simp [Instr.sameNow, hk]
      · rw [h2]
        simp [List.lookup, hk]
    · have hs : Instr.sameNow (.int .i64) (.int .i64 k) e.key = some false := by
        rw [h1]
        simp [Instr.sameNow]
        omega
      rcases findNow_km k l ks (i + 1) h3 with ⟨h4, h5⟩ | ⟨j, v, h4, h5⟩
      · left
        refine ⟨fun q hq => ?_, ?_⟩
        · rcases List.mem_cons.1 hq with rfl | hq
          · exact hk
          · exact h4 q hq
        · unfold Instr.findNow
          rw [hs]
          exact h5
      · right
        refine ⟨j, v, ?_, ?_⟩
        · unfold Instr.findNow
          rw [hs]
          exact h4
        · have hk2 : (k == p.1) = false := by simp; omega
          obtain ⟨p1, p2⟩ := p
          simp only [List.lookup]
          rw [hk2]
          exact h5
theorem lookup_none_km {k : Int} : ∀ {ks : List (Int × Value)}, (∀ p ∈ ks, p.1 ≠ k) → ks.lookup k = none
  | [], _ => rfl
  | (a, b) :: ks, h => by
    have h1 := h (a, b) List.mem_cons_self
    have hk2 : (k == a) = false := by simp at h1 ⊢; omega
    simp only [List.lookup]
    rw [hk2]
    exact lookup_none_km fun p hp => h p (List.mem_cons_of_mem _ hp)
theorem KM.put {P : Program} {t e : TypeId} {w : World} {b : Nat} {ks : List (Int × Value)} (h : KM w b ks) (ht : P.underlying t = some (.map 3 e)) (hi : P.underlying 3 = some (.int .i64)) {k : Int} (hk : ∀ p ∈ ks, p.1 ≠ k) (v : Value) :
    ∃ w', (Instr.mapUpdate t (.map (some b)) (.int .i64 k) v).run P w = .ok () w' ∧ KM w' b (ks ++ [(k, v)]) ∧ w.grownBy w' (some b) := by
  obtain ⟨es, clk, h1, h2⟩ := h
  have hf : Instr.findNow (.int .i64) (.int .i64 k) es.toList 0 = some none := by
    rcases findNow_km k es.toList ks 0 h2 with ⟨_, h3⟩ | ⟨j, u, _, h4⟩
    · exact h3
    · rw [lookup_none_km hk] at h4
      cases h4
  have hr : (Instr.mapUpdate t (.map (some b)) (.int .i64 k) v).run P w = .ok () { w with heap := w.heap.setIfInBounds b (.map (es.push { key := .int .i64 k, val := v, born := clk }) (clk + 1)) } := by
    unfold Instr.mapUpdate
    simp only [Sem.run_bind, run_underlying ht, Result.andThen, MapKept.run_getObj_map h1, run_checkKey (k := .int .i64 k) hi (by simp [IsKey]) false 9999, run_findKey hi hf, MapKept.run_setObj_map _ h1]
  refine ⟨_, hr, ⟨es.push { key := .int .i64 k, val := v, born := clk }, clk + 1, (heap_set h1).1, ?_⟩, ⟨rfl, rfl, rfl, by simp, fun i _ hi => (heap_set h1).2 i (fun e => hi (by rw [e]))⟩⟩
  rw [Array.toList_push, List.map_append, List.map_append, h2]
  rfl
theorem KM.get {P : Program} {t e : TypeId} {w : World} {b : Nat} {ks : List (Int × Value)} (h : KM w b ks) (ht : P.underlying t = some (.map 3 e)) (hi : P.underlying 3 = some (.int .i64)) {z : Value} (hz : (zeroValue e).run P w = .ok z w) (k : Int) :
    (Instr.lookup t (.map (some b)) (.int .i64 k) true).run P w = .ok (.tuple #[(ks.lookup k).getD z, .bool (ks.lookup k).isSome]) w := by
  obtain ⟨es, clk, h1, h2⟩ := h
  have hck := fun e => run_checkKey (w := w) (k := .int .i64 k) hi (by simp [IsKey]) e 9999
  rcases findNow_km k es.toList ks 0 h2 with ⟨h3, h4⟩ | ⟨j, u, h3, h4⟩
  · unfold Instr.lookup
    simp only [Sem.run_bind, run_underlying ht, Result.andThen, MapKept.run_getObj_map h1, Sem.run_pure, hck, run_findKey hi h4, hz, lookup_none_km h3]
    rfl
  · unfold Instr.lookup
    simp only [Sem.run_bind, run_underlying ht, Result.andThen, MapKept.run_getObj_map h1, Sem.run_pure, hck, run_findKey hi h3, h4]
    rfl
theorem wpList_insert_km {P : Program} (w : World) {ops : Array Oper} {rest : List Oper} {o : Oper} {a : Act} {Q : Exit → Act → World → Prop}
    (hg : o.guard = none) (m x v : Operand) (t : TypeId) (hop : o.op = Op.insert t m x v) (e : TypeId) (ht : P.underlying t = some (.map 3 e)) (hi : P.underlying 3 = some (.int .i64)) (b : Nat) (ks : List (Int × Value))
    (hm : a.eval m = .map (some b)) (hown : KM w b ks) (k : Int) (val : Value) (hx : a.eval x = .int .i64 k) (hv : a.eval v = val) (hk : ∀ p ∈ ks, p.1 ≠ k)
    (hK : ∀ w', KM w' b (ks ++ [(k, val)]) → w.grownBy w' (some b) → wpList P ops Q rest (a.put o.dst undef) w') :
    wpList P ops Q (o :: rest) a w := by
  refine wpList_plain hg fun K' hK' => ?_
  obtain ⟨w', hrun, r1, r2⟩ := hown.put ht hi hk val
  unfold Oper.wp
  simp [execOp, hop, hm, hx, hv, hrun, Result.andThen]
  exact hK' _ _ (hK w' r1 r2)
end Go.Proofs.YtodckdkbheapfaaGreat
set_option linter.unusedVariables false
set_option linter.unusedSimpArgs false
namespace Go.Proofs.YtodckdkbheapfaaGreat
open Go.RowKit Go.Rst Go.Tp Go.Ts Go.Md
def kindsL (V : Value) : List (Int × Value) := [(1, .func (.func 44) #[V] #[]), (2, .func (.func 45) #[V] #[]), (3, .func (.func 46) #[V] #[]), (4, .func (.func 47) #[V] #[]), (5, .func (.func 48) #[V] #[]), (6, .func (.func 49) #[V] #[]), (7, .func (.func 50) #[V] #[]), (8, .func (.func 51) #[V] #[]), (9, .func (.func 52) #[V] #[]), (10, .func (.func 53) #[V] #[]), (11, .func (.func 54) #[V] #[]), (12, .func (.func 55) #[V] #[])]
set_option maxRecDepth 100000 in
set_option maxHeartbeats 8000000 in
theorem kinds_any (AC : List Value) (hl : AC.length = 14) (h1 : AC.toArray.all (·.oneCell') = true) (w : World) :
    Calls Tryz.prog 34 #[.agg AC.toArray] w fun e w' => ∃ b, e = .returned (.map (some b)) ∧ KM w' b (kindsL (.agg AC.toArray)) ∧ Below w.heap.size w w' ∧ w.heap.size ≤ b := by
  have HAI := Lib.hid (show (Tryz.prog.info? 73).map (·.size) = some AC.length by rw [hl]; exact sizeA)
  have hw0 := Wh.new w AC 73
  have hb0 := (Below.refl w.heap.size w).alloc (Nat.le_refl _) (.cells AC.toArray 73)
  have HW0 := Lib.hid hw0
  have HB0 := Lib.hid hb0
  have hmf : ∀ (fn : Fn) (first cap : Array Value) (w : World), (Instr.makeFunc fn first cap).run Tryz.prog w = .ok (.func fn first cap) w := fun _ _ _ _ => rfl
  have hmm : ∀ w : World, (Instr.makeMap 71 none).run Tryz.prog w = .ok (.map (some w.heap.size)) (w.alloc (.map #[] 0)) := fun w => run_makeMap _ w
  clear hw0 hb0 hl h1
  have hr0 := HW0.out.alloc (.map #[] 0)
  have hk0 : KM ((w.alloc (.cells AC.toArray 73)).alloc (.map #[] 0)) (w.heap.size + 1) [] := by have := KM.new (w.alloc (.cells AC.toArray 73)); rwa [World.size_alloc] at this
  have HK := Lib.hid hk0
  clear hk0
  have HA := Lib.hid hr0
  have HB := Lib.hid (HB0.out.alloc (by simp) (.map #[] 0))
  have HN := Lib.hid (show w.heap.size ≤ w.heap.size + 1 ∧ w.heap.size ≠ w.heap.size + 1 from by omega)
  have HLA := Lib.hid hr0.range
  clear hr0 HW0 HB0
  go_enter Tryz.func34, Tryz.ntmps34
  go_wp2_with (first | (refine wpList_load_midG (by rfl) 73 (.tmp 1) rfl w.heap.size 0 rfl _ _ HLA.out Tryz.underlying73 rfl HAI.out ?_) | (refine wpList_insert_km _ rfl (.tmp 3) _ _ 71 rfl 69 Tryz.underlying71 Tryz.underlying3 _ _ rfl HK.out _ _ rfl rfl (by simp) ?_; intro v1 hk hg; have ha := HA.out.kept hg (by simp); have hb := below_grow HB.out hg (fun k e => by cases e; exact HN.out.1) (by have := HB.out.size; exact this); clear HK HA HB HLA; have HK := Lib.hid hk; have HA := Lib.hid ha; have HB := Lib.hid hb; have HLA := Lib.hid ha.range; clear hk ha hb hg) | fail)
  go_ret
  exact ⟨_, rfl, HK.out, HB.out, HN.out.1⟩
end Go.Proofs.YtodckdkbheapfaaGreat
