/-
  Words for a row of subscriptions of the call's own (layer state). No program but the seat's types.; Words for slices of structs in blocks of a known kind, kept while rows of another kind grow (layer state). No program but the seat's types.; Words for what is settled, rows of ints of the call's own (layer state). No program but the seat's types.; The contracts of slices.Clone of numbers and of messages, and of the program's own (layer state).; Words for rows of messages of the call's own, and for rows beside each other (layer state). No program but the seat's types.
-/
import Derived.RangeFuncBox
import Derived.Test.YtmdkonfmbbbepaaDoorKUBG
set_option linter.unusedVariables false
set_option linter.unusedVariables false
namespace Go.Proofs.YtmdkonfmbbbepaaDoor
open Go.RowKit Go.Rst Go.Tp Go.Ts
def OS (w : World) (base : Nat) (wr : World) (v : Value) (ys : List Sub) : Prop := ∃ css : List (List Value), wr.ownsRow base 27 10 v ys.length css.flatten ∧ css.length = ys.length ∧ ∀ j (h1 : j < ys.length) (h2 : j < css.length), CS w ys[j] css[j]
theorem cs_len {w : World} {x : Sub} {cs : List Value} (h : CS w x cs) : cs.length = 10 := by obtain ⟨av, qv, rfl, _⟩ := h; rfl
theorem OS.nil_ (w : World) (base : Nat) (wr : World) : OS w base wr (.slice none 0 0) [] := ⟨[], World.ownsRow_nil _ _ _ _, rfl, fun j h => by simp at h⟩
theorem OS.rl {w : World} {base : Nat} {wr : World} {v : Value} {ys : List Sub} (h : OS w base wr v ys) : RSo w wr v ys := by
  obtain ⟨css, ho, hl, hc⟩ := h
  refine RL.own ho hl (fun cs hcs => ?_) (fun j h1 h2 => hc j h1 h2)
  obtain ⟨j, hj, rfl⟩ := List.getElem_of_mem hcs
  exact cs_len (hc j (by omega) hj)
theorem OS.push {w : World} {base : Nat} {w2 : World} {v2 : Value} {ys : List Sub} {y : Sub} {cs : List Value} {css : List (List Value)} (hl : css.length = ys.length) (hc : ∀ j (h1 : j < ys.length) (h2 : j < css.length), CS w ys[j] css[j]) (hy : CS w y cs)
    (ho : w2.ownsRow base 27 10 v2 (ys.length + 1) (css.flatten ++ cs)) : OS w base w2 v2 (ys ++ [y]) := by
  refine ⟨css ++ [cs], by rw [List.length_append, List.flatten_append]; simpa using ho, by simp [hl], fun j h1 h2 => ?_⟩
  by_cases hj : j < ys.length
  · rw [List.getElem_append_left hj, List.getElem_append_left (by omega)]; exact hc j hj (by omega)
  · have e : j = ys.length := by simp at h1; omega
    subst e
    rw [List.getElem_append_right (Nat.le_refl _), List.getElem_append_right (by omega)]
    simp only [hl, Nat.sub_self, List.getElem_cons_zero]
    exact hy
theorem OS.shape {w : World} {base : Nat} {wr : World} {v : Value} {ys : List Sub} (h : OS w base wr v ys) : ∃ A c, v = .slice A ys.length c ∧ ys.length ≤ c := by
  obtain ⟨css, ho, _⟩ := h; exact own_shape ho
theorem grown_cell (W : World) (b i : Nat) (v : Value) : W.grownBy (W.setCell ⟨b, i, none⟩ v) (some b) :=
  ⟨rfl, rfl, rfl, (KeepsWalks.setCell W _ v).size, fun k _ hk => Below.heap_setCell _ _ _ k (fun e => hk (by rw [e]))⟩
theorem grown_row (W : World) (b : Nat) (cs : Array Value) : W.grownBy (W.setRow b cs) (some b) :=
  ⟨rfl, rfl, rfl, by simp, fun k _ hk => setRow_other W b k cs (fun e => hk (by rw [e]))⟩
theorem OS.kept {w : World} {base : Nat} {wr w2 : World} {v : Value} {ys : List Sub} {g : Nat} (h : OS w base wr v ys) (hg : wr.grownBy w2 (some g)) (hb : g < base) : OS w base w2 v ys := by
  obtain ⟨css, ho, hl, hc⟩ := h
  refine ⟨css, ho.kept hg ?_, hl, hc⟩
  rcases ho.2 with ⟨rfl, _⟩ | ⟨k, cap, cur, rfl, hk, _⟩
  · exact .inl rfl
  · refine .inr fun e => ?_
    have : g = k := by simpa [Value.ownBlock] using e.symm
    omega
end Go.Proofs.YtmdkonfmbbbepaaDoor
set_option linter.unusedVariables false
namespace Go.Ts
open Go Go.RowKit Go.Rst Go.Tp
section
variable {α : Type} {sz : Nat} {C : World → α → List Value → Prop}
def RLt (t : TypeId) (sz : Nat) (C : World → α → List Value → Prop) (w : World) (v : Value) (xs : List α) : Prop :=
  RL sz C w v xs ∧ (xs = [] ∨ ∃ b off c cur, v = .slice (some ⟨b, off, none⟩) xs.length c ∧ w.heap[b]? = some (.cells cur t (0, 0)))
def Fixed (C : World → α → List Value → Prop) : Prop := ∀ w w' x cs, C w x cs → C w' x cs
theorem cells_block {w w' : World} {b off : Nat} {cs : List Value} (h : CellsAt w b off cs) (hb : w'.heap[b]? = w.heap[b]?) : CellsAt w' b off cs := fun i hi => by
  rw [← h i hi]
  simp only [World.cell?, hb]
theorem RLt.grown (hC : Fixed C) {t : TypeId} {w w' : World} {v : Value} {xs : List α} {row : Option Nat} (h : RLt t sz C w v xs) (hg : w.grownBy w' row) (hne : ∀ g, row = some g → ∃ cur t', w.heap[g]? = some (.cells cur t' (0, 0)) ∧ t' ≠ t) : RLt t sz C w' v xs := by
  obtain ⟨⟨A, c, h1, h2, h3, h4⟩, h5⟩ := h
  rcases h5 with h5 | ⟨b, off, c2, cur, h6, h7⟩
  · subst h5
    exact ⟨⟨A, c, h1, h2, h3, .inl rfl⟩, .inl rfl⟩
  · have hbn : some b ≠ row := by
      intro e
      obtain ⟨cur', t', h8, h9⟩ := hne b e.symm
      rw [h7] at h8
      injection h8 with h8
      injection h8 with _ h8 _
      exact h9 h8.symm
    have hb := (Array.getElem?_eq_some_iff.1 h7).1
    have hk := hg.block b hb hbn
    refine ⟨⟨A, c, h1, h2, h3, ?_⟩, .inr ⟨b, off, c2, cur, h6, hk.trans h7⟩⟩
    rcases h4 with h4 | ⟨b2, off2, h9, h10, h11⟩
    · exact .inl h4
    · rw [h6] at h1
      injection h1 with e1 _ _
      rw [h9] at e1
      injection e1 with e1
      injection e1 with e1 e2 _
      subst e1
      refine .inr ⟨b, off2, h9, Nat.lt_of_lt_of_le h10 hg.size, fun j hj => ?_⟩
      obtain ⟨cs, h12, h13⟩ := h11 j hj
      exact ⟨cs, hC _ _ _ _ h12, cells_block h13 hk⟩
theorem RLt.below (hC : Fixed C) {t : TypeId} {w w' : World} {v : Value} {xs : List α} (h : RLt t sz C w v xs) (hb : Below w.heap.size w w') : RLt t sz C w' v xs :=
  h.grown hC (row := none) ⟨hb.os, hb.tape, hb.output, hb.size, fun k hk _ => hb.block k hk⟩ (fun g e => by cases e)
theorem RLt.rl {t : TypeId} {w : World} {v : Value} {xs : List α} (h : RLt t sz C w v xs) : RL sz C w v xs := h.1
theorem RLt.nil_ (t : TypeId) (w : World) (A : Option Addr) (c : Nat) (hc : c ≤ maxLen) : RLt t sz C w (.slice A 0 c) [] := ⟨RL.nil_ w A c hc, .inl rfl⟩
theorem RLt.own {w : World} {base : Nat} {e : TypeId} {v : Value} {xs : List α} {css : List (List Value)} (h : w.ownsRow base e sz v xs.length css.flatten) (hl : css.length = xs.length) (hsz : ∀ cs ∈ css, cs.length = sz)
    (hC : ∀ j (h1 : j < xs.length) (h2 : j < css.length), C w xs[j] css[j]) : RLt e sz C w v xs := by
  refine ⟨RL.own h hl hsz hC, ?_⟩
  rcases h.2 with ⟨rfl, h0⟩ | ⟨g, cap, cur, rfl, hb, hg, hle, hcap, hcs, htk⟩
  · exact .inl (List.eq_nil_of_length_eq_zero h0)
  · exact .inr ⟨g, 0, cap, cur, rfl, hg⟩
end
theorem fixed_ci : Fixed CI := fun _ _ _ _ h => h
theorem fixed_cm : Fixed CM := fun _ _ _ _ h => h
end Go.Ts
namespace Go.Proofs.YtmdkonfmbbbepaaDoor
open Go.RowKit Go.Rst Go.Tp Go.Ts
def CN (w : World) (x : Sub) (cs : List Value) : Prop := ∃ av qv, cs = subC x av qv ∧ RLt 3 1 CI w av x.acks ∧ RLt 45 8 CM w qv x.queue
theorem CN.cs {w : World} {x : Sub} {cs : List Value} (h : CN w x cs) : CS w x cs := let ⟨av, qv, h1, h2, h3⟩ := h; ⟨av, qv, h1, h2.rl, h3.rl⟩
theorem CN.grown {w w' : World} {x : Sub} {cs : List Value} {row : Option Nat} (h : CN w x cs) (hg : w.grownBy w' row) (hne : ∀ g, row = some g → ∃ cur, w.heap[g]? = some (.cells cur 27 (0, 0))) : CN w' x cs := by
  obtain ⟨av, qv, h1, h2, h3⟩ := h
  exact ⟨av, qv, h1, h2.grown fixed_ci hg (fun g e => let ⟨cur, hc⟩ := hne g e; ⟨cur, _, hc, by decide⟩), h3.grown fixed_cm hg (fun g e => let ⟨cur, hc⟩ := hne g e; ⟨cur, _, hc, by decide⟩)⟩
theorem CN.below {w w' : World} {x : Sub} {cs : List Value} (h : CN w x cs) (hb : Below w.heap.size w w') : CN w' x cs := by
  obtain ⟨av, qv, h1, h2, h3⟩ := h
  exact ⟨av, qv, h1, h2.below fixed_ci hb, h3.below fixed_cm hb⟩
def ON (base : Nat) (wr : World) (v : Value) (ys : List Sub) : Prop := ∃ css : List (List Value), wr.ownsRow base 27 10 v ys.length css.flatten ∧ css.length = ys.length ∧ ∀ j (h1 : j < ys.length) (h2 : j < css.length), CN wr ys[j] css[j]
theorem ON.nil_ (base : Nat) (wr : World) : ON base wr (.slice none 0 0) [] := ⟨[], World.ownsRow_nil _ _ _ _, rfl, fun j h => by simp at h⟩
theorem ON.rs {base : Nat} {wr : World} {v : Value} {ys : List Sub} (h : ON base wr v ys) : RS wr v ys := by
  obtain ⟨css, ho, hl, hc⟩ := h
  refine RL.own ho hl (fun cs hcs => ?_) (fun j h1 h2 => (hc j h1 h2).cs)
  obtain ⟨j, hj, rfl⟩ := List.getElem_of_mem hcs
  exact cs_len (hc j (by omega) hj).cs
theorem ON.shape {base : Nat} {wr : World} {v : Value} {ys : List Sub} (h : ON base wr v ys) : ∃ A c, v = .slice A ys.length c ∧ ys.length ≤ c := by
  obtain ⟨css, ho, _⟩ := h; exact own_shape ho
theorem row_kind {w : World} {base : Nat} {e : TypeId} {sz : Nat} {v : Value} {n : Nat} {xs : List Value} (h : w.ownsRow base e sz v n xs) : ∀ g, v.ownBlock = some g → ∃ cur, w.heap[g]? = some (.cells cur e (0, 0)) := by
  intro g hg
  rcases h.2 with ⟨rfl, h0⟩ | ⟨k, cap, cur, rfl, hb, hk, _⟩
  · cases hg
  · have : k = g := by simpa [Value.ownBlock] using hg
    subst this
    exact ⟨cur, hk⟩
theorem ON.push {base : Nat} {wr w2 : World} {v v2 : Value} {ys : List Sub} {y : Sub} {cs : List Value} {css : List (List Value)} (ho0 : wr.ownsRow base 27 10 v ys.length css.flatten) (hl : css.length = ys.length)
    (hc : ∀ j (h1 : j < ys.length) (h2 : j < css.length), CN wr ys[j] css[j]) (hy : CN wr y cs)
    (ho : w2.ownsRow base 27 10 v2 (ys.length + 1) (css.flatten ++ cs)) (hg : wr.grownBy w2 v.ownBlock) : ON base w2 v2 (ys ++ [y]) := by
  have hk := row_kind ho0
  refine ⟨css ++ [cs], by rw [List.length_append, List.flatten_append]; simpa using ho, by simp [hl], fun j h1 h2 => ?_⟩
  by_cases hj : j < ys.length
  · rw [List.getElem_append_left hj, List.getElem_append_left (by omega)]; exact (hc j hj (by omega)).grown hg hk
  · have e : j = ys.length := by simp at h1; omega
    subst e
    rw [List.getElem_append_right (Nat.le_refl _), List.getElem_append_right (by omega)]
    simp only [hl, Nat.sub_self, List.getElem_cons_zero]
    exact hy.grown hg hk
theorem ON.below {base : Nat} {wr w2 : World} {v : Value} {ys : List Sub} (h : ON base wr v ys) (hb : Below wr.heap.size wr w2) : ON base w2 v ys := by
  obtain ⟨css, ho, hl, hc⟩ := h
  exact ⟨css, own_below ho hb, hl, fun j h1 h2 => (hc j h1 h2).below hb⟩
theorem ON.kept {base : Nat} {wr w2 : World} {v : Value} {ys : List Sub} {g : Nat} (h : ON base wr v ys) (hg : wr.grownBy w2 (some g)) (hb : g < base) (hk : ∃ cur t', wr.heap[g]? = some (.cells cur t' (0, 0)) ∧ t' ≠ 3 ∧ t' ≠ 45) : ON base w2 v ys := by
  obtain ⟨css, ho, hl, hc⟩ := h
  refine ⟨css, ho.kept hg ?_, hl, fun j h1 h2 => ?_⟩
  · rcases ho.2 with ⟨rfl, _⟩ | ⟨k, cap, cur, rfl, hk, _⟩
    · exact .inl rfl
    · refine .inr fun e => ?_
      have : g = k := by simpa [Value.ownBlock] using e.symm
      omega
  · obtain ⟨av, qv, h1, h2, h3⟩ := hc j h1 h2
    obtain ⟨cur, t', hk1, hk2, hk3⟩ := hk
    exact ⟨av, qv, h1, h2.grown fixed_ci hg (fun g' e => by cases e; exact ⟨cur, t', hk1, hk2⟩), h3.grown fixed_cm hg (fun g' e => by cases e; exact ⟨cur, t', hk1, hk3⟩)⟩
end Go.Proofs.YtmdkonfmbbbepaaDoor
set_option linter.unusedVariables false
namespace Go.Ts
end Go.Ts
namespace Go.Proofs.YtmdkonfmbbbepaaDoor
open Go.RowKit Go.Rst Go.Tp Go.Ts
theorem infoNum : (Tryd.prog.info? 3).map (fun i => (i.zero, i.size, i.bytes)) = some (some (.int .i64 0), 1, 8) := by kernel_rfl
def iv (n : Int) : Value := .int .i64 n
def OI (base : Nat) (wr : World) (v : Value) (ys : List Int) : Prop := wr.ownsRow base 3 1 v ys.length (ys.map iv)
theorem OI.nil_ (base : Nat) (wr : World) : OI base wr (.slice none 0 0) [] := World.ownsRow_nil _ _ _ _
theorem OI.rl {base : Nat} {wr : World} {v : Value} {ys : List Int} (h : OI base wr v ys) : RI wr v ys := by
  have e : (ys.map fun n => [iv n]).flatten = ys.map iv := by
    induction ys with
    | nil => rfl
    | cons a l ih =>
      have : ∀ l : List Int, (l.map fun n => [iv n]).flatten = l.map iv := fun l => by induction l with
        | nil => rfl
        | cons a l ih => simp [ih]
      exact this _
  unfold OI at h
  rw [← e] at h
  refine RL.own h (by simp) (fun cs hcs => ?_) (fun j h1 h2 => ?_)
  · obtain ⟨n, _, rfl⟩ := List.mem_map.1 hcs; rfl
  · rw [List.getElem_map]; rfl
theorem OI.kept {base : Nat} {wr w2 : World} {v : Value} {ys : List Int} {g : Nat} (h : OI base wr v ys) (hg : wr.grownBy w2 (some g)) (hb : g < base) : OI base w2 v ys := by
  refine World.ownsRow.kept h hg ?_
  rcases h.2 with ⟨rfl, _⟩ | ⟨k, cap, cur, rfl, hk, _⟩
  · exact .inl rfl
  · refine .inr fun e => ?_
    have : g = k := by simpa [Value.ownBlock] using e.symm
    omega
end Go.Proofs.YtmdkonfmbbbepaaDoor
set_option linter.unusedVariables false
namespace Go.Ts
open Go Go.RowKit Go.Rst Go.Tp
theorem msg_one (m : Msg) : ∀ u ∈ msgC m, u.oneCell' = true := by
  intro u hu
  simp only [msgC, List.mem_cons, List.not_mem_nil, or_false] at hu
  rcases hu with rfl | rfl | rfl | rfl | rfl | rfl | rfl | rfl <;> rfl
theorem rlt_msgs {w : World} {base : Nat} {e : TypeId} {v : Value} {xs : List Msg} (h : w.ownsRow base e 8 v xs.length (xs.map msgC).flatten) : RLt e 8 CM w v xs := by
  refine RLt.own h (by simp) (fun cs hcs => ?_) (fun j h1 h2 => ?_)
  · obtain ⟨n, _, rfl⟩ := List.mem_map.1 hcs; rfl
  · rw [List.getElem_map]; rfl
end Go.Ts
namespace Go.Proofs.YtmdkonfmbbbepaaDoor
open Go.RowKit Go.Rst Go.Tp Go.Ts
theorem infoMsg : (Tryd.prog.info? 45).map (fun i => (i.zero, i.size, i.bytes)) = some (some (.agg #[.int .i64 0, .string .empty, .string .empty, .int .i64 0, .int .i64 0, .bool false, .string .empty, .int .i64 0]), 8, 88) := by kernel_rfl
end Go.Proofs.YtmdkonfmbbbepaaDoor
set_option linter.unusedVariables false
namespace Go.Proofs.YtmdkonfmbbbepaaDoor
open Go.RowKit Go.Rst Go.Tp Go.Ts
def OM (base : Nat) (wr : World) (v : Value) (xs : List Msg) : Prop := wr.ownsRow base 45 8 v xs.length (xs.map msgC).flatten
theorem OM.nil_ (base : Nat) (wr : World) : OM base wr (.slice none 0 0) [] := World.ownsRow_nil _ _ _ _
theorem OM.rl {base : Nat} {wr : World} {v : Value} {xs : List Msg} (h : OM base wr v xs) : RM wr v xs := (rlt_msgs h).rl
theorem own_two {w w' : World} {B B2 : Nat} {e1 e2 : TypeId} {s1 s2 n1 n2 : Nat} {v1 v2 : Value} {xs1 xs2 : List Value} (h1 : w.ownsRow B e1 s1 v1 n1 xs1) (h2 : w.ownsRow B2 e2 s2 v2 n2 xs2) (hne : e1 ≠ e2) (hg : w.grownBy w' v2.ownBlock) : w'.ownsRow B e1 s1 v1 n1 xs1 := by
  cases hb : v2.ownBlock with
  | none => rw [hb] at hg; exact own_below h1 ⟨hg.os, hg.tape, hg.output, hg.size, fun k hk => hg.block k hk (by simp)⟩
  | some g =>
    obtain ⟨cur, hc⟩ := row_kind h2 g hb
    rw [hb] at hg
    refine h1.kept hg ?_
    rcases h1.2 with ⟨rfl, _⟩ | ⟨k, cap, cur', rfl, hk, hk2, _⟩
    · exact .inl rfl
    · refine .inr fun e => ?_
      have : g = k := by simpa [Value.ownBlock] using e.symm
      subst this
      rw [hc] at hk2
      injection hk2 with hk2
      injection hk2 with _ hk2 _
      exact hne hk2.symm
theorem own_apart {w w' : World} {B : Nat} {e : TypeId} {s n : Nat} {v : Value} {xs : List Value} {g : Nat} (h : w.ownsRow B e s v n xs) (hg : w.grownBy w' (some g)) (hne : ∀ k, v.ownBlock = some k → k ≠ g) : w'.ownsRow B e s v n xs := by
  refine h.kept hg ?_
  rcases h.2 with ⟨rfl, _⟩ | ⟨k, cap, cur', rfl, hk, hk2, _⟩
  · exact .inl rfl
  · refine .inr fun e => ?_
    have : g = k := by simpa [Value.ownBlock] using e.symm
    exact hne k (by simp [Value.ownBlock]) this.symm
theorem own_lt {w : World} {B : Nat} {e : TypeId} {s n : Nat} {v : Value} {xs : List Value} (h : w.ownsRow B e s v n xs) : ∀ k, v.ownBlock = some k → k < w.heap.size := fun k hk => by
  obtain ⟨cur, hc⟩ := row_kind h k hk
  exact (Array.getElem?_eq_some_iff.1 hc).1
end Go.Proofs.YtmdkonfmbbbepaaDoor
