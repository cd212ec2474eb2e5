/-
  Words for slices of structs in blocks of a known kind, kept while rows of another kind grow (layer state). No program but the seat's types.
-/
import Derived.Test.YtcmkmdghekkkhaaDoorTsOwn
set_option linter.unusedVariables false
namespace Go.Ts
open Go Go.RowKit Go.Rst Go.Tp
section
variable {α : Type} {sz : Nat} {C : World → α → List Value → Prop}
/-- A slice that reads as a list, and lies in a block of one kind, if it has any. -/
def RLt (t : TypeId) (sz : Nat) (C : World → α → List Value → Prop) (w : World) (v : Value) (xs : List α) : Prop :=
  RL sz C w v xs ∧ (xs = [] ∨ ∃ b off c cur, v = .slice (some ⟨b, off, none⟩) xs.length c ∧ w.heap[b]? = some (.cells cur t (0, 0)))
/-- What an element's cells are hangs on no world. -/
def Fixed (C : World → α → List Value → Prop) : Prop := ∀ w w' x cs, C w x cs → C w' x cs
theorem cells_block {w w' : World} {b off : Nat} {cs : List Value} (h : CellsAt w b off cs) (hb : w'.heap[b]? = w.heap[b]?) : CellsAt w' b off cs := fun i hi => by
  rw [← h i hi]
  simp only [World.cell?, hb]
theorem RLt.grown (hC : Fixed C) {t : TypeId} {w w' : World} {v : Value} {xs : List α} {row : Option Nat} (h : RLt t sz C w v xs) (hg : w.grownBy w' row) (hne : ∀ g, row = some g → ∃ cur t', w.heap[g]? = some (.cells cur t' (0, 0)) ∧ t' ≠ t) : RLt t sz C w' v xs := by
  obtain ⟨⟨A, c, h1, h2, h3, h4⟩, h5⟩ := h
  rcases h5 with h5 | ⟨b, off, c2, cur, h6, h7⟩
  · subst h5
    exact ⟨⟨A, c, h1, h2, h3, .inl rfl⟩, .inl rfl⟩
  · have hbn : some b ≠ row := by
      intro e
      obtain ⟨cur', t', h8, h9⟩ := hne b e.symm
      rw [h7] at h8
      injection h8 with h8
      injection h8 with _ h8 _
      exact h9 h8.symm
    have hb := (Array.getElem?_eq_some_iff.1 h7).1
    have hk := hg.block b hb hbn
    refine ⟨⟨A, c, h1, h2, h3, ?_⟩, .inr ⟨b, off, c2, cur, h6, hk.trans h7⟩⟩
    rcases h4 with h4 | ⟨b2, off2, h9, h10, h11⟩
    · exact .inl h4
    · rw [h6] at h1
      injection h1 with e1 _ _
      rw [h9] at e1
      injection e1 with e1
      injection e1 with e1 e2 _
      subst e1
      refine .inr ⟨b, off2, h9, Nat.lt_of_lt_of_le h10 hg.size, fun j hj => ?_⟩
      obtain ⟨cs, h12, h13⟩ := h11 j hj
      exact ⟨cs, hC _ _ _ _ h12, cells_block h13 hk⟩
theorem RLt.below (hC : Fixed C) {t : TypeId} {w w' : World} {v : Value} {xs : List α} (h : RLt t sz C w v xs) (hb : Below w.heap.size w w') : RLt t sz C w' v xs :=
  h.grown hC (row := none) ⟨hb.os, hb.tape, hb.output, hb.size, fun k hk _ => hb.block k hk⟩ (fun g e => by cases e)
theorem RLt.rl {t : TypeId} {w : World} {v : Value} {xs : List α} (h : RLt t sz C w v xs) : RL sz C w v xs := h.1
theorem RLt.nil_ (t : TypeId) (w : World) (A : Option Addr) (c : Nat) (hc : c ≤ maxLen) : RLt t sz C w (.slice A 0 c) [] := ⟨RL.nil_ w A c hc, .inl rfl⟩
theorem RLt.own {w : World} {base : Nat} {e : TypeId} {v : Value} {xs : List α} {css : List (List Value)} (h : w.ownsRow base e sz v xs.length css.flatten) (hl : css.length = xs.length) (hsz : ∀ cs ∈ css, cs.length = sz)
    (hC : ∀ j (h1 : j < xs.length) (h2 : j < css.length), C w xs[j] css[j]) : RLt e sz C w v xs := by
  refine ⟨RL.own h hl hsz hC, ?_⟩
  rcases h.2 with ⟨rfl, h0⟩ | ⟨g, cap, cur, rfl, hb, hg, hle, hcap, hcs, htk⟩
  · exact .inl (List.eq_nil_of_length_eq_zero h0)
  · exact .inr ⟨g, 0, cap, cur, rfl, hg⟩
end
theorem fixed_ci : Fixed CI := fun _ _ _ _ h => h
theorem fixed_cm : Fixed CM := fun _ _ _ _ h => h
end Go.Ts
namespace Go.Proofs.YtcmkmdghekkkhaaDoor
open Go.RowKit Go.Rst Go.Tp Go.Ts
/-- A subscription's cells, its own slices in blocks of their kinds. -/
def CN (w : World) (x : Sub) (cs : List Value) : Prop := ∃ av qv, cs = subC x av qv ∧ RLt 3 1 CI w av x.acks ∧ RLt 55 8 CM w qv x.queue
theorem CN.cs {w : World} {x : Sub} {cs : List Value} (h : CN w x cs) : CS w x cs := let ⟨av, qv, h1, h2, h3⟩ := h; ⟨av, qv, h1, h2.rl, h3.rl⟩
theorem CN.grown {w w' : World} {x : Sub} {cs : List Value} {row : Option Nat} (h : CN w x cs) (hg : w.grownBy w' row) (hne : ∀ g, row = some g → ∃ cur, w.heap[g]? = some (.cells cur 35 (0, 0))) : CN w' x cs := by
  obtain ⟨av, qv, h1, h2, h3⟩ := h
  exact ⟨av, qv, h1, h2.grown fixed_ci hg (fun g e => let ⟨cur, hc⟩ := hne g e; ⟨cur, _, hc, by decide⟩), h3.grown fixed_cm hg (fun g e => let ⟨cur, hc⟩ := hne g e; ⟨cur, _, hc, by decide⟩)⟩
theorem CN.below {w w' : World} {x : Sub} {cs : List Value} (h : CN w x cs) (hb : Below w.heap.size w w') : CN w' x cs := by
  obtain ⟨av, qv, h1, h2, h3⟩ := h
  exact ⟨av, qv, h1, h2.below fixed_ci hb, h3.below fixed_cm hb⟩
/-- A row of the call's own that holds subscriptions of the call's own. -/
def ON (base : Nat) (wr : World) (v : Value) (ys : List Sub) : Prop := ∃ css : List (List Value), wr.ownsRow base 35 10 v ys.length css.flatten ∧ css.length = ys.length ∧ ∀ j (h1 : j < ys.length) (h2 : j < css.length), CN wr ys[j] css[j]
theorem ON.nil_ (base : Nat) (wr : World) : ON base wr (.slice none 0 0) [] := ⟨[], World.ownsRow_nil _ _ _ _, rfl, fun j h => by simp at h⟩
theorem ON.rs {base : Nat} {wr : World} {v : Value} {ys : List Sub} (h : ON base wr v ys) : RS wr v ys := by
  obtain ⟨css, ho, hl, hc⟩ := h
  refine RL.own ho hl (fun cs hcs => ?_) (fun j h1 h2 => (hc j h1 h2).cs)
  obtain ⟨j, hj, rfl⟩ := List.getElem_of_mem hcs
  exact cs_len (hc j (by omega) hj).cs
theorem ON.shape {base : Nat} {wr : World} {v : Value} {ys : List Sub} (h : ON base wr v ys) : ∃ A c, v = .slice A ys.length c ∧ ys.length ≤ c := by
  obtain ⟨css, ho, _⟩ := h; exact own_shape ho
theorem row_kind {w : World} {base : Nat} {e : TypeId} {sz : Nat} {v : Value} {n : Nat} {xs : List Value} (h : w.ownsRow base e sz v n xs) : ∀ g, v.ownBlock = some g → ∃ cur, w.heap[g]? = some (.cells cur e (0, 0)) := by
  intro g hg
  rcases h.2 with ⟨rfl, h0⟩ | ⟨k, cap, cur, rfl, hb, hk, _⟩
  · cases hg
  · have : k = g := by simpa [Value.ownBlock] using hg
    subst this
    exact ⟨cur, hk⟩
theorem ON.push {base : Nat} {wr w2 : World} {v v2 : Value} {ys : List Sub} {y : Sub} {cs : List Value} {css : List (List Value)} (ho0 : wr.ownsRow base 35 10 v ys.length css.flatten) (hl : css.length = ys.length)
    (hc : ∀ j (h1 : j < ys.length) (h2 : j < css.length), CN wr ys[j] css[j]) (hy : CN wr y cs)
    (ho : w2.ownsRow base 35 10 v2 (ys.length + 1) (css.flatten ++ cs)) (hg : wr.grownBy w2 v.ownBlock) : ON base w2 v2 (ys ++ [y]) := by
  have hk := row_kind ho0
  refine ⟨css ++ [cs], by rw [List.length_append, List.flatten_append]; simpa using ho, by simp [hl], fun j h1 h2 => ?_⟩
  by_cases hj : j < ys.length
  · rw [List.getElem_append_left hj, List.getElem_append_left (by omega)]; exact (hc j hj (by omega)).grown hg hk
  · have e : j = ys.length := by simp at h1; omega
    subst e
    rw [List.getElem_append_right (Nat.le_refl _), List.getElem_append_right (by omega)]
    simp only [hl, Nat.sub_self, List.getElem_cons_zero]
    exact hy.grown hg hk
theorem ON.below {base : Nat} {wr w2 : World} {v : Value} {ys : List Sub} (h : ON base wr v ys) (hb : Below wr.heap.size wr w2) : ON base w2 v ys := by
  obtain ⟨css, ho, hl, hc⟩ := h
  exact ⟨css, own_below ho hb, hl, fun j h1 h2 => (hc j h1 h2).below hb⟩
theorem ON.kept {base : Nat} {wr w2 : World} {v : Value} {ys : List Sub} {g : Nat} (h : ON base wr v ys) (hg : wr.grownBy w2 (some g)) (hb : g < base) (hk : ∃ cur t', wr.heap[g]? = some (.cells cur t' (0, 0)) ∧ t' ≠ 3 ∧ t' ≠ 55) : ON base w2 v ys := by
  obtain ⟨css, ho, hl, hc⟩ := h
  refine ⟨css, ho.kept hg ?_, hl, fun j h1 h2 => ?_⟩
  · rcases ho.2 with ⟨rfl, _⟩ | ⟨k, cap, cur, rfl, hk, _⟩
    · exact .inl rfl
    · refine .inr fun e => ?_
      have : g = k := by simpa [Value.ownBlock] using e.symm
      omega
  · obtain ⟨av, qv, h1, h2, h3⟩ := hc j h1 h2
    obtain ⟨cur, t', hk1, hk2, hk3⟩ := hk
    exact ⟨av, qv, h1, h2.grown fixed_ci hg (fun g' e => by cases e; exact ⟨cur, t', hk1, hk2⟩), h3.grown fixed_cm hg (fun g' e => by cases e; exact ⟨cur, t', hk1, hk3⟩)⟩
end Go.Proofs.YtcmkmdghekkkhaaDoor
