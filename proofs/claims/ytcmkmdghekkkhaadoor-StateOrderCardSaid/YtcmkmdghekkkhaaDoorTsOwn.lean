/-
  Words for a row of subscriptions of the call's own (layer state). No program but the seat's types.
-/
import Derived.Test.YtcmkmdghekkkhaaDoorTsFindM
import Derived.RangeFuncBox
set_option linter.unusedVariables false
namespace Go.Proofs.YtcmkmdghekkkhaaDoor
open Go.RowKit Go.Rst Go.Tp Go.Ts
theorem infoSub : (Tryd.prog.info? 35).map (fun i => (i.zero, i.size, i.bytes)) = some (some (.agg #[.int .i64 0, .string .empty, .string .empty, .string .empty, .int .i64 0, .int .i64 0, .int .i64 0, .slice none 0 0, .slice none 0 0, .string .empty]), 10, 144) := by kernel_rfl
/-- A row of the call's own that holds subscriptions, each as it read in the world w. -/
def OS (w : World) (base : Nat) (wr : World) (v : Value) (ys : List Sub) : Prop := ∃ css : List (List Value), wr.ownsRow base 35 10 v ys.length css.flatten ∧ css.length = ys.length ∧ ∀ j (h1 : j < ys.length) (h2 : j < css.length), CS w ys[j] css[j]
theorem cs_len {w : World} {x : Sub} {cs : List Value} (h : CS w x cs) : cs.length = 10 := by obtain ⟨av, qv, rfl, _⟩ := h; rfl
theorem OS.nil_ (w : World) (base : Nat) (wr : World) : OS w base wr (.slice none 0 0) [] := ⟨[], World.ownsRow_nil _ _ _ _, rfl, fun j h => by simp at h⟩
theorem OS.rl {w : World} {base : Nat} {wr : World} {v : Value} {ys : List Sub} (h : OS w base wr v ys) : RSo w wr v ys := by
  obtain ⟨css, ho, hl, hc⟩ := h
  refine RL.own ho hl (fun cs hcs => ?_) (fun j h1 h2 => hc j h1 h2)
  obtain ⟨j, hj, rfl⟩ := List.getElem_of_mem hcs
  exact cs_len (hc j (by omega) hj)
theorem OS.push {w : World} {base : Nat} {w2 : World} {v2 : Value} {ys : List Sub} {y : Sub} {cs : List Value} {css : List (List Value)} (hl : css.length = ys.length) (hc : ∀ j (h1 : j < ys.length) (h2 : j < css.length), CS w ys[j] css[j]) (hy : CS w y cs)
    (ho : w2.ownsRow base 35 10 v2 (ys.length + 1) (css.flatten ++ cs)) : OS w base w2 v2 (ys ++ [y]) := by
  refine ⟨css ++ [cs], by rw [List.length_append, List.flatten_append]; simpa using ho, by simp [hl], fun j h1 h2 => ?_⟩
  by_cases hj : j < ys.length
  · rw [List.getElem_append_left hj, List.getElem_append_left (by omega)]; exact hc j hj (by omega)
  · have e : j = ys.length := by simp at h1; omega
    subst e
    rw [List.getElem_append_right (Nat.le_refl _), List.getElem_append_right (by omega)]
    simp only [hl, Nat.sub_self, List.getElem_cons_zero]
    exact hy
theorem OS.shape {w : World} {base : Nat} {wr : World} {v : Value} {ys : List Sub} (h : OS w base wr v ys) : ∃ A c, v = .slice A ys.length c ∧ ys.length ≤ c := by
  obtain ⟨css, ho, _⟩ := h; exact own_shape ho
theorem grown_cell (W : World) (b i : Nat) (v : Value) : W.grownBy (W.setCell ⟨b, i, none⟩ v) (some b) :=
  ⟨rfl, rfl, rfl, (KeepsWalks.setCell W _ v).size, fun k _ hk => Below.heap_setCell _ _ _ k (fun e => hk (by rw [e]))⟩
theorem grown_row (W : World) (b : Nat) (cs : Array Value) : W.grownBy (W.setRow b cs) (some b) :=
  ⟨rfl, rfl, rfl, by simp, fun k _ hk => setRow_other W b k cs (fun e => hk (by rw [e]))⟩
theorem OS.kept {w : World} {base : Nat} {wr w2 : World} {v : Value} {ys : List Sub} {g : Nat} (h : OS w base wr v ys) (hg : wr.grownBy w2 (some g)) (hb : g < base) : OS w base w2 v ys := by
  obtain ⟨css, ho, hl, hc⟩ := h
  refine ⟨css, ho.kept hg ?_, hl, hc⟩
  rcases ho.2 with ⟨rfl, _⟩ | ⟨k, cap, cur, rfl, hk, _⟩
  · exact .inl rfl
  · refine .inr fun e => ?_
    have : g = k := by simpa [Value.ownBlock] using e.symm
    omega
end Go.Proofs.YtcmkmdghekkkhaaDoor
