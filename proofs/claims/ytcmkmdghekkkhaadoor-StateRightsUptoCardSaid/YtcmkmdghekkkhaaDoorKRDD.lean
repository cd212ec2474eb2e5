/-
  The contracts of the program's closure in Settle, of slices.IndexFunc and slices.DeleteFunc of numbers with it (layer state).; The contract of the program's Settle (layer state).
-/
import Derived.Lib.SliceRun
import Derived.Lib.LazyBuf
import Derived.Laws.IdiomCopy
import Derived.Deep.Upon
import Derived.Handy
import Derived.Test.YtcmkmdghekkkhaaDoorKRBF
set_option linter.unusedVariables false
set_option linter.unusedVariables false
namespace Go.Ts
theorem up_all {F : Int} {l : List Int} (h : ∀ j (hj : j < l.length), F < l[j]) : upL F l = l := by
  unfold upL
  rw [List.filter_eq_self]
  intro n hn
  obtain ⟨j, hj, rfl⟩ := List.getElem_of_mem hn
  exact decide_eq_true (h j hj)
theorem up_first {F : Int} {l : List Int} {k : Nat} (hk : k < l.length) (h1 : l[k] ≤ F) (h2 : ∀ j (hj : j < l.length), j < k → F < l[j]) : upL F (l.take (k + 1)) = l.take k := by
  rw [upL_take hk, if_neg (by omega), List.append_nil]
  exact up_all (fun j hj => by
    rw [List.getElem_take]
    have : j < l.length := by rw [List.length_take] at hj; omega
    exact h2 j this (by rw [List.length_take] at hj; omega))
structure DelI (F : Int) (xs : List Int) (i j : Nat) (cs : List Value) : Prop where
  len : cs.length = xs.length
  ij : i < j
  jn : j ≤ xs.length
  up : i = (upL F (xs.take j)).length
  lo : ∀ k (h : k < (upL F (xs.take j)).length), cs[k]? = some (Value.int .i64 (upL F (xs.take j))[k])
  hi : ∀ k (h : k < xs.length), j ≤ k → cs[k]? = some (Value.int .i64 xs[k])
theorem DelI.start {F : Int} {xs : List Int} {k : Nat} (hk : k < xs.length) (h1 : xs[k] ≤ F) (h2 : ∀ j (hj : j < xs.length), j < k → F < xs[j]) : DelI F xs k (k + 1) (xs.map fun n => Value.int .i64 n) := by
  have hu := up_first hk h1 h2
  refine ⟨by simp, by omega, by omega, ?_, ?_, ?_⟩
  · rw [hu, List.length_take]; omega
  · intro m hm
    simp only [hu] at hm ⊢
    rw [List.length_take] at hm
    rw [List.getElem?_map, List.getElem?_eq_getElem (by omega), List.getElem_take]
    rfl
  · intro m hm _
    rw [List.getElem?_map, List.getElem?_eq_getElem hm]
    rfl
theorem DelI.skip {F : Int} {xs : List Int} {i j : Nat} {cs : List Value} (h : DelI F xs i j cs) (hj : j < xs.length) (hx : xs[j] ≤ F) : DelI F xs i (j + 1) cs := by
  have hu : upL F (xs.take (j + 1)) = upL F (xs.take j) := by rw [upL_take hj, if_neg (by omega), List.append_nil]
  have := h.ij
  exact ⟨h.len, by omega, by omega, by rw [hu]; exact h.up, by rw [hu]; exact h.lo, fun k hk hjk => h.hi k hk (by omega)⟩
theorem DelI.keep {F : Int} {xs : List Int} {i j : Nat} {cs : List Value} (h : DelI F xs i j cs) (hj : j < xs.length) (hx : F < xs[j]) : DelI F xs (i + 1) (j + 1) (cs.set i (Value.int .i64 xs[j])) := by
  have hu : upL F (xs.take (j + 1)) = upL F (xs.take j) ++ [xs[j]] := by rw [upL_take hj, if_pos hx]
  have h1 := h.ij
  have h2 := h.up
  have h3 := h.len
  refine ⟨by simp [h3], by omega, by omega, ?_, ?_, ?_⟩
  · rw [hu, List.length_append, ← h2]; rfl
  · intro k hk
    simp only [hu] at hk ⊢
    rw [List.length_append, List.length_singleton, ← h2] at hk
    rw [List.getElem?_set]
    by_cases e : i = k
    · subst e
      rw [if_pos rfl, if_pos (by omega), List.getElem_append_right (by omega)]
      simp
    · rw [if_neg e, List.getElem_append_left (by omega)]
      exact h.lo k (by omega)
  · intro k hk hjk
    rw [List.getElem?_set, if_neg (by omega)]
    exact h.hi k hk (by omega)
end Go.Ts
namespace Go.Proofs.YtcmkmdghekkkhaaDoor
open Go.RowKit Go.Rst Go.Tp Go.Ts
end Go.Proofs.YtcmkmdghekkkhaaDoor
set_option linter.unusedVariables false
namespace Go.Proofs.YtcmkmdghekkkhaaDoor
open Go.RowKit Go.Rst Go.Tp Go.Ts
theorem rl_block {α : Type} {sz : Nat} {C : World → α → List Value → Prop} (hC : Fixed C) {w w' : World} {v : Value} {xs : List α} (h : RL sz C w v xs) (hs : w.heap.size ≤ w'.heap.size) (hb : ∀ k, v.ownBlock = some k → w'.heap[k]? = w.heap[k]?) : RL sz C w' v xs := by
  obtain ⟨A, c, rfl, h2, h3, h4⟩ := h
  refine ⟨A, c, rfl, h2, h3, ?_⟩
  rcases h4 with h4 | ⟨b, off, rfl, h6, h7⟩
  · exact .inl h4
  · exact .inr ⟨b, off, rfl, Nat.lt_of_lt_of_le h6 hs, fun j hj => let ⟨cs, h8, h9⟩ := h7 j hj; ⟨cs, hC _ _ _ _ h8, cells_block h9 (hb b rfl)⟩⟩
end Go.Proofs.YtcmkmdghekkkhaaDoor
