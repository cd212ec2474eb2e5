/-
  Words for slices that read as lists of structs: whatever the struct. No program, no condition.
-/
import Derived.Laws.OwnMore
import Derived.Test.YtmdkonfmbbbepaaDoorKUB
set_option linter.unusedVariables false
set_option linter.unusedVariables false
namespace Go.Ts
open Go Go.RowKit Go.Rst Go.Tp
def CellsAt (w : World) (b off : Nat) (cs : List Value) : Prop := ∀ i (h : i < cs.length), w.cell? ⟨b, off + i, none⟩ = some cs[i]
theorem CellsAt.below {w w' : World} {b off : Nat} {cs : List Value} (h : CellsAt w b off cs) (hb : b < w.heap.size) (hw : Below w.heap.size w w') : CellsAt w' b off cs := fun i hi => (hw.cell (p := ⟨b, off + i, none⟩) hb).trans (h i hi)
section
variable {α : Type} {sz : Nat} {C : World → α → List Value → Prop}
def RL (sz : Nat) (C : World → α → List Value → Prop) (w : World) (v : Value) (xs : List α) : Prop :=
  ∃ A c, v = .slice A xs.length c ∧ xs.length ≤ c ∧ c ≤ maxLen ∧ (xs = [] ∨ ∃ b off, A = some ⟨b, off, none⟩ ∧ b < w.heap.size ∧ ∀ j (h : j < xs.length), ∃ cs, C w xs[j] cs ∧ CellsAt w b (off + j * sz) cs)
def Stays (C : World → α → List Value → Prop) : Prop := ∀ w w' x cs, C w x cs → Below w.heap.size w w' → C w' x cs
theorem RL.below (hC : Stays C) {w w' : World} {v : Value} {xs : List α} (h : RL sz C w v xs) (hb : Below w.heap.size w w') : RL sz C w' v xs := by
  obtain ⟨A, c, h1, h2, h3, h4⟩ := h
  refine ⟨A, c, h1, h2, h3, ?_⟩
  rcases h4 with h4 | ⟨b, off, h5, h6, h7⟩
  · exact .inl h4
  · exact .inr ⟨b, off, h5, Nat.lt_of_lt_of_le h6 hb.size, fun j hj => let ⟨cs, h8, h9⟩ := h7 j hj; ⟨cs, hC _ _ _ _ h8 hb, h9.below h6 hb⟩⟩
theorem RL.shape {w : World} {v : Value} {xs : List α} (h : RL sz C w v xs) : ∃ A c, v = .slice A xs.length c ∧ xs.length ≤ c ∧ c ≤ maxLen := let ⟨A, c, h1, h2, h3, _⟩ := h; ⟨A, c, h1, h2, h3⟩
theorem RL.at_ {w : World} {A : Option Addr} {n c : Nat} {xs : List α} (h : RL sz C w (.slice A n c) xs) {j : Nat} (hj : j < xs.length) :
    ∃ b off cs, A = some ⟨b, off, none⟩ ∧ b < w.heap.size ∧ C w xs[j] cs ∧ CellsAt w b (off + j * sz) cs := by
  obtain ⟨A', c', h1, _, _, h4⟩ := h
  injection h1 with e1 e2 e3
  subst e1
  rcases h4 with h4 | ⟨b, off, h5, h6, h7⟩
  · subst h4; simp at hj
  · obtain ⟨cs, h8, h9⟩ := h7 j hj
    exact ⟨b, off, cs, h5, h6, h8, h9⟩
theorem RL.nil_ (w : World) (A : Option Addr) (c : Nat) (hc : c ≤ maxLen) : RL sz C w (.slice A 0 c) [] := ⟨A, c, rfl, Nat.zero_le _, hc, .inl rfl⟩
theorem flatten_get : ∀ (css : List (List Value)), (∀ cs ∈ css, cs.length = sz) → ∀ j (hj : j < css.length) i (hi : i < css[j].length), css.flatten[j * sz + i]? = some css[j][i]
  | cs :: css, h, 0, _, i, hi => by
    rw [List.flatten_cons, Nat.zero_mul, Nat.zero_add]
    simp only [List.getElem_cons_zero] at hi ⊢
    rw [List.getElem?_append_left hi, List.getElem?_eq_getElem hi]
  | cs :: css, h, j + 1, hj, i, hi => by
    have hc := h cs List.mem_cons_self
    simp only [List.getElem_cons_succ] at hi ⊢
    rw [List.flatten_cons, List.getElem?_append_right (by rw [hc, Nat.add_mul]; omega), hc, show (j + 1) * sz + i - sz = j * sz + i by rw [Nat.add_mul]; omega]
    exact flatten_get css (fun x hx => h x (List.mem_cons_of_mem _ hx)) j (by simpa using hj) i hi
theorem RL.own {w : World} {base : Nat} {e : TypeId} {v : Value} {xs : List α} {css : List (List Value)} (h : w.ownsRow base e sz v xs.length css.flatten) (hl : css.length = xs.length) (hsz : ∀ cs ∈ css, cs.length = sz)
    (hC : ∀ j (h1 : j < xs.length) (h2 : j < css.length), C w xs[j] css[j]) : RL sz C w v xs := by
  have hh := h
  obtain ⟨h1, h2⟩ := h
  rcases h2 with ⟨rfl, h0⟩ | ⟨g, cap, cur, rfl, hb, hg, hle, hcap, hcs, htk⟩
  · have : xs = [] := List.eq_nil_of_length_eq_zero h0
    subst this
    exact RL.nil_ _ _ _ (Nat.zero_le _)
  · refine ⟨_, _, rfl, hle, hcap, .inr ⟨g, 0, rfl, (Array.getElem?_eq_some_iff.1 hg).1, fun j hj => ⟨css[j]'(by omega), hC j hj (by omega), fun i hi => ?_⟩⟩⟩
    have hz := hsz _ (List.getElem_mem (show j < css.length by omega))
    rw [Nat.zero_add, hh.cellAt (j * sz + i) ?_, flatten_get css hsz j (by omega) i hi]
    rw [hz] at hi
    have : (j + 1) * sz ≤ xs.length * sz := Nat.mul_le_mul_right _ (by omega)
    rw [Nat.add_mul] at this
    omega
theorem src_cells {P : Program} (w : World) {g : Nat} (hg : w.heap.size = g) {tx e' : TypeId} (hk : P.underlying tx = some (.slice e')) (e : TypeId) (cs : List Value) (h1 : ∀ u ∈ cs, u.oneCell' = true) : Src P cs.length tx (.slice (some ⟨g, 0, none⟩) 1 1) 1 cs (w.alloc (.cells cs.toArray e)) := by
  subst hg
  refine Src.ofSlice _ hk ⟨w.heap.size, 0, none⟩ 1 1 cs (by simp) (fun j x hj => ?_) h1
  obtain ⟨hj2, rfl⟩ := List.getElem?_eq_some_iff.1 hj
  rw [Addr.add_lit, Nat.zero_add, cell_of_row _ w.heap.size j cs.toArray e (0, 0) (heap_alloc_new w _)]
  simp [hj2]
end
def CI (_ : World) (n : Int) (cs : List Value) : Prop := cs = [.int .i64 n]
def msgC (m : Msg) : List Value := [.int .i64 m.seq, sv m.body, sv m.attr, .int .i64 m.tries, .int .i64 m.til, .bool m.dead, sv m.why, .int .i64 m.prio]
def CM (_ : World) (m : Msg) (cs : List Value) : Prop := cs = msgC m
abbrev RI (w : World) (v : Value) (l : List Int) : Prop := RL 1 CI w v l
abbrev RM (w : World) (v : Value) (l : List Msg) : Prop := RL 8 CM w v l
def subC (x : Sub) (av qv : Value) : List Value := [.int .i64 x.id, sv x.name, sv x.topic, sv x.want, .int .i64 x.lease, .int .i64 x.most, .int .i64 x.floor, av, qv, sv x.note]
def CS (w : World) (x : Sub) (cs : List Value) : Prop := ∃ av qv, cs = subC x av qv ∧ RI w av x.acks ∧ RM w qv x.queue
abbrev RS (w : World) (v : Value) (l : List Sub) : Prop := RL 10 CS w v l
theorem stays_ci : Stays CI := fun _ _ _ _ h _ => h
theorem stays_cm : Stays CM := fun _ _ _ _ h _ => h
theorem stays_cs : Stays CS := fun _ _ _ _ h hb => let ⟨av, qv, h1, h2, h3⟩ := h; ⟨av, qv, h1, h2.below stays_ci hb, h3.below stays_cm hb⟩
abbrev RSo (w0 w : World) (v : Value) (l : List Sub) : Prop := RL 10 (fun _ x cs => CS w0 x cs) w v l
theorem RSo.rs {w0 w : World} {v : Value} {l : List Sub} (h : RSo w0 w v l) (hb : Below w0.heap.size w0 w) : RS w v l := by
  obtain ⟨A, c, h1, h2, h3, h4⟩ := h
  refine ⟨A, c, h1, h2, h3, ?_⟩
  rcases h4 with h4 | ⟨b, off, h5, h6, h7⟩
  · exact .inl h4
  · exact .inr ⟨b, off, h5, h6, fun j hj => let ⟨cs, h8, h9⟩ := h7 j hj; ⟨cs, stays_cs _ _ _ _ h8 hb, h9⟩⟩
end Go.Ts
