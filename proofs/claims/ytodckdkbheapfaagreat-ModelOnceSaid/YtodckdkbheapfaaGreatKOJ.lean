/-
  A subscription that a call hands back, put into a box of its own (layer state). No program but the seat's types.; A state that a call hands back, put into a box of its own (layer state). No program but the seat's types.; What a state in a box is stored over, the subscriptions that are read stay as they read (layer state). No program but the seat's types.
-/
import Derived.Laws.Tables
import Derived.Test.YtodckdkbheapfaaGreatKOI
set_option linter.unusedVariables false
set_option linter.unusedVariables false
namespace Go.Proofs.YtodckdkbheapfaaGreat
open Go.RowKit Go.Rst Go.Tp Go.Ts
def boxW (w : World) (C : List Value) : World := (w.alloc (.cells #[.int .i64 0, .string ⟨#[]⟩, .string ⟨#[]⟩, .string ⟨#[]⟩, .int .i64 0, .int .i64 0, .int .i64 0, .slice none 0 0, .slice none 0 0, .string ⟨#[]⟩] 30)).setRow w.heap.size C.toArray
theorem box_def (w : World) (C : List Value) : (w.alloc (.cells #[.int .i64 0, .string ⟨#[]⟩, .string ⟨#[]⟩, .string ⟨#[]⟩, .int .i64 0, .int .i64 0, .int .i64 0, .slice none 0 0, .slice none 0 0, .string ⟨#[]⟩] 30)).setRow w.heap.size C.toArray = boxW w C := rfl
theorem box_below (w : World) (C : List Value) : Below w.heap.size w (boxW w C) := below_setRow ((Below.refl _ w).alloc (Nat.le_refl _) _) (Nat.le_refl _) _
theorem box_wh (w : World) (C : List Value) : Wh (boxW w C) w.heap.size C 30 := (Wh.new w [.int .i64 0, .string ⟨#[]⟩, .string ⟨#[]⟩, .string ⟨#[]⟩, .int .i64 0, .int .i64 0, .int .i64 0, .slice none 0 0, .slice none 0 0, .string ⟨#[]⟩] 30).set C
theorem box_size (w : World) (C : List Value) : (boxW w C).heap.size = w.heap.size + 1 := by simp [boxW]
theorem box_old (w : World) : Wh (w.alloc (.cells #[.int .i64 0, .string ⟨#[]⟩, .string ⟨#[]⟩, .string ⟨#[]⟩, .int .i64 0, .int .i64 0, .int .i64 0, .slice none 0 0, .slice none 0 0, .string ⟨#[]⟩] 30)) w.heap.size [.int .i64 0, .string ⟨#[]⟩, .string ⟨#[]⟩, .string ⟨#[]⟩, .int .i64 0, .int .i64 0, .int .i64 0, .slice none 0 0, .slice none 0 0, .string ⟨#[]⟩] 30 := Wh.new w [.int .i64 0, .string ⟨#[]⟩, .string ⟨#[]⟩, .string ⟨#[]⟩, .int .i64 0, .int .i64 0, .int .i64 0, .slice none 0 0, .slice none 0 0, .string ⟨#[]⟩] 30
structure Cub (C : List Value) : Prop where
  len : C.length = 10
  all : C.toArray.all (·.oneCell') = true
theorem Cub.mk_ (x : Sub) {av qv : Value} (ha : av.oneCell' = true) (hq : qv.oneCell' = true) : Cub (subC x av qv) := ⟨rfl, sub_all x ha hq⟩
theorem Cub.old {C : List Value} (h : Cub C) : (#[.int .i64 0, .string ⟨#[]⟩, .string ⟨#[]⟩, .string ⟨#[]⟩, .int .i64 0, .int .i64 0, .int .i64 0, .slice none 0 0, .slice none 0 0, .string ⟨#[]⟩] : Array Value).size = C.toArray.size := by simp [h.len]
theorem Cub.info {C : List Value} (h : Cub C) : (Tryz.prog.info? 30).map (·.size) = some C.toArray.size := by simp [h.len, size35]
theorem Cub.infoL {C : List Value} (h : Cub C) : (Tryz.prog.info? 30).map (·.size) = some C.length := by rw [h.len]; exact size35
end Go.Proofs.YtodckdkbheapfaaGreat
set_option linter.unusedVariables false
namespace Go.Proofs.YtodckdkbheapfaaGreat
open Go.RowKit Go.Rst Go.Tp Go.Ts
def boxT (w : World) (C : List Value) : World := (w.alloc (.cells #[.int .i64 0, .int .i64 0, .int .i64 0, .slice none 0 0] 25)).setRow w.heap.size C.toArray
theorem boxT_def (w : World) (C : List Value) : (w.alloc (.cells #[.int .i64 0, .int .i64 0, .int .i64 0, .slice none 0 0] 25)).setRow w.heap.size C.toArray = boxT w C := rfl
theorem boxT_below (w : World) (C : List Value) : Below w.heap.size w (boxT w C) := below_setRow ((Below.refl _ w).alloc (Nat.le_refl _) _) (Nat.le_refl _) _
theorem boxT_wh (w : World) (C : List Value) : Wh (boxT w C) w.heap.size C 25 := (Wh.new w [.int .i64 0, .int .i64 0, .int .i64 0, .slice none 0 0] 25).set C
theorem boxT_old (w : World) : Wh (w.alloc (.cells #[.int .i64 0, .int .i64 0, .int .i64 0, .slice none 0 0] 25)) w.heap.size [.int .i64 0, .int .i64 0, .int .i64 0, .slice none 0 0] 25 := Wh.new w _ _
structure Cut (C : List Value) : Prop where
  len : C.length = 4
  all : C.toArray.all (·.oneCell') = true
theorem Cut.mk_ (c n l : Int) {v : Value} (hv : v.oneCell' = true) : Cut (stC c n l v) := ⟨rfl, st_all c n l hv⟩
theorem Cut.old {C : List Value} (h : Cut C) : (#[.int .i64 0, .int .i64 0, .int .i64 0, .slice none 0 0] : Array Value).size = C.toArray.size := by simp [h.len]
theorem Cut.info {C : List Value} (h : Cut C) : (Tryz.prog.info? 25).map (·.size) = some C.toArray.size := by simp [h.len, size24]
theorem Cut.infoL {C : List Value} (h : Cut C) : (Tryz.prog.info? 25).map (·.size) = some C.length := by rw [h.len]; exact size24
end Go.Proofs.YtodckdkbheapfaaGreat
set_option linter.unusedVariables false
namespace Go.Proofs.YtodckdkbheapfaaGreat
open Go.RowKit Go.Rst Go.Tp Go.Ts
structure Kp (W W' : World) (b : Nat) : Prop where
  size : W.heap.size ≤ W'.heap.size
  other : ∀ k, k ≠ b → k < W.heap.size → W'.heap[k]? = W.heap[k]?
  four : ∀ off, 4 ≤ off → W.cell? ⟨b, off, none⟩ = none
theorem cells_kp {W W' : World} {b p off : Nat} {cs : List Value} (hk : Kp W W' b) (hp : p < W.heap.size) (h : CellsAt W p off cs) (hl : 5 ≤ cs.length) : CellsAt W' p off cs := by
  have hne : p ≠ b := by
    rintro rfl
    have := h 4 (by omega)
    rw [hk.four (off + 4) (by omega)] at this
    cases this
  exact cells_block h (hk.other p hne hp)
theorem ri_kp {W W' : World} {b : Nat} (hk : Kp W W' b) {v : Value} {l : List Int} (hI : ∀ n ∈ l, ∀ off, W.cell? ⟨b, off, none⟩ = some (.int .i64 n) → W'.cell? ⟨b, off, none⟩ = some (.int .i64 n)) (h : Go.Ts.RI W v l) : Go.Ts.RI W' v l := by
  obtain ⟨A, c, h1, h2, h3, h4⟩ := h
  refine ⟨A, c, h1, h2, h3, ?_⟩
  rcases h4 with h4 | ⟨p, off, h5, h6, h7⟩
  · exact .inl h4
  · refine .inr ⟨p, off, h5, Nat.lt_of_lt_of_le h6 hk.size, fun j hj => ?_⟩
    obtain ⟨cs, h8, h9⟩ := h7 j hj
    refine ⟨cs, h8, fun i hi => ?_⟩
    have hc := h9 i hi
    by_cases e : p = b
    · subst e
      have h8 : cs = [.int .i64 l[j]] := h8
      subst h8
      obtain rfl : i = 0 := by simp at hi; omega
      exact hI _ (List.getElem_mem hj) _ hc
    · rw [← hc]
      simp only [World.cell?, hk.other p e h6]
theorem rm_kp {W W' : World} {b : Nat} (hk : Kp W W' b) {v : Value} {l : List Msg} (h : RM W v l) : RM W' v l := by
  obtain ⟨A, c, h1, h2, h3, h4⟩ := h
  refine ⟨A, c, h1, h2, h3, ?_⟩
  rcases h4 with h4 | ⟨p, off, h5, h6, h7⟩
  · exact .inl h4
  · refine .inr ⟨p, off, h5, Nat.lt_of_lt_of_le h6 hk.size, fun j hj => ?_⟩
    obtain ⟨cs, h8, h9⟩ := h7 j hj
    exact ⟨cs, h8, cells_kp hk h6 h9 (by rw [show cs = msgC l[j] from h8]; simp [msgC])⟩
theorem rs_kp {W W' : World} {b : Nat} (hk : Kp W W' b) {v : Value} {l : List Sub} (hI : ∀ x ∈ l, ∀ n ∈ x.acks, ∀ off, W.cell? ⟨b, off, none⟩ = some (.int .i64 n) → W'.cell? ⟨b, off, none⟩ = some (.int .i64 n)) (h : RS W v l) : RS W' v l := by
  obtain ⟨A, c, h1, h2, h3, h4⟩ := h
  refine ⟨A, c, h1, h2, h3, ?_⟩
  rcases h4 with h4 | ⟨p, off, h5, h6, h7⟩
  · exact .inl h4
  · refine .inr ⟨p, off, h5, Nat.lt_of_lt_of_le h6 hk.size, fun j hj => ?_⟩
    obtain ⟨cs, ⟨av, qv, e1, e2, e3⟩, h9⟩ := h7 j hj
    exact ⟨cs, ⟨av, qv, e1, ri_kp hk (hI _ (List.getElem_mem hj)) e2, rm_kp hk e3⟩, cells_kp hk h6 h9 (by rw [e1]; simp [subC])⟩
theorem kp_state {W : World} {b : Nat} {c n l : Int} {v : Value} {t : TypeId} (h : Wh W b (stC c n l v) t) (cs : Array Value) : Kp W (W.setRow b cs) b :=
  ⟨by simp, fun k hk _ => setRow_other W b k cs hk, fun off ho => by
    rw [cell_of_row W b off (stC c n l v).toArray t (0, 0) h]
    simp [stC, ho]⟩
theorem rs_state {W : World} {b : Nat} {c n l : Int} {A0 : Option Addr} {n0 c0 : Nat} {u : Value} {t : TypeId} (h : Wh W b (stC c n l (.slice A0 n0 c0)) t) {sv : Value} {xs : List Sub} (hr : RS W sv xs) : RS (W.setRow b (stC c n l u).toArray) sv xs := by
  refine rs_kp (kp_state h _) (fun x _ m _ off ho => ?_) hr
  rw [cell_of_row W b off (stC c n l (.slice A0 n0 c0)).toArray t (0, 0) h] at ho
  rw [cell_of_row _ b off (stC c n l u).toArray t (0, 0) (h.set (stC c n l u))]
  match off, ho with
  | 0, ho => simpa [stC] using ho
  | 1, ho => simpa [stC] using ho
  | 2, ho => simpa [stC] using ho
  | 3, ho => simp [stC] at ho
  | k + 4, ho => simp [stC] at ho
theorem rs_zero {W : World} {b : Nat} {t : TypeId} (h : Wh W b (stC 0 0 0 (.slice none 0 0)) t) {sv : Value} {xs : List Sub} (hr : RS W sv xs) (hn : ∀ x ∈ xs, ∀ n ∈ x.acks, n ≠ 0) (cs : Array Value) : RS (W.setRow b cs) sv xs := by
  refine rs_kp (kp_state h _) (fun x hx m hm off ho => ?_) hr
  rw [cell_of_row W b off (stC 0 0 0 (.slice none 0 0)).toArray t (0, 0) h] at ho
  exfalso
  have h0 := hn x hx m hm
  match off, ho with
  | 0, ho => simp [stC] at ho; omega
  | 1, ho => simp [stC] at ho; omega
  | 2, ho => simp [stC] at ho; omega
  | 3, ho => simp [stC] at ho
  | k + 4, ho => simp [stC] at ho
end Go.Proofs.YtodckdkbheapfaaGreat
