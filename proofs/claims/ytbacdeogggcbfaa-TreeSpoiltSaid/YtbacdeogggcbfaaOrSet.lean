/-
  Words on rows of the call's own of which one is set anew. No program but the seat's types.
-/
import Derived.Test.YtbacdeogggcbfaaGRows
namespace Go.Proofs.Ytbacdeogggcbfaa
open Go.RowKit Go.Rst Go.Pg Go.Crc
theorem rowCells_setK : ∀ (us : List (ByteArray × List UInt8 × Value)) (j : Nat) (h : j < us.length) (k : ByteArray), rowCells (us.set j (k, us[j].2)) = (rowCells us).set (j * 2) (.string k)
  | [], _, h, _ => by simp at h
  | x :: xs, 0, _, k => by simp [rowCells]
  | x :: xs, j + 1, h, k => by
    have ih := rowCells_setK xs j (by simpa using h) k
    simp only [rowCells, List.flatMap_cons, List.set_cons_succ, List.getElem_cons_succ, List.cons_append, List.nil_append] at ih ⊢
    rw [show (j + 1) * 2 = j * 2 + 1 + 1 from by omega, List.set_cons_succ, List.set_cons_succ, ih]
theorem rowCells_setV : ∀ (us : List (ByteArray × List UInt8 × Value)) (j : Nat) (h : j < us.length) (y : List UInt8 × Value), rowCells (us.set j (us[j].1, y)) = (rowCells us).set (j * 2 + 1) y.2
  | [], _, h, _ => by simp at h
  | x :: xs, 0, _, y => by simp [rowCells]
  | x :: xs, j + 1, h, y => by
    have ih := rowCells_setV xs j (by simpa using h) y
    simp only [rowCells, List.flatMap_cons, List.set_cons_succ, List.getElem_cons_succ, List.cons_append, List.nil_append] at ih ⊢
    rw [show (j + 1) * 2 = (j * 2 + 1) + 1 from by omega, List.set_cons_succ, ih]
theorem own_set {w : World} {base n c g : Nat} {e : TypeId} {size : Nat} {xs : List Value} (h : w.ownsRow base e size (.slice (some ⟨g, 0, none⟩) n c) n xs) (i : Nat) (u : Value) :
    (w.setCell ⟨g, i, none⟩ u).ownsRow base e size (.slice (some ⟨g, 0, none⟩) n c) n (xs.set i u) := by
  refine ⟨by rw [List.length_set]; exact h.1, ?_⟩
  rcases h.2 with ⟨he, _⟩ | ⟨g', cap, cur, he, hb, hg, hnc, hcm, hcs, ht⟩
  · cases he
  · injection he with he _ e3
    injection he with he
    injection he with e1 _ _
    subst e1
    subst e3
    refine .inr ⟨g, c, cur.setIfInBounds i u, rfl, hb, ?_, hnc, hcm, by rw [Array.size_setIfInBounds]; exact hcs, ?_⟩
    · simp [World.setCell, Array.getElem?_modify, hg]
    · rw [Array.toList_setIfInBounds, List.take_set, ht]
theorem fb_own {w : World} {base base' n c g : Nat} {e e' : TypeId} {size : Nat} {xs : List Value} (h : w.ownsRow base e size (.slice (some ⟨g, 0, none⟩) n c) n xs) (hne : e' ≠ e) (i : Nat) (u : Value) {v : Value} {l : List UInt8} (hf : FB e' w base' v l) : FB e' (w.setCell ⟨g, i, none⟩ u) base' v l := by
  refine hf.block_ (fun g' cur fr hg => (Below.heap_setCell w ⟨g, i, none⟩ u g' (fun hh => ?_)).trans hg)
  rcases h.2 with ⟨he, _⟩ | ⟨g2, cap, cur2, he, hb, hg2, _⟩
  · cases he
  · injection he with he _ _
    injection he with he
    injection he with e1 _ _
    subst e1
    have hh' : g' = g := hh
    subst hh'
    rw [hg] at hg2
    injection hg2 with hg2
    injection hg2 with _ h3 _
    exact hne h3
theorem or_setK {eR : TypeId} {w : World} {base n c g : Nat} {rs : List Rw} (h : OR 5 eR w base (.slice (some ⟨g, 0, none⟩) n c) rs) (hne : (5 : TypeId) ≠ eR) (hn : n = rs.length) {j : Nat} (hj : j < rs.length) (k : ByteArray) :
    OR 5 eR (w.setCell ⟨g, j * 2, none⟩ (.string k)) base (.slice (some ⟨g, 0, none⟩) n c) (rs.set j (k, rs[j].2)) := by
  obtain ⟨us, rfl, ho, hf⟩ := h
  rw [List.length_map] at hn
  subst hn
  have hj' : j < us.length := by simpa using hj
  refine ⟨us.set j (k, us[j].2), ?_, ?_, fun x hx => ?_⟩
  · rw [List.map_set]; simp
  · rw [List.length_set, rowCells_setK us j hj' k]
    exact own_set ho _ _
  · refine fb_own ho hne _ _ ?_
    rcases List.mem_or_eq_of_mem_set hx with hx | hx
    · exact hf x hx
    · rw [hx]
      exact hf us[j] (List.getElem_mem hj')
theorem or_setV {eR : TypeId} {w : World} {base n c g : Nat} {rs : List Rw} (h : OR 5 eR w base (.slice (some ⟨g, 0, none⟩) n c) rs) (hne : (5 : TypeId) ≠ eR) (hn : n = rs.length) {j : Nat} (hj : j < rs.length) {u : Value} {l : List UInt8} (hu : FB 5 w base u l) :
    OR 5 eR (w.setCell ⟨g, j * 2 + 1, none⟩ u) base (.slice (some ⟨g, 0, none⟩) n c) (rs.set j (rs[j].1, l)) := by
  obtain ⟨us, rfl, ho, hf⟩ := h
  rw [List.length_map] at hn
  subst hn
  have hj' : j < us.length := by simpa using hj
  refine ⟨us.set j (us[j].1, l, u), ?_, ?_, fun x hx => ?_⟩
  · rw [List.map_set]; simp
  · rw [List.length_set, rowCells_setV us j hj' (l, u)]
    exact own_set ho _ _
  · refine fb_own ho hne _ _ ?_
    rcases List.mem_or_eq_of_mem_set hx with hx | hx
    · exact hf x hx
    · rw [hx]
      exact hu
/-- A row set whole. -/
theorem or_setR {eR : TypeId} {w : World} {base n c g : Nat} {rs : List Rw} (h : OR 5 eR w base (.slice (some ⟨g, 0, none⟩) n c) rs) (hne : (5 : TypeId) ≠ eR) (hn : n = rs.length) {j : Nat} (hj : j < rs.length) {k : ByteArray} {u : Value} {l : List UInt8} (hu : FB 5 w base u l) :
    OR 5 eR ((w.setCell ⟨g, j * 2, none⟩ (.string k)).setCell ⟨g, j * 2 + 1, none⟩ u) base (.slice (some ⟨g, 0, none⟩) n c) (rs.set j (k, l)) := by
  have h1 := or_setK h hne hn hj k
  have h0 := h
  obtain ⟨us, hus, ho, _⟩ := h0
  have hul : us.length = n := by rw [hn, ← hus, List.length_map]
  rw [hul] at ho
  have h2 := or_setV h1 hne (by rw [List.length_set]; exact hn) (j := j) (by rw [List.length_set]; exact hj) (fb_own ho hne (j * 2) (.string k) hu)
  rw [List.getElem_set_self, List.set_set] at h2
  exact h2
theorem fb_setK {eR : TypeId} {w : World} {base base' n c g : Nat} {rs : List Rw} (h : OR 5 eR w base (.slice (some ⟨g, 0, none⟩) n c) rs) (hne : (5 : TypeId) ≠ eR) (hn : n = rs.length) (i : Nat) (x : Value) {u : Value} {l : List UInt8} (hf : FB 5 w base' u l) : FB 5 (w.setCell ⟨g, i, none⟩ x) base' u l := by
  obtain ⟨us, hus, ho, _⟩ := h
  have hul : us.length = n := by rw [hn, ← hus, List.length_map]
  rw [hul] at ho
  exact fb_own ho hne i x hf
theorem fb_setR {eR : TypeId} {w : World} {base base' n c g : Nat} {rs : List Rw} (h : OR 5 eR w base (.slice (some ⟨g, 0, none⟩) n c) rs) (hne : (5 : TypeId) ≠ eR) (hn : n = rs.length) {j : Nat} (hj : j < rs.length) {k : ByteArray} {x : Value} {u : Value} {l : List UInt8} (hf : FB 5 w base' u l) :
    FB 5 ((w.setCell ⟨g, j * 2, none⟩ (.string k)).setCell ⟨g, j * 2 + 1, none⟩ x) base' u l :=
  fb_setK (or_setK h hne hn hj k) hne (by rw [List.length_set]; exact hn) _ _ (fb_setK h hne hn _ _ hf)
theorem or_base {eR : TypeId} {w : World} {base n c g : Nat} {rs : List Rw} (h : OR 5 eR w base (.slice (some ⟨g, 0, none⟩) n c) rs) : base ≤ g := by
  obtain ⟨us, _, ho, _⟩ := h
  rcases ho.2 with ⟨he, _⟩ | ⟨g2, cap, cur2, he, hb, _⟩
  · cases he
  · injection he with he _ _
    injection he with he
    injection he with e1 _ _
    subst e1
    exact hb
theorem or_frozen {eR : TypeId} {w : World} {base n c g : Nat} {rs : List Rw} (h : OR 5 eR w base (.slice (some ⟨g, 0, none⟩) n c) rs) (i : Nat) : w.frozen? ⟨g, i, none⟩ = false := by
  obtain ⟨us, _, ho, _⟩ := h
  rcases ho.2 with ⟨he, _⟩ | ⟨g2, cap, cur2, he, hb, hg2, _⟩
  · cases he
  · injection he with he _ _
    injection he with he
    injection he with e1 _ _
    subst e1
    exact Blk.frozen (t := eR) (cs := cur2) hg2 i
end Go.Proofs.Ytbacdeogggcbfaa
