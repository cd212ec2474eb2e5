/-
  What came in, opened, and what it weighs: bytes, changes, pages. No condition beyond those that each theorem states.
-/
import Derived.Test.YtomkbgghljcbfaaRows
import Derived.Test.YtomkbgghljcbfaaOpen5
import Derived.Test.YtomkbgghljcbfaaChgM
import Derived.Test.YtomkbgghljcbfaaGPg
import Derived.Deep.Slices
import Derived.WalkKit
import Derived.ProofKit
import Derived.OpenShut
import Derived.SizedLaws
import Derived.JoinedCond
namespace Go.Proofs.Ytomkbgghljcbfaa.Upto
open Go.Rst
open Go.ChangeShapes Go.WideShapes Go.ChangeAt Go.RowKit
set_option linter.unusedVariables false
set_option maxRecDepth 10000
section
variable {H : Type}
theorem bulk_append (xs ys : List (DataW H)) : Rows.uptoBulkAll (xs ++ ys) = Rows.uptoBulkAll xs + Rows.uptoBulkAll ys := by
  induction xs with
  | nil => simp [Rows.uptoBulkAll]
  | cons x xs ih => simp only [List.cons_append, Rows.uptoBulkAll, ih]; omega
theorem bulk_pos (d : DataW H) : 1 ≤ Rows.uptoBulk d := by
  unfold Rows.uptoBulk
  split <;> omega
theorem bulk_length (xs : List (DataW H)) : xs.length ≤ Rows.uptoBulkAll xs := by
  induction xs with
  | nil => simp
  | cons x xs ih =>
    have := bulk_pos x
    simp only [List.length_cons, Rows.uptoBulkAll]
    omega
theorem totC_snoc (rs : List Chg) (r : Chg) : totC (rs ++ [r]) = totC rs + (r.1.size + r.2.1.length + 1) := by
  unfold totC sizesC
  rw [List.map_append, List.sum_append, List.length_append]
  simp only [List.map_cons, List.map_nil, List.sum_cons, List.sum_nil, List.length_cons, List.length_nil]
  omega
/-- The changes that are read, one behind the other, are no more than the bulk. -/
theorem chgs_upto {W : World} {a : Addr} {D : Nat → DataW H} {len : Nat}
    (h : ∀ i, i < len → ∃ (k : ByteArray) (u : Value) (l : List UInt8) (b : Bool), W.cell? (a.add (i * 3)) = some (.string k) ∧ W.cell? (a.add (i * 3 + 1)) = some u ∧ RB W u l ∧ W.cell? (a.add (i * 3 + 2)) = some (.bool b) ∧ k.size + l.length + 1 ≤ Rows.uptoBulk (D i)) :
    ∀ n, n ≤ len → ∃ rs : List Chg, rs.length = n ∧ totC rs ≤ Rows.uptoBulkAll ((List.range n).map D) ∧
      ∀ j (hj : j < rs.length), W.cell? (a.add (j * 3)) = some (.string rs[j].1) ∧ (∃ u, W.cell? (a.add (j * 3 + 1)) = some u ∧ RB W u rs[j].2.1) ∧ W.cell? (a.add (j * 3 + 2)) = some (.bool rs[j].2.2)
  | 0, _ => ⟨[], rfl, by simp [totC, sizesC], fun j hj => by simp at hj⟩
  | n + 1, hn => by
    obtain ⟨rs, hl, ht, hc⟩ := chgs_upto h n (by omega)
    obtain ⟨k, u, l, b, h0, h1, h2, h4, h3⟩ := h n (by omega)
    refine ⟨rs ++ [(k, l, b)], by simp [hl], ?_, fun j hj => ?_⟩
    · rw [totC_snoc, List.range_succ, List.map_append, bulk_append]
      simp only [List.map_cons, List.map_nil, Rows.uptoBulkAll]
      omega
    · rw [List.length_append] at hj
      simp only [List.length_cons, List.length_nil] at hj
      by_cases hjn : j < rs.length
      · rw [List.getElem_append_left hjn]
        exact hc j hjn
      · have e : j = rs.length := by omega
        subst e
        rw [List.getElem_append_right (Nat.le_refl _)]
        simp only [Nat.sub_self, List.getElem_cons_zero]
        rw [hl]
        exact ⟨h0, ⟨u, h1, h2⟩, h4⟩
end
section
variable {H : Type} {enc : TypeId × Value → H}
/-- Bytes that came in, and what they weigh. -/
theorem open_bytes {W : World} {base : Nat} {spare : Nat → Bool} {held : Bool} {fuel : Nat} {v : Value} {x : DataW H × List MemPlace} (h : DataW.trod enc Try.prog W base spare held fuel 23 [v] = some x) :
    ∃ l : List UInt8, RB W v l ∧ l.length ≤ Rows.uptoBulk x.1 := by
  rcases open_ints Try.underlying23 Try.underlying5 (by kernel_rfl) h with ⟨hcs, hx⟩ | ⟨a, len, cap, zs, hcs, _, hl, hm, hz, hx, hcell, hwz⟩
  · simp only [List.cons.injEq, and_true] at hcs
    subst hcs
    exact ⟨[], RB.nil_ W, by simp⟩
  · simp only [List.cons.injEq, and_true] at hcs
    subst hcs
    have hzl : len ≤ zs.length := by rw [hz]; split <;> omega
    obtain ⟨l, hll, hrb⟩ : ∃ l : List UInt8, len = l.length ∧ RB W (.slice (some a) l.length cap) l := row_part hl hm hzl hcell hwz
    refine ⟨l, by rw [hll]; exact hrb, ?_⟩
    subst hx
    simp only [Rows.uptoBulk]
    have h1 := bulk_length (lits (H := H) .u8 (zs.take len))
    simp only [lits, List.length_map, List.length_take] at h1
    simp only [lits]
    omega
theorem one9 : Try.prog.cellsOf 9 = 1 := by kernel_rfl
theorem oneB : Try.prog.cellsOf 23 = 1 := by kernel_rfl
theorem one4 : Try.prog.cellsOf 4 = 1 := by kernel_rfl
theorem threeC : Try.prog.cellsOf 51 = 3 := by kernel_rfl
/-- One change that came in, and what it weighs. -/
theorem open_chg {W : World} {base : Nat} {spare : Nat → Bool} {held : Bool} {fuel : Nat} {cs : List Value} {d : DataW H} {ps : List MemPlace} {a : Addr} (hc : W.cells? base a 3 = some cs) (h : DataW.trod enc Try.prog W base spare held fuel 51 cs = some (d, ps)) :
    ∃ (k : ByteArray) (u : Value) (l : List UInt8) (b : Bool), W.cell? a = some (.string k) ∧ W.cell? (a.add 1) = some u ∧ RB W u l ∧ W.cell? (a.add 2) = some (.bool b) ∧ k.size + l.length + 1 ≤ Rows.uptoBulk d := by
  obtain ⟨_, hlen, hat⟩ := World.cells?_some hc
  obtain ⟨xs, n, _, hx, _, hxl, hf⟩ := DataW.trod_struct Try.underlying51 h
  match cs, hlen with
  | [c0, c1, c2], _ =>
    match xs, hxl with
    | [x0, x1, x2], _ =>
      have g0 : DataW.trod enc Try.prog W base spare held n 9 (([c0, c1, c2].drop 0).take (Try.prog.cellsOf 9)) = some x0 := hf 0 _ rfl
      have g1 : DataW.trod enc Try.prog W base spare held n 23 (([c0, c1, c2].drop 1).take (Try.prog.cellsOf 23)) = some x1 := hf 1 _ rfl
      have g2 : DataW.trod enc Try.prog W base spare held n 4 (([c0, c1, c2].drop 2).take (Try.prog.cellsOf 4)) = some x2 := hf 2 _ rfl
      rw [one9] at g0
      rw [oneB] at g1
      rw [one4] at g2
      have f0 : DataW.trod enc Try.prog W base spare held n 9 [c0] = some x0 := g0
      have f1 : DataW.trod enc Try.prog W base spare held n 23 [c1] = some x1 := g1
      have f2 : DataW.trod enc Try.prog W base spare held n 4 [c2] = some x2 := g2
      obtain ⟨k, hk, hkx, _⟩ := DataW.trod_string Try.underlying9 f0
      obtain ⟨l, hr, hlb⟩ := open_bytes f1
      obtain ⟨b, hb, _⟩ := DataW.trod_bool Try.underlying4 f2
      simp only [List.cons.injEq, and_true] at hk hb
      subst hk
      subst hb
      have a0 := hat 0 (by decide)
      have a1 := hat 1 (by decide)
      have a2 := hat 2 (by decide)
      refine ⟨k, c1, l, b, ?_, by simpa using a1, hr, by simpa using a2, ?_⟩
      · simpa [Addr.add] using a0
      · have e1 := size_list k
        have ed : d = .agg [x0.1, x1.1, x2.1] := congrArg Prod.fst hx
        have e0 : x0.1 = .lit (.string k.data.toList) := congrArg Prod.fst hkx
        rw [ed, e0]
        simp only [Rows.uptoBulk, Rows.uptoBulkAll]
        omega
/-- Changes that came in, and what they weigh. -/
theorem open_chgs {W : World} {base : Nat} {spare : Nat → Bool} {held : Bool} {fuel : Nat} {v : Value} {x : DataW H × List MemPlace} (h : DataW.trod enc Try.prog W base spare held fuel 22 [v] = some x) :
    ∃ rs : List Chg, RC W v rs ∧ totC rs ≤ Rows.uptoBulk x.1 := by
  rcases Go.Deep.open_slice Try.underlying22 h with ⟨hcs, hx⟩ | ⟨a, len, cap, m, n, D, Pl, hcs, _, hl, hm, hmm, hx, hi⟩
  · simp only [List.cons.injEq, and_true] at hcs
    subst hcs
    exact ⟨[], ⟨none, 0, rfl, Nat.le_refl _, Nat.zero_le _, .inl rfl⟩, by simp [totC, sizesC]⟩
  · simp only [List.cons.injEq, and_true] at hcs
    subst hcs
    have hml : len ≤ m := by rw [hmm]; split <;> omega
    have hall : ∀ i, i < len → ∃ (k : ByteArray) (u : Value) (l : List UInt8) (b : Bool), W.cell? (a.add (i * 3)) = some (.string k) ∧ W.cell? (a.add (i * 3 + 1)) = some u ∧ RB W u l ∧ W.cell? (a.add (i * 3 + 2)) = some (.bool b) ∧ k.size + l.length + 1 ≤ Rows.uptoBulk (D i) := by
      intro i hil
      obtain ⟨cs', hc, ht⟩ := hi i (by omega)
      rw [threeC] at hc
      obtain ⟨k, u, l, b, g0, g1, g2, g3, g4⟩ := open_chg hc ht
      rw [Go.Deep.add_add] at g1 g3
      exact ⟨k, u, l, b, g0, g1, g2, g3, g4⟩
    obtain ⟨rs, hlen, htot, hc⟩ := chgs_upto hall len (Nat.le_refl _)
    refine ⟨rs, ?_, ?_⟩
    · rcases Nat.eq_zero_or_pos len with h0 | h0
      · have : rs = [] := List.eq_nil_of_length_eq_zero (by omega)
        subst this
        exact ⟨some a, cap, by rw [h0]; rfl, Nat.zero_le _, hm, .inl rfl⟩
      · obtain ⟨b, off, spot⟩ := a
        obtain ⟨c0, c1⟩ := hc 0 (by omega)
        have hspot : spot = none := by simpa [Addr.add] using World.cell?_spot c0
        subst hspot
        refine ⟨some ⟨b, off, none⟩, cap, by rw [hlen], by omega, hm, .inr ⟨b, off, rfl, ?_, fun j hj => ?_⟩⟩
        · have h1 := block_lt_of_cell c0
          rw [Addr.add_lit] at h1
          exact h1
        · have h1 := hc j hj
          rw [Addr.add_lit, Addr.add_lit, Addr.add_lit] at h1
          exact h1
    · subst hx
      simp only [Rows.uptoBulk]
      omega
end

section
variable {H : Type} {enc : TypeId × Value → H}
def totP (ps : List (List UInt8)) : Nat := ps.length + (ps.map List.length).sum
theorem totP_snoc (ps : List (List UInt8)) (p : List UInt8) : totP (ps ++ [p]) = totP ps + (p.length + 1) := by
  unfold totP
  rw [List.map_append, List.sum_append, List.length_append]
  simp only [List.map_cons, List.map_nil, List.sum_cons, List.sum_nil, List.length_cons, List.length_nil]
  omega
theorem pages_upto {W : World} {a : Addr} {D : Nat → DataW H} {len : Nat}
    (h : ∀ i, i < len → ∃ (u : Value) (l : List UInt8), W.cell? (a.add i) = some u ∧ RB W u l ∧ l.length + 1 ≤ Rows.uptoBulk (D i)) :
    ∀ n, n ≤ len → ∃ ps : List (List UInt8), ps.length = n ∧ totP ps ≤ Rows.uptoBulkAll ((List.range n).map D) ∧
      ∀ j (hj : j < ps.length), ∃ u, W.cell? (a.add j) = some u ∧ RB W u ps[j]
  | 0, _ => ⟨[], rfl, by simp [totP], fun j hj => by simp at hj⟩
  | n + 1, hn => by
    obtain ⟨ps, hl, ht, hc⟩ := pages_upto h n (by omega)
    obtain ⟨u, l, h1, h2, h3⟩ := h n (by omega)
    refine ⟨ps ++ [l], by simp [hl], ?_, fun j hj => ?_⟩
    · rw [totP_snoc, List.range_succ, List.map_append, bulk_append]
      simp only [List.map_cons, List.map_nil, Rows.uptoBulkAll]
      omega
    · rw [List.length_append] at hj
      simp only [List.length_cons, List.length_nil] at hj
      by_cases hjn : j < ps.length
      · rw [List.getElem_append_left hjn]
        exact hc j hjn
      · have e : j = ps.length := by omega
        subst e
        rw [List.getElem_append_right (Nat.le_refl _)]
        simp only [Nat.sub_self, List.getElem_cons_zero]
        rw [hl]
        exact ⟨u, h1, h2⟩
/-- Bytes that came in, and what they weigh with their head. -/
theorem open_bytes1 {W : World} {base : Nat} {spare : Nat → Bool} {held : Bool} {fuel : Nat} {v : Value} {x : DataW H × List MemPlace} (h : DataW.trod enc Try.prog W base spare held fuel 23 [v] = some x) :
    ∃ l : List UInt8, RB W v l ∧ l.length + 1 ≤ Rows.uptoBulk x.1 := by
  rcases open_ints Try.underlying23 Try.underlying5 (by kernel_rfl) h with ⟨hcs, hx⟩ | ⟨a, len, cap, zs, hcs, _, hl, hm, hz, hx, hcell, hwz⟩
  · simp only [List.cons.injEq, and_true] at hcs
    subst hcs
    exact ⟨[], RB.nil_ W, bulk_pos _⟩
  · simp only [List.cons.injEq, and_true] at hcs
    subst hcs
    have hzl : len ≤ zs.length := by rw [hz]; split <;> omega
    obtain ⟨l, hll, hrb⟩ : ∃ l : List UInt8, len = l.length ∧ RB W (.slice (some a) l.length cap) l := row_part hl hm hzl hcell hwz
    refine ⟨l, by rw [hll]; exact hrb, ?_⟩
    subst hx
    simp only [Rows.uptoBulk]
    have h1 := bulk_length (lits (H := H) .u8 (zs.take len))
    simp only [lits, List.length_map, List.length_take] at h1
    simp only [lits]
    omega
/-- Pages that came in, and what they weigh. -/
theorem open_pages {W : World} {base : Nat} {spare : Nat → Bool} {held : Bool} {fuel : Nat} {v : Value} {x : DataW H × List MemPlace} (h : DataW.trod enc Try.prog W base spare held fuel 29 [v] = some x) :
    ∃ ps : List (List UInt8), RP W v ps ∧ totP ps ≤ Rows.uptoBulk x.1 := by
  rcases Go.Deep.open_slice Try.underlying29 h with ⟨hcs, hx⟩ | ⟨a, len, cap, m, n, D, Pl, hcs, _, hl, hm, hmm, hx, hi⟩
  · simp only [List.cons.injEq, and_true] at hcs
    subst hcs
    exact ⟨[], rp_nil W, by simp [totP]⟩
  · simp only [List.cons.injEq, and_true] at hcs
    subst hcs
    have hml : len ≤ m := by rw [hmm]; split <;> omega
    have hall : ∀ i, i < len → ∃ (u : Value) (l : List UInt8), W.cell? (a.add i) = some u ∧ RB W u l ∧ l.length + 1 ≤ Rows.uptoBulk (D i) := by
      intro i hil
      obtain ⟨cs', hc, ht⟩ := hi i (by omega)
      rw [oneB] at hc
      obtain ⟨_, hlen, hat⟩ := World.cells?_some hc
      match cs', hlen with
      | [u], _ =>
        obtain ⟨l, h1, h2⟩ := open_bytes1 ht
        have a0 := hat 0 (by decide)
        refine ⟨u, l, ?_, h1, h2⟩
        simpa [Addr.add] using a0
    obtain ⟨ps, hlen, htot, hc⟩ := pages_upto hall len (Nat.le_refl _)
    refine ⟨ps, ?_, ?_⟩
    · rcases Nat.eq_zero_or_pos len with h0 | h0
      · have : ps = [] := List.eq_nil_of_length_eq_zero (by omega)
        subst this
        exact ⟨some a, cap, by rw [h0]; rfl, Nat.zero_le _, hm, .inl rfl⟩
      · obtain ⟨b, off, spot⟩ := a
        obtain ⟨u0, c0, _⟩ := hc 0 (by omega)
        have hspot : spot = none := by simpa [Addr.add] using World.cell?_spot c0
        subst hspot
        refine ⟨some ⟨b, off, none⟩, cap, by rw [hlen], by omega, hm, .inr ⟨b, off, rfl, ?_, fun j hj => ?_⟩⟩
        · have h1 := block_lt_of_cell c0
          rw [Addr.add_lit] at h1
          exact h1
        · obtain ⟨u, h1, h2⟩ := hc j hj
          rw [Addr.add_lit] at h1
          exact ⟨u, h1, h2⟩
    · subst hx
      simp only [Rows.uptoBulk]
      omega
end
end Go.Proofs.Ytomkbgghljcbfaa.Upto
