/-
  What came in, opened: changes, and what each may take up. No condition beyond those that each theorem states.
-/
import Derived.Test.YtomkbgghljcbfaaOpen5
import Derived.Test.YtomkbgghljcbfaaChgM
import Derived.Deep.Slices
import Derived.WalkKit
import Derived.ProofKit
import Derived.OpenShut
import Derived.SizedLaws
namespace Go.Proofs.Ytomkbgghljcbfaa
open Go.Rst
open Go.ChangeShapes Go.WideShapes Go.ChangeAt Go.RowKit
set_option linter.unusedVariables false
set_option maxRecDepth 10000
theorem one9 : Try.prog.cellsOf 9 = 1 := by kernel_rfl
theorem oneB : Try.prog.cellsOf 23 = 1 := by kernel_rfl
theorem one4 : Try.prog.cellsOf 4 = 1 := by kernel_rfl
theorem threeC : Try.prog.cellsOf 51 = 3 := by kernel_rfl
theorem byC : Try.prog.bytesOf 51 = 48 := by kernel_rfl
theorem weightsAll_mem {H : Type} (P : Program) (e : TypeId) : ∀ (ds : List (DataW H)) (d : DataW H), d ∈ ds → ∀ n ∈ d.weights P e, n ∈ DataW.weightsAll P e ds
  | [], d, h, _, _ => by cases h
  | x :: ds, d, h, n, hn => by
    unfold DataW.weightsAll
    rcases List.mem_cons.1 h with rfl | h
    · exact List.mem_append_left _ hn
    · exact List.mem_append_right _ (weightsAll_mem P e ds d h n hn)
section
variable {H : Type} {enc : TypeId × Value → H}
/-- One change that came in. -/
theorem open_chg0 {W : World} {base : Nat} {spare : Nat → Bool} {held : Bool} {fuel : Nat} {cs : List Value} {d : DataW H} {ps : List MemPlace} {a : Addr} (hc : W.cells? base a 3 = some cs) (h : DataW.trod enc Try.prog W base spare held fuel 51 cs = some (d, ps))
    (hw : ∀ n ∈ d.weights Try.prog 51, n ≤ reachBytes) :
    ∃ (k : ByteArray) (u : Value) (l : List UInt8) (b : Bool), W.cell? a = some (.string k) ∧ W.cell? (a.add 1) = some u ∧ RB W u l ∧ W.cell? (a.add 2) = some (.bool b) ∧ l.length ≤ 140737488351232 := by
  obtain ⟨_, hlen, hat⟩ := World.cells?_some hc
  obtain ⟨xs, n, _, hx, _, hxl, hf⟩ := DataW.trod_struct Try.underlying51 h
  match cs, hlen with
  | [c0, c1, c2], _ =>
    match xs, hxl with
    | [x0, x1, x2], _ =>
      have g0 : DataW.trod enc Try.prog W base spare held n 9 (([c0, c1, c2].drop 0).take (Try.prog.cellsOf 9)) = some x0 := hf 0 _ rfl
      have g1 : DataW.trod enc Try.prog W base spare held n 23 (([c0, c1, c2].drop 1).take (Try.prog.cellsOf 23)) = some x1 := hf 1 _ rfl
      have g2 : DataW.trod enc Try.prog W base spare held n 4 (([c0, c1, c2].drop 2).take (Try.prog.cellsOf 4)) = some x2 := hf 2 _ rfl
      rw [one9] at g0
      rw [oneB] at g1
      rw [one4] at g2
      have f0 : DataW.trod enc Try.prog W base spare held n 9 [c0] = some x0 := g0
      have f1 : DataW.trod enc Try.prog W base spare held n 23 [c1] = some x1 := g1
      have f2 : DataW.trod enc Try.prog W base spare held n 4 [c2] = some x2 := g2
      have ed : d = .agg [x0.1, x1.1, x2.1] := congrArg Prod.fst hx
      obtain ⟨k, hk, hkx, _⟩ := DataW.trod_string Try.underlying9 f0
      obtain ⟨l, hr, hlb⟩ := open_bytes f1 (fun n hn => hw n (by
        rw [ed]
        unfold DataW.weights
        rw [Try.underlying51]
        simp only [List.map_cons, List.map_nil, DataW.weightsEach]
        exact List.mem_append_right _ (List.mem_append_left _ hn)))
      obtain ⟨b, hb, _⟩ := DataW.trod_bool Try.underlying4 f2
      simp only [List.cons.injEq, and_true] at hk hb
      subst hk
      subst hb
      have a0 := hat 0 (by decide)
      have a1 := hat 1 (by decide)
      have a2 := hat 2 (by decide)
      refine ⟨k, c1, l, b, ?_, by simpa using a1, hr, by simpa using a2, hlb⟩
      simpa [Addr.add] using a0
theorem chgs_sel {W : World} {a : Addr} {len : Nat}
    (h : ∀ i, i < len → ∃ (k : ByteArray) (u : Value) (l : List UInt8) (b : Bool), W.cell? (a.add (i * 3)) = some (.string k) ∧ W.cell? (a.add (i * 3 + 1)) = some u ∧ RB W u l ∧ W.cell? (a.add (i * 3 + 2)) = some (.bool b) ∧ l.length ≤ 140737488351232) :
    ∀ n, n ≤ len → ∃ rs : List Chg, rs.length = n ∧ (∀ c ∈ rs, c.2.1.length ≤ 140737488351232) ∧
      ∀ j (hj : j < rs.length), W.cell? (a.add (j * 3)) = some (.string rs[j].1) ∧ (∃ u, W.cell? (a.add (j * 3 + 1)) = some u ∧ RB W u rs[j].2.1) ∧ W.cell? (a.add (j * 3 + 2)) = some (.bool rs[j].2.2)
  | 0, _ => ⟨[], rfl, fun _ h => (by cases h), fun j hj => by simp at hj⟩
  | n + 1, hn => by
    obtain ⟨rs, hl, ht, hc⟩ := chgs_sel h n (by omega)
    obtain ⟨k, u, l, b, h0, h1, h2, h4, h3⟩ := h n (by omega)
    refine ⟨rs ++ [(k, l, b)], by simp [hl], fun c hc => ?_, fun j hj => ?_⟩
    · rcases List.mem_append.1 hc with hc | hc
      · exact ht c hc
      · rw [List.mem_singleton] at hc
        subst hc
        exact h3
    · rw [List.length_append] at hj
      simp only [List.length_cons, List.length_nil] at hj
      by_cases hjn : j < rs.length
      · rw [List.getElem_append_left hjn]
        exact hc j hjn
      · have e : j = rs.length := by omega
        subst e
        rw [List.getElem_append_right (Nat.le_refl _)]
        simp only [Nat.sub_self, List.getElem_cons_zero]
        rw [hl]
        exact ⟨h0, ⟨u, h1, h2⟩, h4⟩
/-- Changes that came in. -/
theorem open_chgs {W : World} {base : Nat} {spare : Nat → Bool} {held : Bool} {fuel : Nat} {v : Value} {x : DataW H × List MemPlace} (h : DataW.trod enc Try.prog W base spare held fuel 22 [v] = some x) (hw : ∀ n ∈ x.1.weights Try.prog 22, n ≤ reachBytes) :
    ∃ rs : List Chg, RC W v rs ∧ rs.length ≤ 2999999999000 ∧ ∀ c ∈ rs, c.2.1.length ≤ 140737488351232 := by
  have hr := reach_le
  rcases Go.Deep.open_slice Try.underlying22 h with ⟨hcs, hx⟩ | ⟨a, len, cap, m, n, D, Pl, hcs, _, hl, hm, hmm, hx, hi⟩
  · simp only [List.cons.injEq, and_true] at hcs
    subst hcs
    exact ⟨[], ⟨none, 0, rfl, Nat.le_refl _, Nat.zero_le _, .inl rfl⟩, by simp, fun _ h => (by cases h)⟩
  · simp only [List.cons.injEq, and_true] at hcs
    subst hcs
    have hml : len ≤ m := by rw [hmm]; split <;> omega
    subst hx
    have hwt : ∀ z, z ∈ ((((List.range len).map D).length + ((List.range (m - len)).map fun j => D (len + j)).length) * Try.prog.bytesOf 51 :: (DataW.weightsAll Try.prog 51 ((List.range len).map D) ++ DataW.weightsAll Try.prog 51 ((List.range (m - len)).map fun j => D (len + j)))) → z ≤ reachBytes := fun z hz => hw z (by
      show z ∈ DataW.weights Try.prog 22 (DataW.slice _ _)
      unfold DataW.weights
      rw [Try.underlying22]
      exact hz)
    have hall : ∀ i, i < len → ∃ (k : ByteArray) (u : Value) (l : List UInt8) (b : Bool), W.cell? (a.add (i * 3)) = some (.string k) ∧ W.cell? (a.add (i * 3 + 1)) = some u ∧ RB W u l ∧ W.cell? (a.add (i * 3 + 2)) = some (.bool b) ∧ l.length ≤ 140737488351232 := by
      intro i hil
      obtain ⟨cs', hc, ht⟩ := hi i (by omega)
      rw [threeC] at hc
      obtain ⟨k, u, l, b, g0, g1, g2, g3, g4⟩ := open_chg0 hc ht (fun n hn => hwt n (List.mem_cons_of_mem _ (List.mem_append_left _ (weightsAll_mem _ _ _ (D i) (List.mem_map.2 ⟨i, List.mem_range.2 hil, rfl⟩) n hn))))
      rw [Go.Deep.add_add] at g1 g3
      exact ⟨k, u, l, b, g0, g1, g2, g3, g4⟩
    obtain ⟨rs, hlen, htot, hc⟩ := chgs_sel hall len (Nat.le_refl _)
    have h1 := hwt _ (List.mem_cons_self ..)
    rw [byC, List.length_map, List.length_range] at h1
    refine ⟨rs, ?_, by omega, htot⟩
    rcases Nat.eq_zero_or_pos len with h0 | h0
    · have : rs = [] := List.eq_nil_of_length_eq_zero (by omega)
      subst this
      exact ⟨some a, cap, by rw [h0]; rfl, Nat.zero_le _, hm, .inl rfl⟩
    · obtain ⟨b, off, spot⟩ := a
      obtain ⟨c0, c1⟩ := hc 0 (by omega)
      have hspot : spot = none := by simpa [Addr.add] using World.cell?_spot c0
      subst hspot
      refine ⟨some ⟨b, off, none⟩, cap, by rw [hlen], by omega, hm, .inr ⟨b, off, rfl, ?_, fun j hj => ?_⟩⟩
      · have h1 := block_lt_of_cell c0
        rw [Addr.add_lit] at h1
        exact h1
      · have h1 := hc j hj
        rw [Addr.add_lit, Addr.add_lit, Addr.add_lit] at h1
        exact h1
end
end Go.Proofs.Ytomkbgghljcbfaa
