/-
  What came in, opened: bytes, marks, deeds; and what each may take up. No condition beyond those that each theorem states.
-/
import Derived.Test.YtpaahbohbnfibaaMem
import Derived.Test.YtpaahbohbnfibaaProg
import Derived.Deep.Slices
import Derived.SizedLaws
import Derived.ProofKit
import Derived.OpenShut
namespace Go.Proofs.Ytpaahbohbnfibaa
open Go.Rst Go.Dv
open Go.ChangeShapes Go.WideShapes Go.ChangeAt Go.RowKit

/-- Marks that came in. -/
def BK (w : World) (v : Value) (K : List Bool) : Prop :=
  ∃ A c, v = .slice A K.length c ∧ (K = [] ∨ ∃ b off, A = some ⟨b, off, none⟩ ∧ b < w.heap.size ∧ ∀ j (h : j < K.length), w.cell? ⟨b, off + j, none⟩ = some (.bool K[j]))
/-- A deed. -/
structure Deed where
  kind : Nat
  i : Int
  b : List UInt8
  keep : List Bool
  v : Nat
/-- A deed's cells. -/
def DeedAt (w : World) (b o : Nat) (x : Deed) : Prop :=
  w.cell? ⟨b, o, none⟩ = some (.int .u8 (x.kind : Int)) ∧ w.cell? ⟨b, o + 1, none⟩ = some (.int .i64 x.i) ∧ (∃ u, w.cell? ⟨b, o + 2, none⟩ = some u ∧ RB w u x.b) ∧
  (∃ u, w.cell? ⟨b, o + 3, none⟩ = some u ∧ BK w u x.keep) ∧ w.cell? ⟨b, o + 4, none⟩ = some (.int .u8 (x.v : Int)) ∧ x.kind ≤ 255 ∧ x.v ≤ 255 ∧ (Lit.int .i64 x.i).wf = true ∧ x.b.length ≤ 140737488351232 ∧ x.keep.length ≤ 140737488351232
/-- Deeds that came in. -/
def DS (w : World) (v : Value) (l : List Deed) : Prop :=
  ∃ A c, v = .slice A l.length c ∧ l.length ≤ 140737488351232 ∧ (l = [] ∨ ∃ b off, A = some ⟨b, off, none⟩ ∧ b < w.heap.size ∧ ∀ j (h : j < l.length), DeedAt w b (off + j * 5) l[j])
theorem row_part {W : World} {a : Addr} {len cap : Nat} {zs : List Int} (hl : len ≤ cap) (hm : cap ≤ maxLen) (hzl : len ≤ zs.length) (hcell : ∀ i, i < zs.length → W.cell? (a.add i) = some (.int .u8 (zs.getD i 0))) (hwf : ∀ n ∈ zs, (Lit.int .u8 n).wf = true) :
    ∃ l : List UInt8, len = l.length ∧ RB W (.slice (some a) l.length cap) l := by
  have hlen : ((zs.take len).map fun z => UInt8.ofNat z.toNat).length = len := by simp; omega
  refine ⟨(zs.take len).map fun z => UInt8.ofNat z.toNat, hlen.symm, some a, cap, rfl, by omega, hm, ?_⟩
  rcases Nat.eq_zero_or_pos len with h0 | h0
  · exact .inl (List.eq_nil_of_length_eq_zero (by omega))
  · obtain ⟨b, off, spot⟩ := a
    have hc := hcell 0 (by omega)
    have hspot : spot = none := by simpa [Addr.add] using World.cell?_spot hc
    subst hspot
    refine .inr ⟨b, off, rfl, ?_, fun j hj => ?_⟩
    · have h1 := block_lt_of_cell hc
      rw [Addr.add_lit] at h1
      exact h1
    · rw [hlen] at hj
      have h1 := hcell j (by omega)
      rw [Addr.add_lit] at h1
      rw [h1]
      have hj' : j < zs.length := by omega
      have e : (zs.getD j 0) = zs[j] := by rw [List.getD_eq_getElem?_getD, List.getElem?_eq_getElem hj']; simp
      have h2 := hwf zs[j] (List.getElem_mem hj')
      simp only [Lit.wf, Bool.and_eq_true, decide_eq_true_eq] at h2
      have mn : IntKind.u8.min = 0 := rfl
      have mx : IntKind.u8.max = 255 := rfl
      rw [mn, mx] at h2
      rw [e]
      unfold bv
      congr 2
      simp only [List.getElem_map, List.getElem_take, UInt8.toNat_ofNat']
      omega
theorem by5 : Try.prog.bytesOf 5 = 1 := by kernel_rfl
theorem by4 : Try.prog.bytesOf 4 = 1 := by kernel_rfl
theorem by44 : Try.prog.bytesOf 44 = 72 := by kernel_rfl
theorem ce4 : Try.prog.cellsOf 4 = 1 := by kernel_rfl
theorem ce44 : Try.prog.cellsOf 44 = 5 := by kernel_rfl
theorem reach_le : reachBytes ≤ 140737488351232 := by decide
section
variable {H : Type} {enc : TypeId × Value → H} {W : World} {base : Nat} {spare : Nat → Bool} {held : Bool} {fuel : Nat}
/-- Bytes that came in. -/
theorem open_bytes {v : Value} {x : DataW H × List MemPlace} (h : DataW.trod enc Try.prog W base spare held fuel 28 [v] = some x) (hw : ∀ n ∈ x.1.weights Try.prog 28, n ≤ reachBytes) :
    ∃ l : List UInt8, RB W v l ∧ l.length ≤ 140737488351232 := by
  have hr := reach_le
  rcases open_ints Try.underlying28 Try.underlying5 (by kernel_rfl) h with ⟨hcs, hx⟩ | ⟨a, len, cap, zs, hcs, _, hl, hm, hz, hx, hcell, hwz⟩
  · simp only [List.cons.injEq, and_true] at hcs
    subst hcs
    exact ⟨[], RB.nil_ W, by simp⟩
  · simp only [List.cons.injEq, and_true] at hcs
    subst hcs
    have hzl : len ≤ zs.length := by rw [hz]; split <;> omega
    obtain ⟨l, hll, hrb⟩ : ∃ l : List UInt8, len = l.length ∧ RB W (.slice (some a) l.length cap) l := row_part hl hm hzl hcell hwz
    refine ⟨l, by rw [hll]; exact hrb, ?_⟩
    subst hx
    have h1 := hw (((lits (H := H) .u8 (zs.take len)).length + (lits (H := H) .u8 (zs.drop len)).length) * Try.prog.bytesOf 5) (by simp [DataW.weights, Try.underlying28])
    rw [by5] at h1
    simp only [lits, List.length_map, List.length_take] at h1
    omega
/-- Marks that came in. -/
theorem open_bools {v : Value} {x : DataW H × List MemPlace} (h : DataW.trod enc Try.prog W base spare held fuel 42 [v] = some x) (hw : ∀ n ∈ x.1.weights Try.prog 42, n ≤ reachBytes) :
    ∃ K : List Bool, BK W v K ∧ K.length ≤ 140737488351232 := by
  have hr := reach_le
  rcases Go.Deep.open_slice Try.underlying42 h with ⟨hcs, hx⟩ | ⟨a, len, cap, m, n, Dt, Pl, hcs, _, hl, hm, hmm, hx, hi⟩
  · simp only [List.cons.injEq, and_true] at hcs
    subst hcs
    exact ⟨[], ⟨none, 0, rfl, .inl rfl⟩, by simp⟩
  · simp only [List.cons.injEq, and_true] at hcs
    subst hcs
    have hml : len ≤ m := by rw [hmm]; split <;> omega
    have hall : ∀ i, i < len → ∃ b : Bool, W.cell? (a.add i) = some (.bool b) := by
      intro i hil
      obtain ⟨cs', hc, ht⟩ := hi i (by omega)
      rw [ce4, Nat.mul_one] at hc
      obtain ⟨_, hlen, hat⟩ := World.cells?_some hc
      obtain ⟨b, hb, _⟩ := DataW.trod_bool Try.underlying4 ht
      subst hb
      have a0 := hat 0 (by decide)
      exact ⟨b, by simpa [Addr.add] using a0⟩
    have hsel : ∀ n, n ≤ len → ∃ K : List Bool, K.length = n ∧ ∀ j (hj : j < K.length), W.cell? (a.add j) = some (.bool K[j]) := by
      intro n
      induction n with
      | zero => intro _; exact ⟨[], rfl, fun j hj => by simp at hj⟩
      | succ n ih =>
        intro hn
        obtain ⟨K, hK, hc⟩ := ih (by omega)
        obtain ⟨b, hb⟩ := hall n (by omega)
        refine ⟨K ++ [b], by simp [hK], fun j hj => ?_⟩
        rw [List.length_append, List.length_singleton] at hj
        by_cases hjn : j < K.length
        · rw [List.getElem_append_left hjn]; exact hc j hjn
        · have e : j = K.length := by omega
          subst e
          rw [List.getElem_append_right (Nat.le_refl _)]
          simp only [Nat.sub_self, List.getElem_cons_zero]
          rw [hK]; exact hb
    obtain ⟨K, hK, hc⟩ := hsel len (Nat.le_refl _)
    refine ⟨K, ⟨some a, cap, by rw [hK], ?_⟩, ?_⟩
    · rcases Nat.eq_zero_or_pos len with h0 | h0
      · exact .inl (List.eq_nil_of_length_eq_zero (by omega))
      · obtain ⟨b, off, spot⟩ := a
        have c0 := hc 0 (by omega)
        have hspot : spot = none := by simpa [Addr.add] using World.cell?_spot c0
        subst hspot
        refine .inr ⟨b, off, rfl, ?_, fun j hj => ?_⟩
        · have h1 := block_lt_of_cell c0
          rw [Addr.add_lit] at h1
          exact h1
        · have h1 := hc j hj
          rw [Addr.add_lit] at h1
          exact h1
    · subst hx
      have h1 := hw ((((List.range len).map Dt).length + ((List.range (m - len)).map fun j => Dt (len + j)).length) * Try.prog.bytesOf 4) (by simp [DataW.weights, Try.underlying42])
      rw [by4] at h1
      simp only [List.length_map, List.length_range] at h1
      omega
theorem mem_all {P : Program} {e : TypeId} : ∀ {ds : List (DataW H)} {d : DataW H}, d ∈ ds → ∀ n ∈ d.weights P e, n ∈ DataW.weightsAll P e ds
  | _ :: r, d, h, n, hn => by
    rw [DataW.weightsAll]
    rcases List.mem_cons.1 h with rfl | h
    · exact List.mem_append.2 (.inl hn)
    · exact List.mem_append.2 (.inr (mem_all h n hn))
/-- One deed that came in. -/
theorem open_deed {cs : List Value} {d : DataW H} {ps : List MemPlace} {b o : Nat} (hc : W.cells? base ⟨b, o, none⟩ 5 = some cs) (h : DataW.trod enc Try.prog W base spare held fuel 44 cs = some (d, ps)) (hw : ∀ n ∈ d.weights Try.prog 44, n ≤ reachBytes) :
    ∃ x : Deed, DeedAt W b o x := by
  obtain ⟨_, hlen, hat⟩ := World.cells?_some hc
  obtain ⟨xs, n, _, hx, _, hxl, hf⟩ := DataW.trod_struct Try.underlying44 h
  match cs, hlen with
  | [c0, c1, c2, c3, c4], _ =>
    match xs, hxl with
    | [x0, x1, x2, x3, x4], _ =>
      have g0 : DataW.trod enc Try.prog W base spare held n 5 [c0] = some x0 := by have := hf 0 _ rfl; exact this
      have g1 : DataW.trod enc Try.prog W base spare held n 3 [c1] = some x1 := by have := hf 1 _ rfl; exact this
      have g2 : DataW.trod enc Try.prog W base spare held n 28 [c2] = some x2 := by have := hf 2 _ rfl; exact this
      have g3 : DataW.trod enc Try.prog W base spare held n 42 [c3] = some x3 := by have := hf 3 _ rfl; exact this
      have g4 : DataW.trod enc Try.prog W base spare held n 5 [c4] = some x4 := by have := hf 4 _ rfl; exact this
      obtain ⟨k, hk, _, wk⟩ := DataW.trod_int Try.underlying5 g0
      obtain ⟨i, hi, _, wi⟩ := DataW.trod_int Try.underlying3 g1
      obtain ⟨v, hv, _, wv⟩ := DataW.trod_int Try.underlying5 g4
      have ed : d = .agg [x0.1, x1.1, x2.1, x3.1, x4.1] := congrArg Prod.fst hx
      have hw2 : ∀ n ∈ x2.1.weights Try.prog 28, n ≤ reachBytes := fun n hn => hw n (by
        rw [ed]
        simp only [DataW.weights, Try.underlying44]
        exact DataW.weights_mem_each (j := 2) (t := 28) (d := x2.1) rfl rfl n hn)
      have hw3 : ∀ n ∈ x3.1.weights Try.prog 42, n ≤ reachBytes := fun n hn => hw n (by
        rw [ed]
        simp only [DataW.weights, Try.underlying44]
        exact DataW.weights_mem_each (j := 3) (t := 42) (d := x3.1) rfl rfl n hn)
      obtain ⟨l, hl, hll⟩ := open_bytes g2 hw2
      obtain ⟨K, hK, hKl⟩ := open_bools g3 hw3
      simp only [List.cons.injEq, and_true] at hk hi hv
      subst hk
      subst hi
      subst hv
      have wk' := wk
      have wv' := wv
      simp only [Lit.wf, Bool.and_eq_true, decide_eq_true_eq] at wk' wv'
      have mn : IntKind.u8.min = 0 := rfl
      have mx : IntKind.u8.max = 255 := rfl
      obtain ⟨k', rfl⟩ := Int.eq_ofNat_of_zero_le (show 0 ≤ k by omega)
      obtain ⟨v', rfl⟩ := Int.eq_ofNat_of_zero_le (show 0 ≤ v by omega)
      have a0 := hat 0 (by decide)
      have a1 := hat 1 (by decide)
      have a2 := hat 2 (by decide)
      have a3 := hat 3 (by decide)
      have a4 := hat 4 (by decide)
      rw [Addr.add_lit] at a0 a1 a2 a3 a4
      exact ⟨⟨k', i, l, K, v'⟩, a0, a1, ⟨c2, a2, hl⟩, ⟨c3, a3, hK⟩, a4, (show k' ≤ 255 by omega), (show v' ≤ 255 by omega), wi, hll, hKl⟩
/-- Deeds that came in. -/
theorem open_deeds {v : Value} {x : DataW H × List MemPlace} (h : DataW.trod enc Try.prog W base spare held fuel 33 [v] = some x) (hw : ∀ n ∈ x.1.weights Try.prog 33, n ≤ reachBytes) :
    ∃ l : List Deed, DS W v l := by
  have hr := reach_le
  rcases Go.Deep.open_slice Try.underlying33 h with ⟨hcs, hx⟩ | ⟨a, len, cap, m, n, Dt, Pl, hcs, _, hl, hm, hmm, hx, hi⟩
  · simp only [List.cons.injEq, and_true] at hcs
    subst hcs
    exact ⟨[], none, 0, rfl, by simp, .inl rfl⟩
  · simp only [List.cons.injEq, and_true] at hcs
    subst hcs
    have hml : len ≤ m := by rw [hmm]; split <;> omega
    have h1 := hw ((((List.range len).map Dt).length + ((List.range (m - len)).map fun j => Dt (len + j)).length) * Try.prog.bytesOf 44) (by rw [hx]; simp [DataW.weights, Try.underlying33])
    rw [by44] at h1
    simp only [List.length_map, List.length_range] at h1
    rcases Nat.eq_zero_or_pos len with h0 | h0
    · subst h0
      exact ⟨[], some a, cap, rfl, by simp, .inl rfl⟩
    · have hspot : ∃ b off, a = ⟨b, off, none⟩ ∧ b < W.heap.size := by
        obtain ⟨cs', hc, ht⟩ := hi 0 (by omega)
        rw [ce44] at hc
        obtain ⟨_, hlen, hat⟩ := World.cells?_some hc
        obtain ⟨b, off, spot⟩ := a
        have c0 := hat 0 (by omega)
        rw [Nat.zero_mul] at c0
        rw [List.getElem?_eq_getElem (by omega)] at c0
        have hs : spot = none := by simpa [Addr.add] using World.cell?_spot c0
        subst hs
        refine ⟨b, off, rfl, ?_⟩
        have := block_lt_of_cell c0
        rw [Addr.add_lit, Addr.add_lit] at this
        exact this
      obtain ⟨b, off, rfl, hb⟩ := hspot
      have hall : ∀ i, i < len → ∃ x : Deed, DeedAt W b (off + i * 5) x := by
        intro i hil
        obtain ⟨cs', hc, ht⟩ := hi i (by omega)
        rw [ce44, Addr.add_lit] at hc
        refine open_deed hc ht (fun n hn => hw n ?_)
        rw [hx]
        simp only [DataW.weights, Try.underlying33]
        refine List.mem_cons.2 (.inr (List.mem_append.2 (.inl (mem_all (d := Dt i) (List.mem_map.2 ⟨i, List.mem_range.2 hil, rfl⟩) n hn))))
      have hsel : ∀ n, n ≤ len → ∃ l : List Deed, l.length = n ∧ ∀ j (hj : j < l.length), DeedAt W b (off + j * 5) l[j] := by
        intro n
        induction n with
        | zero => intro _; exact ⟨[], rfl, fun j hj => by simp at hj⟩
        | succ n ih =>
          intro hn
          obtain ⟨l, hL, hc⟩ := ih (by omega)
          obtain ⟨x, hx⟩ := hall n (by omega)
          refine ⟨l ++ [x], by simp [hL], fun j hj => ?_⟩
          rw [List.length_append, List.length_singleton] at hj
          by_cases hjn : j < l.length
          · rw [List.getElem_append_left hjn]; exact hc j hjn
          · have e : j = l.length := by omega
            subst e
            rw [List.getElem_append_right (Nat.le_refl _)]
            simp only [Nat.sub_self, List.getElem_cons_zero]
            rw [hL]; exact hx
      obtain ⟨l, hL, hc⟩ := hsel len (Nat.le_refl _)
      exact ⟨l, some ⟨b, off, none⟩, cap, by rw [hL], by omega, .inr ⟨b, off, rfl, hb, hc⟩⟩
end
end Go.Proofs.Ytpaahbohbnfibaa
