/-
  The given statement on CodePuts where what it reads is of bulk at most 1048576, proved: for every number, text, rows, bytes and choices the call returns true, and the arguments read as they did.
-/
import Derived.Test.YtjanggdjbieceaaRows
import Derived.Test.YtjanggdjbieceaaOpen
import Derived.Test.YtjanggdjbieceaaPutsW
import Derived.Deep.SlicePairs
import Derived.WalkKit
import Derived.ProofKit
import Derived.OpenShut
import Derived.ShutString
import Derived.ChangeOld
import Derived.Below
import Derived.SizedLaws
import Derived.JoinedCond
namespace Go.Proofs.Ytjanggdjbieceaa.codePuts
open Go.Rst
open Go.ChangeShapes Go.WideShapes Go.ChangeAt Go.RowKit
open Go.ChangeMaps (open_string shut_string)
set_option linter.unusedVariables false

theorem own : ownKnob Try.prog.godebug = none := by kernel_rfl
theorem laidOut : laidOutB Try.prog = true := by kernel_rfl

section
variable {H : Type}
theorem bulk_append (xs ys : List (DataW H)) : Rows.uptoBulkAll (xs ++ ys) = Rows.uptoBulkAll xs + Rows.uptoBulkAll ys := by
  induction xs with
  | nil => simp [Rows.uptoBulkAll]
  | cons x xs ih => simp only [List.cons_append, Rows.uptoBulkAll, ih]; omega
theorem bulk_pos (d : DataW H) : 1 ≤ Rows.uptoBulk d := by
  unfold Rows.uptoBulk
  split <;> omega
theorem bulk_length (xs : List (DataW H)) : xs.length ≤ Rows.uptoBulkAll xs := by
  induction xs with
  | nil => simp
  | cons x xs ih =>
    have := bulk_pos x
    simp only [List.length_cons, Rows.uptoBulkAll]
    omega
theorem tot_snoc (rs : List (ByteArray × List UInt8)) (r : ByteArray × List UInt8) : tot (rs ++ [r]) = tot rs + (r.1.size + r.2.length + 1) := by
  unfold tot sizes
  rw [List.map_append, List.sum_append, List.length_append]
  simp only [List.map_cons, List.map_nil, List.sum_cons, List.sum_nil, List.length_cons, List.length_nil]
  omega
/-- The rows that are read, one behind the other, are no more than the bulk. -/
theorem rows_upto {W : World} {a : Addr} {D : Nat → DataW H} {len : Nat}
    (h : ∀ i, i < len → ∃ (k : ByteArray) (u : Value) (l : List UInt8), W.cell? (a.add (i * 2)) = some (.string k) ∧ W.cell? (a.add (i * 2 + 1)) = some u ∧ RB W u l ∧ k.size + l.length + 1 ≤ Rows.uptoBulk (D i)) :
    ∀ n, n ≤ len → ∃ rs : List (ByteArray × List UInt8), rs.length = n ∧ tot rs ≤ Rows.uptoBulkAll ((List.range n).map D) ∧
      ∀ j (hj : j < rs.length), W.cell? (a.add (j * 2)) = some (.string rs[j].1) ∧ ∃ u, W.cell? (a.add (j * 2 + 1)) = some u ∧ RB W u rs[j].2
  | 0, _ => ⟨[], rfl, by simp [tot, sizes], fun j hj => by simp at hj⟩
  | n + 1, hn => by
    obtain ⟨rs, hl, ht, hc⟩ := rows_upto h n (by omega)
    obtain ⟨k, u, l, h0, h1, h2, h3⟩ := h n (by omega)
    refine ⟨rs ++ [(k, l)], by simp [hl], ?_, fun j hj => ?_⟩
    · rw [tot_snoc, List.range_succ, List.map_append, bulk_append]
      simp only [List.map_cons, List.map_nil, Rows.uptoBulkAll]
      omega
    · rw [List.length_append] at hj
      simp only [List.length_cons, List.length_nil] at hj
      by_cases hjn : j < rs.length
      · rw [List.getElem_append_left hjn]
        exact hc j hjn
      · have e : j = rs.length := by omega
        subst e
        rw [List.getElem_append_right (Nat.le_refl _)]
        simp only [Nat.sub_self, List.getElem_cons_zero]
        rw [hl]
        exact ⟨h0, u, h1, h2⟩
end
/-- Bytes whose first places came in. -/
theorem row_part {W : World} {a : Addr} {len cap : Nat} {zs : List Int} (hl : len ≤ cap) (hm : cap ≤ maxLen) (hzl : len ≤ zs.length) (hcell : ∀ i, i < zs.length → W.cell? (a.add i) = some (.int .u8 (zs.getD i 0))) (hwf : ∀ n ∈ zs, (Lit.int .u8 n).wf = true) :
    ∃ l : List UInt8, len = l.length ∧ RB W (.slice (some a) l.length cap) l := by
  have hlen : ((zs.take len).map fun z => UInt8.ofNat z.toNat).length = len := by simp; omega
  refine ⟨(zs.take len).map fun z => UInt8.ofNat z.toNat, hlen.symm, some a, cap, rfl, by omega, hm, ?_⟩
  rcases Nat.eq_zero_or_pos len with h0 | h0
  · exact .inl (List.eq_nil_of_length_eq_zero (by omega))
  · obtain ⟨b, off, spot⟩ := a
    have hc := hcell 0 (by omega)
    have hspot : spot = none := by simpa [Addr.add] using World.cell?_spot hc
    subst hspot
    refine .inr ⟨b, off, rfl, ?_, fun j hj => ?_⟩
    · have h1 := block_lt_of_cell hc
      rw [Addr.add_lit] at h1
      exact h1
    · rw [hlen] at hj
      have h1 := hcell j (by omega)
      rw [Addr.add_lit] at h1
      rw [h1]
      have hj' : j < zs.length := by omega
      have e : (zs.getD j 0) = zs[j] := by rw [List.getD_eq_getElem?_getD, List.getElem?_eq_getElem hj']; simp
      have h2 := hwf zs[j] (List.getElem_mem hj')
      simp only [Lit.wf, Bool.and_eq_true, decide_eq_true_eq] at h2
      have mn : IntKind.u8.min = 0 := rfl
      have mx : IntKind.u8.max = 255 := rfl
      rw [mn, mx] at h2
      rw [e]
      unfold bv
      congr 2
      simp only [List.getElem_map, List.getElem_take, UInt8.toNat_ofNat']
      omega
section
variable {H : Type} {enc : TypeId × Value → H}
/-- Bytes that came in, and what they weigh. -/
theorem open_bytes {W : World} {base : Nat} {spare : Nat → Bool} {held : Bool} {fuel : Nat} {v : Value} {x : DataW H × List MemPlace} (h : DataW.trod enc Try.prog W base spare held fuel 22 [v] = some x) :
    ∃ l : List UInt8, RB W v l ∧ l.length ≤ Rows.uptoBulk x.1 := by
  rcases open_ints Try.underlying22 Try.underlying5 (by kernel_rfl) h with ⟨hcs, hx⟩ | ⟨a, len, cap, zs, hcs, _, hl, hm, hz, hx, hcell, hwz⟩
  · simp only [List.cons.injEq, and_true] at hcs
    subst hcs
    exact ⟨[], RB.nil_ W, by simp⟩
  · simp only [List.cons.injEq, and_true] at hcs
    subst hcs
    have hzl : len ≤ zs.length := by rw [hz]; split <;> omega
    obtain ⟨l, hll, hrb⟩ : ∃ l : List UInt8, len = l.length ∧ RB W (.slice (some a) l.length cap) l := row_part hl hm hzl hcell hwz
    refine ⟨l, by rw [hll]; exact hrb, ?_⟩
    subst hx
    simp only [Rows.uptoBulk]
    have h1 := bulk_length (lits (H := H) .u8 (zs.take len))
    simp only [lits, List.length_map, List.length_take] at h1
    simp only [lits]
    omega
/-- Rows that came in, and what they weigh. -/
theorem open_rows {W : World} {base : Nat} {spare : Nat → Bool} {held : Bool} {fuel : Nat} {v : Value} {x : DataW H × List MemPlace} (h : DataW.trod enc Try.prog W base spare held fuel 29 [v] = some x) :
    ∃ rs : List (ByteArray × List UInt8), RR W v rs ∧ tot rs ≤ Rows.uptoBulk x.1 := by
  rcases Go.Deep.open_slice_pairs Try.underlying29 Try.underlying34 (by kernel_rfl) rfl rfl (by kernel_rfl) (by kernel_rfl) h with ⟨hcs, hx⟩ | ⟨a, len, cap, m, n, V0, V1, D0, D1, P0, P1, hcs, _, hl, hm, hmm, hx, hi⟩
  · simp only [List.cons.injEq, and_true] at hcs
    subst hcs
    exact ⟨[], ⟨none, 0, rfl, Nat.le_refl _, Nat.zero_le _, .inl rfl⟩, by simp [tot, sizes]⟩
  · simp only [List.cons.injEq, and_true] at hcs
    subst hcs
    have hml : len ≤ m := by rw [hmm]; split <;> omega
    have hall : ∀ i, i < len → ∃ (k : ByteArray) (u : Value) (l : List UInt8), W.cell? (a.add (i * 2)) = some (.string k) ∧ W.cell? (a.add (i * 2 + 1)) = some u ∧ RB W u l ∧ k.size + l.length + 1 ≤ Rows.uptoBulk (DataW.agg [D0 i, D1 i]) := by
      intro i hil
      obtain ⟨c0, c1, t0, t1⟩ := hi i (by omega)
      obtain ⟨k, hk, hkx, _⟩ := DataW.trod_string Try.underlying9 t0
      simp only [List.cons.injEq, and_true] at hk
      obtain ⟨l, hr, hlb⟩ := open_bytes t1
      refine ⟨k, V1 i, l, by rw [c0, hk], c1, hr, ?_⟩
      have e0 : D0 i = .lit (.string k.data.toList) := congrArg Prod.fst hkx
      have e1 := size_list k
      have hlb' : l.length ≤ Rows.uptoBulk (D1 i) := hlb
      rw [e0]
      simp only [Rows.uptoBulk, Rows.uptoBulkAll]
      omega
    obtain ⟨rs, hlen, htot, hc⟩ := rows_upto hall len (Nat.le_refl _)
    refine ⟨rs, ?_, ?_⟩
    · rcases Nat.eq_zero_or_pos len with h0 | h0
      · have : rs = [] := List.eq_nil_of_length_eq_zero (by omega)
        subst this
        exact ⟨some a, cap, by rw [h0]; rfl, Nat.zero_le _, hm, .inl rfl⟩
      · obtain ⟨b, off, spot⟩ := a
        obtain ⟨c0, c1⟩ := hc 0 (by omega)
        have hspot : spot = none := by simpa [Addr.add] using World.cell?_spot c0
        subst hspot
        refine ⟨some ⟨b, off, none⟩, cap, by rw [hlen], by omega, hm, .inr ⟨b, off, rfl, ?_, fun j hj => ?_⟩⟩
        · have h1 := block_lt_of_cell c0
          rw [Addr.add_lit] at h1
          exact h1
        · have h1 := hc j hj
          rw [Addr.add_lit, Addr.add_lit] at h1
          exact h1
    · subst hx
      simp only [Rows.uptoBulk]
      omega
end

theorem contract (H : Type) (enc : TypeId × Value → H) (W : World) (base : Nat) (args : Array Value) (ds gs : List (DataW H)) (before : List MemPlace)
    (hval0 : ∀ (j : Nat) t v, Try.f6.params[j]? = some t → args[j]? = some v → Value.okWide Try.prog W .any base t v)
    (hW : DataW.Whole enc Try.prog Try.f6.params.toList Rows.codePutsSpec.vars false W args.toList ds gs before) (hk : Rows.uptoSmall H (ds ++ gs) = true) :
    Calls Try.prog 6 args W fun e W' => ∃ v, e = .returned v ∧ Rows.codePutsSpec.post enc Try.prog Try.f6 false true false false W args v W' := by
  have hval := hval0
  have hW' := hW
  obtain ⟨p, q, hA0, hV, rfl, hfz, hnd⟩ := hW
  have hA : DataW.TrodAll enc Try.prog W 0 (fun _ => true) true Try.f6.params.toList args.toList ds p := hA0
  rw [Try.params6] at hA hval
  obtain ⟨v0, vs0, d0, ds0, p0, q0, hargs, rfl, rfl, h0, r0⟩ := trodAll_cons hA
  obtain ⟨v1, vs1, d1, ds1, p1, q1, rfl, rfl, rfl, h1, r1⟩ := trodAll_cons r0
  obtain ⟨v2, vs2, d2, ds2, p2, q2, rfl, rfl, rfl, h2, r2⟩ := trodAll_cons r1
  obtain ⟨v3, vs3, d3, ds3, p3, q3, rfl, rfl, rfl, h3, r3⟩ := trodAll_cons r2
  obtain ⟨v4, vs4, d4, ds4, p4, q4, rfl, rfl, rfl, h4, r4⟩ := trodAll_cons r3
  obtain ⟨rfl, rfl, rfl⟩ := trodAll_nil r4
  obtain rfl : args = #[v0, v1, v2, v3, v4] := by cases args; simp_all
  obtain ⟨rfl, rfl⟩ := trodVars_none hV
  obtain ⟨a0, rfl, rfl, rfl, w0⟩ := open_int Try.underlying3 (hval 0 3 v0 rfl rfl) h0
  obtain ⟨a1, rfl, rfl, rfl, w1⟩ := open_string Try.underlying9 (hval 1 9 v1 rfl rfl) h1
  obtain ⟨a4, rfl, rfl, rfl, w4⟩ := open_int Try.underlying5 (hval 4 5 v4 rfl rfl) h4
  obtain ⟨A2, len2, cap2, rfl⟩ := okWide_slice Try.underlying29 (hval 2 29 v2 rfl rfl)
  obtain ⟨A3, len3, cap3, rfl⟩ := okWide_slice Try.underlying22 (hval 3 22 v3 rfl rfl)
  have k2 := h2
  have lt2 : ∀ x ∈ p2, x.block < W.heap.size := by obtain ⟨m, hm⟩ := k2; exact DataW.trod_lt m _ _ _ hm
  have k3 := h3
  have lt3 : ∀ x ∈ p3, x.block < W.heap.size := by obtain ⟨m, hm⟩ := k3; exact DataW.trod_lt m _ _ _ hm
  obtain ⟨rs, hrr, ht⟩ : ∃ rs, RR W (.slice A2 len2 cap2) rs ∧ tot rs ≤ Rows.uptoBulk d2 := by
    obtain ⟨fuel, hf⟩ := h2
    exact open_rows (x := (d2, p2)) hf
  obtain ⟨l, hrb, hlb⟩ : ∃ l, RB W (.slice A3 len3 cap3) l ∧ l.length ≤ Rows.uptoBulk d3 := by
    obtain ⟨fuel, hf⟩ := h3
    exact open_bytes (x := (d3, p3)) hf
  have hb : Rows.uptoBulkAll ([DataW.lit (H := H) (.int .i64 a0), .lit (.string a1.data.toList), d2, d3, .lit (.int .u8 a4)] ++ []) ≤ 1048576 := of_decide_eq_true hk
  simp only [List.append_nil, Rows.uptoBulkAll, Rows.uptoBulk] at hb
  have e1 := size_list a1
  have hb4 := w4
  simp only [Lit.wf, Bool.and_eq_true, decide_eq_true_eq] at hb4
  have mn4 : IntKind.u8.min = 0 := rfl
  have mx4 : IntKind.u8.max = 255 := rfl
  obtain ⟨k, rfl⟩ := Int.eq_ofNat_of_zero_le (show 0 ≤ a4 by omega)
  clear hA0 hval0
  refine (puts_walk a0 a1 _ rs _ l k W (by omega) hrr (by omega) hrb (by omega) (by omega)).mono fun e W' ⟨he, bel⟩ => ?_
  subst he
  exact ⟨_, rfl, _, _, _, [], _, [], hW', trodAll_mk1 (shut_bool Try.underlying4 _), (trodAll_cons_mk (shut_int Try.underlying3 w0) (trodAll_cons_mk (shut_string Try.underlying9 w1) (trodAll_cons_mk (Below.trod laidOut (by kernel_rfl) (of_decide_eq_true (by kernel_rfl)) k2 bel lt2) (trodAll_cons_mk (Below.trod laidOut (by kernel_rfl) (of_decide_eq_true (by kernel_rfl)) k3 bel lt3) (trodAll_cons_mk (shut_int Try.underlying5 w4) trodAll_mk0))))), rfl, bel.frame _, fun h => by cases h⟩

set_option maxRecDepth 100000 in
theorem lifted (os : Os) (started : os.Started) (H : Type) (enc : TypeId × Value → H) (F : Stop.Interp) :
    ReturnsInHanded {} Try.checked os 6 .any ((Rows.OpenSpec.upto Rows.codePutsSpec).pre6 enc Try.prog Try.f6 Rows.codePutsUptoRow.domain false) (((Rows.OpenSpec.upto Rows.codePutsSpec).at F).post enc Try.prog Try.f6 false true false false) := by
  refine returnsInHanded_of_cond (C := Try.checked) (s := Rows.OpenSpec.upto Rows.codePutsSpec) (k := Rows.uptoSmall) rfl own started (by kernel_rfl) Try.func6
    (OpenSpec.witness (enc := enc) (C := Try.checked) (s := Rows.OpenSpec.upto Rows.codePutsSpec) (k := Rows.uptoSmall) rfl false ⟨#[], #[.int .i64 0, .string .empty, .slice none 0 0, .slice none 0 0, .int .u8 0], []⟩ 8 (by kernel_rfl) (by kernel_rfl) (by kernel_rfl)
      (x := ([.lit (.int .i64 0), .lit (.string []), .nil, .nil, .lit (.int .u8 0)], [], [])) (by kernel_rfl) rfl (by kernel_rfl)) ?_
  intro W base args ds gs before hval hW _ hk _
  exact contract H enc W base args ds gs before hval hW hk

theorem proved : Rows.CodePutsUptoSaid :=
  OpenClaim.holds_of_cond 6 Try.f6 rfl rfl rfl rfl rfl rfl rfl ⟨rfl, rfl, rfl, rfl, rfl⟩ rfl rfl rfl rfl rfl (by kernel_rfl) Try.func6 (by kernel_rfl)
    (of_decide_eq_true (by kernel_rfl)) (by unfold Func.isWrapper; first | (rw [if_pos (by decide +kernel)]; kernel_rfl) | (rw [if_neg (by decide +kernel)]; exact ⟨rfl, rfl⟩))
    (fun os started H enc _ F => lifted os started H enc F)
#print axioms proved
end Go.Proofs.Ytjanggdjbieceaa.codePuts
