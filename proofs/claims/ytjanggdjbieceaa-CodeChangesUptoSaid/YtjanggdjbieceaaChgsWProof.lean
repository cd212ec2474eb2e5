/-
  The given statement on CodeChanges where what it reads is of bulk at most 1048576, proved: for all changes, bytes, choices and numbers the call returns true, and the arguments read as they did.
-/
import Derived.Test.YtjanggdjbieceaaRows
import Derived.Test.YtjanggdjbieceaaOpen
import Derived.Test.YtjanggdjbieceaaChgsW
import Derived.Deep.Slices
import Derived.WalkKit
import Derived.ProofKit
import Derived.OpenShut
import Derived.ShutString
import Derived.ChangeOld
import Derived.Below
import Derived.SizedLaws
import Derived.JoinedCond
namespace Go.Proofs.Ytjanggdjbieceaa.codeChanges
open Go.Rst
open Go.ChangeShapes Go.WideShapes Go.ChangeAt Go.RowKit
open Go.ChangeMaps (open_string shut_string)
set_option linter.unusedVariables false

theorem own : ownKnob Try.prog.godebug = none := by kernel_rfl
theorem laidOut : laidOutB Try.prog = true := by kernel_rfl

section
variable {H : Type}
theorem bulk_append (xs ys : List (DataW H)) : Rows.uptoBulkAll (xs ++ ys) = Rows.uptoBulkAll xs + Rows.uptoBulkAll ys := by
  induction xs with
  | nil => simp [Rows.uptoBulkAll]
  | cons x xs ih => simp only [List.cons_append, Rows.uptoBulkAll, ih]; omega
theorem bulk_pos (d : DataW H) : 1 ≤ Rows.uptoBulk d := by
  unfold Rows.uptoBulk
  split <;> omega
theorem bulk_length (xs : List (DataW H)) : xs.length ≤ Rows.uptoBulkAll xs := by
  induction xs with
  | nil => simp
  | cons x xs ih =>
    have := bulk_pos x
    simp only [List.length_cons, Rows.uptoBulkAll]
    omega
theorem totC_snoc (rs : List Chg) (r : Chg) : totC (rs ++ [r]) = totC rs + (r.1.size + r.2.1.length + 1) := by
  unfold totC sizesC
  rw [List.map_append, List.sum_append, List.length_append]
  simp only [List.map_cons, List.map_nil, List.sum_cons, List.sum_nil, List.length_cons, List.length_nil]
  omega
/-- The changes that are read, one behind the other, are no more than the bulk. -/
theorem chgs_upto {W : World} {a : Addr} {D : Nat → DataW H} {len : Nat}
    (h : ∀ i, i < len → ∃ (k : ByteArray) (u : Value) (l : List UInt8) (b : Bool), W.cell? (a.add (i * 3)) = some (.string k) ∧ W.cell? (a.add (i * 3 + 1)) = some u ∧ RB W u l ∧ W.cell? (a.add (i * 3 + 2)) = some (.bool b) ∧ k.size + l.length + 1 ≤ Rows.uptoBulk (D i)) :
    ∀ n, n ≤ len → ∃ rs : List Chg, rs.length = n ∧ totC rs ≤ Rows.uptoBulkAll ((List.range n).map D) ∧
      ∀ j (hj : j < rs.length), W.cell? (a.add (j * 3)) = some (.string rs[j].1) ∧ (∃ u, W.cell? (a.add (j * 3 + 1)) = some u ∧ RB W u rs[j].2.1) ∧ W.cell? (a.add (j * 3 + 2)) = some (.bool rs[j].2.2)
  | 0, _ => ⟨[], rfl, by simp [totC, sizesC], fun j hj => by simp at hj⟩
  | n + 1, hn => by
    obtain ⟨rs, hl, ht, hc⟩ := chgs_upto h n (by omega)
    obtain ⟨k, u, l, b, h0, h1, h2, h4, h3⟩ := h n (by omega)
    refine ⟨rs ++ [(k, l, b)], by simp [hl], ?_, fun j hj => ?_⟩
    · rw [totC_snoc, List.range_succ, List.map_append, bulk_append]
      simp only [List.map_cons, List.map_nil, Rows.uptoBulkAll]
      omega
    · rw [List.length_append] at hj
      simp only [List.length_cons, List.length_nil] at hj
      by_cases hjn : j < rs.length
      · rw [List.getElem_append_left hjn]
        exact hc j hjn
      · have e : j = rs.length := by omega
        subst e
        rw [List.getElem_append_right (Nat.le_refl _)]
        simp only [Nat.sub_self, List.getElem_cons_zero]
        rw [hl]
        exact ⟨h0, ⟨u, h1, h2⟩, h4⟩
end
/-- Bytes whose first places came in. -/
theorem row_part {W : World} {a : Addr} {len cap : Nat} {zs : List Int} (hl : len ≤ cap) (hm : cap ≤ maxLen) (hzl : len ≤ zs.length) (hcell : ∀ i, i < zs.length → W.cell? (a.add i) = some (.int .u8 (zs.getD i 0))) (hwf : ∀ n ∈ zs, (Lit.int .u8 n).wf = true) :
    ∃ l : List UInt8, len = l.length ∧ RB W (.slice (some a) l.length cap) l := by
  have hlen : ((zs.take len).map fun z => UInt8.ofNat z.toNat).length = len := by simp; omega
  refine ⟨(zs.take len).map fun z => UInt8.ofNat z.toNat, hlen.symm, some a, cap, rfl, by omega, hm, ?_⟩
  rcases Nat.eq_zero_or_pos len with h0 | h0
  · exact .inl (List.eq_nil_of_length_eq_zero (by omega))
  · obtain ⟨b, off, spot⟩ := a
    have hc := hcell 0 (by omega)
    have hspot : spot = none := by simpa [Addr.add] using World.cell?_spot hc
    subst hspot
    refine .inr ⟨b, off, rfl, ?_, fun j hj => ?_⟩
    · have h1 := block_lt_of_cell hc
      rw [Addr.add_lit] at h1
      exact h1
    · rw [hlen] at hj
      have h1 := hcell j (by omega)
      rw [Addr.add_lit] at h1
      rw [h1]
      have hj' : j < zs.length := by omega
      have e : (zs.getD j 0) = zs[j] := by rw [List.getD_eq_getElem?_getD, List.getElem?_eq_getElem hj']; simp
      have h2 := hwf zs[j] (List.getElem_mem hj')
      simp only [Lit.wf, Bool.and_eq_true, decide_eq_true_eq] at h2
      have mn : IntKind.u8.min = 0 := rfl
      have mx : IntKind.u8.max = 255 := rfl
      rw [mn, mx] at h2
      rw [e]
      unfold bv
      congr 2
      simp only [List.getElem_map, List.getElem_take, UInt8.toNat_ofNat']
      omega
section
variable {H : Type} {enc : TypeId × Value → H}
/-- Bytes that came in, and what they weigh. -/
theorem open_bytes {W : World} {base : Nat} {spare : Nat → Bool} {held : Bool} {fuel : Nat} {v : Value} {x : DataW H × List MemPlace} (h : DataW.trod enc Try.prog W base spare held fuel 22 [v] = some x) :
    ∃ l : List UInt8, RB W v l ∧ l.length ≤ Rows.uptoBulk x.1 := by
  rcases open_ints Try.underlying22 Try.underlying5 (by kernel_rfl) h with ⟨hcs, hx⟩ | ⟨a, len, cap, zs, hcs, _, hl, hm, hz, hx, hcell, hwz⟩
  · simp only [List.cons.injEq, and_true] at hcs
    subst hcs
    exact ⟨[], RB.nil_ W, by simp⟩
  · simp only [List.cons.injEq, and_true] at hcs
    subst hcs
    have hzl : len ≤ zs.length := by rw [hz]; split <;> omega
    obtain ⟨l, hll, hrb⟩ : ∃ l : List UInt8, len = l.length ∧ RB W (.slice (some a) l.length cap) l := row_part hl hm hzl hcell hwz
    refine ⟨l, by rw [hll]; exact hrb, ?_⟩
    subst hx
    simp only [Rows.uptoBulk]
    have h1 := bulk_length (lits (H := H) .u8 (zs.take len))
    simp only [lits, List.length_map, List.length_take] at h1
    simp only [lits]
    omega
theorem one9 : Try.prog.cellsOf 9 = 1 := by kernel_rfl
theorem one22 : Try.prog.cellsOf 22 = 1 := by kernel_rfl
theorem one4 : Try.prog.cellsOf 4 = 1 := by kernel_rfl
theorem three49 : Try.prog.cellsOf 49 = 3 := by kernel_rfl
/-- One change that came in, and what it weighs. -/
theorem open_chg {W : World} {base : Nat} {spare : Nat → Bool} {held : Bool} {fuel : Nat} {cs : List Value} {d : DataW H} {ps : List MemPlace} {a : Addr} (hc : W.cells? base a 3 = some cs) (h : DataW.trod enc Try.prog W base spare held fuel 49 cs = some (d, ps)) :
    ∃ (k : ByteArray) (u : Value) (l : List UInt8) (b : Bool), W.cell? a = some (.string k) ∧ W.cell? (a.add 1) = some u ∧ RB W u l ∧ W.cell? (a.add 2) = some (.bool b) ∧ k.size + l.length + 1 ≤ Rows.uptoBulk d := by
  obtain ⟨_, hlen, hat⟩ := World.cells?_some hc
  obtain ⟨xs, n, _, hx, _, hxl, hf⟩ := DataW.trod_struct Try.underlying49 h
  match cs, hlen with
  | [c0, c1, c2], _ =>
    match xs, hxl with
    | [x0, x1, x2], _ =>
      have g0 : DataW.trod enc Try.prog W base spare held n 9 (([c0, c1, c2].drop 0).take (Try.prog.cellsOf 9)) = some x0 := hf 0 _ rfl
      have g1 : DataW.trod enc Try.prog W base spare held n 22 (([c0, c1, c2].drop 1).take (Try.prog.cellsOf 22)) = some x1 := hf 1 _ rfl
      have g2 : DataW.trod enc Try.prog W base spare held n 4 (([c0, c1, c2].drop 2).take (Try.prog.cellsOf 4)) = some x2 := hf 2 _ rfl
      rw [one9] at g0
      rw [one22] at g1
      rw [one4] at g2
      have f0 : DataW.trod enc Try.prog W base spare held n 9 [c0] = some x0 := g0
      have f1 : DataW.trod enc Try.prog W base spare held n 22 [c1] = some x1 := g1
      have f2 : DataW.trod enc Try.prog W base spare held n 4 [c2] = some x2 := g2
      obtain ⟨k, hk, hkx, _⟩ := DataW.trod_string Try.underlying9 f0
      obtain ⟨l, hr, hlb⟩ := open_bytes f1
      obtain ⟨b, hb, _⟩ := DataW.trod_bool Try.underlying4 f2
      simp only [List.cons.injEq, and_true] at hk hb
      subst hk
      subst hb
      have a0 := hat 0 (by decide)
      have a1 := hat 1 (by decide)
      have a2 := hat 2 (by decide)
      refine ⟨k, c1, l, b, ?_, by simpa using a1, hr, by simpa using a2, ?_⟩
      · simpa [Addr.add] using a0
      · have e1 := size_list k
        have ed : d = .agg [x0.1, x1.1, x2.1] := congrArg Prod.fst hx
        have e0 : x0.1 = .lit (.string k.data.toList) := congrArg Prod.fst hkx
        rw [ed, e0]
        simp only [Rows.uptoBulk, Rows.uptoBulkAll]
        omega
/-- Changes that came in, and what they weigh. -/
theorem open_chgs {W : World} {base : Nat} {spare : Nat → Bool} {held : Bool} {fuel : Nat} {v : Value} {x : DataW H × List MemPlace} (h : DataW.trod enc Try.prog W base spare held fuel 24 [v] = some x) :
    ∃ rs : List Chg, RC W v rs ∧ totC rs ≤ Rows.uptoBulk x.1 := by
  rcases Go.Deep.open_slice Try.underlying24 h with ⟨hcs, hx⟩ | ⟨a, len, cap, m, n, D, Pl, hcs, _, hl, hm, hmm, hx, hi⟩
  · simp only [List.cons.injEq, and_true] at hcs
    subst hcs
    exact ⟨[], ⟨none, 0, rfl, Nat.le_refl _, Nat.zero_le _, .inl rfl⟩, by simp [totC, sizesC]⟩
  · simp only [List.cons.injEq, and_true] at hcs
    subst hcs
    have hml : len ≤ m := by rw [hmm]; split <;> omega
    have hall : ∀ i, i < len → ∃ (k : ByteArray) (u : Value) (l : List UInt8) (b : Bool), W.cell? (a.add (i * 3)) = some (.string k) ∧ W.cell? (a.add (i * 3 + 1)) = some u ∧ RB W u l ∧ W.cell? (a.add (i * 3 + 2)) = some (.bool b) ∧ k.size + l.length + 1 ≤ Rows.uptoBulk (D i) := by
      intro i hil
      obtain ⟨cs', hc, ht⟩ := hi i (by omega)
      rw [three49] at hc
      obtain ⟨k, u, l, b, g0, g1, g2, g3, g4⟩ := open_chg hc ht
      rw [Go.Deep.add_add] at g1 g3
      exact ⟨k, u, l, b, g0, g1, g2, g3, g4⟩
    obtain ⟨rs, hlen, htot, hc⟩ := chgs_upto hall len (Nat.le_refl _)
    refine ⟨rs, ?_, ?_⟩
    · rcases Nat.eq_zero_or_pos len with h0 | h0
      · have : rs = [] := List.eq_nil_of_length_eq_zero (by omega)
        subst this
        exact ⟨some a, cap, by rw [h0]; rfl, Nat.zero_le _, hm, .inl rfl⟩
      · obtain ⟨b, off, spot⟩ := a
        obtain ⟨c0, c1⟩ := hc 0 (by omega)
        have hspot : spot = none := by simpa [Addr.add] using World.cell?_spot c0
        subst hspot
        refine ⟨some ⟨b, off, none⟩, cap, by rw [hlen], by omega, hm, .inr ⟨b, off, rfl, ?_, fun j hj => ?_⟩⟩
        · have h1 := block_lt_of_cell c0
          rw [Addr.add_lit] at h1
          exact h1
        · have h1 := hc j hj
          rw [Addr.add_lit, Addr.add_lit, Addr.add_lit] at h1
          exact h1
    · subst hx
      simp only [Rows.uptoBulk]
      omega
end

theorem contract (H : Type) (enc : TypeId × Value → H) (W : World) (base : Nat) (args : Array Value) (ds gs : List (DataW H)) (before : List MemPlace)
    (hval0 : ∀ (j : Nat) t v, Try.f7.params[j]? = some t → args[j]? = some v → Value.okWide Try.prog W .any base t v)
    (hW : DataW.Whole enc Try.prog Try.f7.params.toList Rows.codeChangesSpec.vars false W args.toList ds gs before) (hk : Rows.uptoSmall H (ds ++ gs) = true) :
    Calls Try.prog 7 args W fun e W' => ∃ v, e = .returned v ∧ Rows.codeChangesSpec.post enc Try.prog Try.f7 false true false false W args v W' := by
  have hval := hval0
  have hW' := hW
  obtain ⟨p, q, hA0, hV, rfl, hfz, hnd⟩ := hW
  have hA : DataW.TrodAll enc Try.prog W 0 (fun _ => true) true Try.f7.params.toList args.toList ds p := hA0
  rw [Try.params7] at hA hval
  obtain ⟨v0, vs0, d0, ds0, p0, q0, hargs, rfl, rfl, h0, r0⟩ := trodAll_cons hA
  obtain ⟨v1, vs1, d1, ds1, p1, q1, rfl, rfl, rfl, h1, r1⟩ := trodAll_cons r0
  obtain ⟨v2, vs2, d2, ds2, p2, q2, rfl, rfl, rfl, h2, r2⟩ := trodAll_cons r1
  obtain ⟨v3, vs3, d3, ds3, p3, q3, rfl, rfl, rfl, h3, r3⟩ := trodAll_cons r2
  obtain ⟨v4, vs4, d4, ds4, p4, q4, rfl, rfl, rfl, h4, r4⟩ := trodAll_cons r3
  obtain ⟨v5, vs5, d5, ds5, p5, q5, rfl, rfl, rfl, h5, r5⟩ := trodAll_cons r4
  obtain ⟨rfl, rfl, rfl⟩ := trodAll_nil r5
  obtain rfl : args = #[v0, v1, v2, v3, v4, v5] := by cases args; simp_all
  obtain ⟨rfl, rfl⟩ := trodVars_none hV
  obtain ⟨A0, len0, cap0, rfl⟩ := okWide_slice Try.underlying24 (hval 0 24 v0 rfl rfl)
  obtain ⟨A1, len1, cap1, rfl⟩ := okWide_slice Try.underlying22 (hval 1 22 v1 rfl rfl)
  obtain ⟨A2, len2, cap2, rfl⟩ := okWide_slice Try.underlying22 (hval 2 22 v2 rfl rfl)
  obtain ⟨a3, rfl, rfl, rfl, w3⟩ := open_int Try.underlying25 (hval 3 25 v3 rfl rfl) h3
  obtain ⟨a4, rfl, rfl, rfl, w4⟩ := open_int Try.underlying5 (hval 4 5 v4 rfl rfl) h4
  obtain ⟨a5, rfl, rfl, rfl, w5⟩ := open_int Try.underlying5 (hval 5 5 v5 rfl rfl) h5
  have k0 := h0
  have lt0 : ∀ x ∈ p0, x.block < W.heap.size := by obtain ⟨m, hm⟩ := k0; exact DataW.trod_lt m _ _ _ hm
  have k1 := h1
  have lt1 : ∀ x ∈ p1, x.block < W.heap.size := by obtain ⟨m, hm⟩ := k1; exact DataW.trod_lt m _ _ _ hm
  have k2 := h2
  have lt2 : ∀ x ∈ p2, x.block < W.heap.size := by obtain ⟨m, hm⟩ := k2; exact DataW.trod_lt m _ _ _ hm
  obtain ⟨rs, hrc, ht⟩ : ∃ rs, RC W (.slice A0 len0 cap0) rs ∧ totC rs ≤ Rows.uptoBulk d0 := by
    obtain ⟨fuel, hf⟩ := h0
    exact open_chgs (x := (d0, p0)) hf
  obtain ⟨l1, hr1, hb1⟩ : ∃ l, RB W (.slice A1 len1 cap1) l ∧ l.length ≤ Rows.uptoBulk d1 := by
    obtain ⟨fuel, hf⟩ := h1
    exact open_bytes (x := (d1, p1)) hf
  obtain ⟨l2, hr2, hb2⟩ : ∃ l, RB W (.slice A2 len2 cap2) l ∧ l.length ≤ Rows.uptoBulk d2 := by
    obtain ⟨fuel, hf⟩ := h2
    exact open_bytes (x := (d2, p2)) hf
  have hb : Rows.uptoBulkAll ([d0, d1, d2, DataW.lit (H := H) (.int .u16 a3), .lit (.int .u8 a4), .lit (.int .u8 a5)] ++ []) ≤ 1048576 := of_decide_eq_true hk
  simp only [List.append_nil, Rows.uptoBulkAll, Rows.uptoBulk] at hb
  have hb3 := w3
  have hb4 := w4
  have hb5 := w5
  simp only [Lit.wf, Bool.and_eq_true, decide_eq_true_eq] at hb3 hb4 hb5
  have mn3 : IntKind.u16.min = 0 := rfl
  have mx3 : IntKind.u16.max = 65535 := rfl
  have mn4 : IntKind.u8.min = 0 := rfl
  have mx4 : IntKind.u8.max = 255 := rfl
  obtain ⟨k3, rfl⟩ := Int.eq_ofNat_of_zero_le (show 0 ≤ a3 by omega)
  obtain ⟨k5, rfl⟩ := Int.eq_ofNat_of_zero_le (show 0 ≤ a5 by omega)
  obtain ⟨c4, rfl⟩ := byte_of (show 0 ≤ a4 by omega) (by omega)
  clear hA0 hval0
  refine (chgs_walk _ rs _ l1 _ l2 k3 c4 k5 W hrc hr1 (by omega) hr2 (by omega) (by omega) (by omega)).mono fun e W' ⟨he, bel⟩ => ?_
  subst he
  exact ⟨_, rfl, _, _, _, [], _, [], hW', trodAll_mk1 (shut_bool Try.underlying4 _), (trodAll_cons_mk (Below.trod laidOut (by kernel_rfl) (of_decide_eq_true (by kernel_rfl)) k0 bel lt0) (trodAll_cons_mk (Below.trod laidOut (by kernel_rfl) (of_decide_eq_true (by kernel_rfl)) k1 bel lt1) (trodAll_cons_mk (Below.trod laidOut (by kernel_rfl) (of_decide_eq_true (by kernel_rfl)) k2 bel lt2) (trodAll_cons_mk (shut_int Try.underlying25 w3) (trodAll_cons_mk (shut_int Try.underlying5 w4) (trodAll_cons_mk (shut_int Try.underlying5 w5) trodAll_mk0)))))), rfl, bel.frame _, fun h => by cases h⟩

set_option maxRecDepth 100000 in
theorem lifted (os : Os) (started : os.Started) (H : Type) (enc : TypeId × Value → H) (F : Stop.Interp) :
    ReturnsInHanded {} Try.checked os 7 .any ((Rows.OpenSpec.upto Rows.codeChangesSpec).pre6 enc Try.prog Try.f7 Rows.codeChangesUptoRow.domain false) (((Rows.OpenSpec.upto Rows.codeChangesSpec).at F).post enc Try.prog Try.f7 false true false false) := by
  refine returnsInHanded_of_cond (C := Try.checked) (s := Rows.OpenSpec.upto Rows.codeChangesSpec) (k := Rows.uptoSmall) rfl own started (by kernel_rfl) Try.func7
    (OpenSpec.witness (enc := enc) (C := Try.checked) (s := Rows.OpenSpec.upto Rows.codeChangesSpec) (k := Rows.uptoSmall) rfl false ⟨#[], #[.slice none 0 0, .slice none 0 0, .slice none 0 0, .int .u16 0, .int .u8 0, .int .u8 0], []⟩ 8 (by kernel_rfl) (by kernel_rfl) (by kernel_rfl)
      (x := ([.nil, .nil, .nil, .lit (.int .u16 0), .lit (.int .u8 0), .lit (.int .u8 0)], [], [])) (by kernel_rfl) rfl (by kernel_rfl)) ?_
  intro W base args ds gs before hval hW _ hk _
  exact contract H enc W base args ds gs before hval hW hk

theorem proved : Rows.CodeChangesUptoSaid :=
  OpenClaim.holds_of_cond 7 Try.f7 rfl rfl rfl rfl rfl rfl rfl ⟨rfl, rfl, rfl, rfl, rfl⟩ rfl rfl rfl rfl rfl (by kernel_rfl) Try.func7 (by kernel_rfl)
    (of_decide_eq_true (by kernel_rfl)) (by unfold Func.isWrapper; first | (rw [if_pos (by decide +kernel)]; kernel_rfl) | (rw [if_neg (by decide +kernel)]; exact ⟨rfl, rfl⟩))
    (fun os started H enc _ F => lifted os started H enc F)
#print axioms proved
end Go.Proofs.Ytjanggdjbieceaa.codeChanges
