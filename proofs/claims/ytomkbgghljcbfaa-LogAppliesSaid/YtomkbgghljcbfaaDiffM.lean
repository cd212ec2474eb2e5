/-
  Plain mathematics: the document's Diff, step by step, makes the same changes. No program.
-/
import Derived.Test.YtomkbgghljcbfaaGChg
namespace Go.Pg
open Go.Rst
/-- Of rising rows each is found by its key. -/
theorem findR_at {l : List Rw} (hs : Sorted l) {i : Nat} (hi : i < l.length) {key : ByteArray} (hk : kl l[i] = key.toList) : findR l key = some l[i] := by
  have h1 : l = l.take i ++ l[i] :: l.drop (i + 1) := by rw [← List.drop_eq_getElem_cons hi, List.take_append_drop]
  have h0 : findR l key = (l.take i ++ l[i] :: l.drop (i + 1)).find? (fun x => x.1.toList == key.toList) := by rw [← h1]; rfl
  rw [h0, List.find?_append, List.find?_cons]
  have h2 : (l.take i).find? (fun x => x.1.toList == key.toList) = none := by
    rw [List.find?_eq_none]
    intro y hy
    obtain ⟨j, hj, rfl⟩ := List.getElem_of_mem hy
    rw [List.length_take] at hj
    rw [List.getElem_take, beq_iff_eq]
    intro e
    have h3 := hs.at (i := j) (j := i) (by omega) hi
    unfold lt at h3
    rw [hk, show kl (l[j]'(by omega)) = key.toList from e, bl_irrefl] at h3
    cases h3
  rw [h2]
  have h3 : (l[i].1.toList == key.toList) = true := beq_iff_eq.2 hk
  simp [h3]
theorem findR_out {l : List Rw} {key : ByteArray} (h : ∀ j (hj : j < l.length), kl l[j] ≠ key.toList) : findR l key = none :=
  findR_none fun y hy => by
    obtain ⟨j, hj, rfl⟩ := List.getElem_of_mem hy
    exact h j hj
/-- The document's Diff under way: out so far, i and k next; p: the row at i has the key of the last that was told. -/
structure DI (fs ts : List Rw) (i k : Nat) (out : List Chg) (p : Bool) : Prop where
  hi : i ≤ fs.length
  hk : k ≤ ts.length
  low : ∀ j (h : j < fs.length), j < i → ∀ (hk : k < ts.length), Op.bytesLess (kl fs[j]) (kl ts[k]) = true
  eqp : p = true → ∃ (h : i < fs.length) (h1 : k - 1 < ts.length), 0 < k ∧ kl fs[i] = kl ts[k - 1]
  abv : p = false → ∀ (h : i < fs.length) (h1 : k - 1 < ts.length), 0 < k → Op.bytesLess (kl ts[k - 1]) (kl fs[i]) = true
  eq : out ++ diffL (fs.drop (i + p.toNat)) (ts.drop k) = diffL fs ts
section
variable {fs ts : List Rw} {i k : Nat} {out : List Chg} {p : Bool}
theorem DI.start (fs ts : List Rw) : DI fs ts 0 0 [] false :=
  ⟨Nat.zero_le _, Nat.zero_le _, fun j _ h => by omega, fun h => (by cases h), fun _ _ _ h => by omega, by simp⟩
theorem bl_lt_ne {a b : List UInt8} (h : Op.bytesLess a b = true) : a ≠ b := fun e => by rw [e, bl_irrefl] at h; cases h
/-- A row of from whose turn it is. -/
theorem DI.inner (h : DI fs ts i k out p) (hf : Sorted fs) (ht : Sorted ts) (hif : i < fs.length) (hc : ∀ hk : k < ts.length, Op.bytesLess (kl fs[i]) (kl ts[k]) = true) :
    (findR ts fs[i].1).isSome = p ∧ DI fs ts (i + 1) k (if p = true then out else out ++ [goneL fs[i]]) false := by
  have hbig : ∀ j (hj : j < ts.length), k ≤ j → Op.bytesLess (kl fs[i]) (kl ts[j]) = true := fun j hj hkj => by
    have h1 := hc (by omega)
    by_cases e : k = j
    · subst e; exact h1
    · exact bl_trans _ _ _ h1 (ht.at (i := k) (j := j) (by omega) hj)
  have hnext : ∀ (h1 : i + 1 < fs.length) (h2 : k - 1 < ts.length), 0 < k → Op.bytesLess (kl ts[k - 1]) (kl fs[i + 1]) = true := fun h1 h2 h0 => by
    have h3 := hf.at (i := i) (j := i + 1) (by omega) h1
    cases p with
    | true =>
      obtain ⟨_, _, _, e⟩ := h.eqp rfl
      rw [← e]; exact h3
    | false => exact bl_trans _ _ _ (h.abv rfl hif h2 h0) h3
  have hlow : ∀ j (hj : j < fs.length), j < i + 1 → ∀ (hk : k < ts.length), Op.bytesLess (kl fs[j]) (kl ts[k]) = true := fun j hj hji hk => by
    by_cases e : j = i
    · subst e; exact hc hk
    · exact h.low j hj (by omega) hk
  cases p with
  | true =>
    obtain ⟨_, h1, h0, e⟩ := h.eqp rfl
    refine ⟨by rw [findR_at ht h1 e.symm]; rfl, ⟨hif, h.hk, hlow, fun h => (by cases h), fun _ => hnext, ?_⟩⟩
    have := h.eq
    simpa using this
  | false =>
    refine ⟨?_, ⟨hif, h.hk, hlow, fun h => (by cases h), fun _ => hnext, ?_⟩⟩
    · rw [findR_out fun j hj => ?_]
      · rfl
      · have hkk := h.hk
        by_cases hjk : k ≤ j
        · exact (bl_lt_ne (hbig j hj hjk)).symm
        · have h1 := h.abv rfl hif (by omega) (by omega)
          by_cases e : j = k - 1
          · subst e; exact bl_lt_ne h1
          · exact bl_lt_ne (bl_trans _ _ _ (ht.at (i := j) (j := k - 1) (by omega) (by omega)) h1)
    · have h2 := h.eq
      simp only [Bool.toNat_false, Nat.add_zero, Bool.false_eq_true, if_false] at h2 ⊢
      rw [List.append_assoc, ← h2]
      congr 1
      rw [List.drop_eq_getElem_cons hif]
      by_cases hk : k < ts.length
      · have h3 := hc hk
        rw [List.drop_eq_getElem_cons hk, diffL, if_neg (show ¬ fs[i].1.toList = ts[k].1.toList from bl_lt_ne h3), if_pos (show Op.bytesLess fs[i].1.toList ts[k].1.toList = true from h3)]
        rfl
      · rw [List.drop_eq_nil_of_le (show ts.length ≤ k by omega), diffL]
        rfl
/-- A row of to. -/
theorem DI.outer (h : DI fs ts i k out p) (hf : Sorted fs) (ht : Sorted ts) (hkt : k < ts.length) (hstop : ∀ hif : i < fs.length, Op.bytesLess (kl fs[i]) (kl ts[k]) = false) :
    (∀ x, findR fs ts[k].1 = some x → (x.2 = ts[k].2 → DI fs ts i (k + 1) out true) ∧ (x.2 ≠ ts[k].2 → DI fs ts i (k + 1) (out ++ [putL ts[k]]) true)) ∧
    (findR fs ts[k].1 = none → DI fs ts i (k + 1) (out ++ [putL ts[k]]) false) := by
  have hp : p = false := by
    cases p with
    | false => rfl
    | true =>
      obtain ⟨hif, h1, h0, e⟩ := h.eqp rfl
      have h2 := hstop hif
      have h3 := ht.at (i := k - 1) (j := k) (by omega) hkt
      unfold lt at h3
      rw [e, h3] at h2
      cases h2
  subst hp
  have heq := h.eq
  simp only [Bool.toNat_false, Nat.add_zero] at heq
  have hlow2 : ∀ j (hj : j < fs.length), j < i → ∀ (hk : k + 1 < ts.length), Op.bytesLess (kl fs[j]) (kl ts[k + 1]) = true := fun j hj hji hk =>
    bl_trans _ _ _ (h.low j hj hji hkt) (ht.at (i := k) (j := k + 1) (by omega) hk)
  by_cases hif : i < fs.length
  · have hst := hstop hif
    by_cases hke : kl fs[i] = kl ts[k]
    · have hfd := findR_at hf hif (key := ts[k].1) hke
      have hd : ∀ q, q = (if fs[i].2 = ts[k].2 then [] else [putL ts[k]]) → out ++ q ++ diffL (fs.drop (i + 1)) (ts.drop (k + 1)) = diffL fs ts := fun q hq => by
        rw [← heq, List.drop_eq_getElem_cons hif, List.drop_eq_getElem_cons hkt, diffL, if_pos (show fs[i].1.toList = ts[k].1.toList from hke), hq, List.append_assoc]
        congr 1
        split <;> rfl
      have mk : ∀ q, q = (if fs[i].2 = ts[k].2 then [] else [putL ts[k]]) → DI fs ts i (k + 1) (out ++ q) true := fun q hq =>
        ⟨h.hi, hkt, hlow2, fun _ => ⟨hif, hkt, Nat.succ_pos _, hke⟩, fun h => (by cases h), hd q hq⟩
      refine ⟨fun x hx => ?_, fun hx => by rw [hfd] at hx; cases hx⟩
      rw [hfd] at hx
      injection hx with hx
      subst hx
      refine ⟨fun hv => ?_, fun hv => mk _ (by rw [if_neg hv])⟩
      have := mk [] (by rw [if_pos hv])
      rw [List.append_nil] at this
      exact this
    · have hgt : Op.bytesLess (kl ts[k]) (kl fs[i]) = true := bl_total _ _ hst hke
      have hno : findR fs ts[k].1 = none := findR_out fun j hj => by
        by_cases hji : j < i
        · exact bl_lt_ne (h.low j hj hji hkt)
        · by_cases e : j = i
          · subst e; exact hke
          · exact (bl_lt_ne (bl_trans _ _ _ hgt (hf.at (i := i) (j := j) (by omega) hj))).symm
      refine ⟨fun x hx => (by rw [hno] at hx; cases hx), fun _ => ⟨h.hi, hkt, hlow2, fun h => (by cases h), fun _ _ _ _ => hgt, ?_⟩⟩
      simp only [Bool.toNat_false, Nat.add_zero]
      rw [← heq, List.append_assoc, List.drop_eq_getElem_cons hif, List.drop_eq_getElem_cons hkt, diffL, if_neg (show ¬ fs[i].1.toList = ts[k].1.toList from hke), if_neg (by rw [show (Op.bytesLess fs[i].1.toList ts[k].1.toList) = false from hst]; decide), ← List.drop_eq_getElem_cons hif]
      rfl
  · have hno : findR fs ts[k].1 = none := findR_out fun j hj => bl_lt_ne (h.low j hj (by omega) hkt)
    refine ⟨fun x hx => (by rw [hno] at hx; cases hx), fun _ => ⟨h.hi, hkt, hlow2, fun h => (by cases h), fun _ hh => absurd hh hif, ?_⟩⟩
    simp only [Bool.toNat_false, Nat.add_zero]
    rw [← heq, List.append_assoc, List.drop_eq_nil_of_le (by omega : fs.length ≤ i), List.drop_eq_getElem_cons hkt, diffL, diffL, List.map_cons]
    rfl
theorem DI.done (h : DI fs ts i ts.length out p) (hi : i = fs.length) : out = diffL fs ts := by
  have := h.eq
  rw [List.drop_eq_nil_of_le (by omega), List.drop_eq_nil_of_le (Nat.le_refl _), diffL] at this
  simpa using this
end
end Go.Pg
