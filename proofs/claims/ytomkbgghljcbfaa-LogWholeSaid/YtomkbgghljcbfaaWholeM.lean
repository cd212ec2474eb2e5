/-
  Plain mathematics of the log: frames one behind the other are read as they were made; behind a sector that is none of theirs nothing is read. No program.
-/
import Derived.Test.YtomkbgghljcbfaaGKnown
namespace Go.Proofs.Ytomkbgghljcbfaa
open Go.RowKit Go.Rst Go.Pg Go.Crc
/-- The sectors of frames, numbered from k on. -/
def secsF (ep : Nat) : Nat → List (List Chg) → List (List UInt8)
  | _, [] => []
  | k, c :: cs => (partsL ep k c).1 ++ secsF ep (k + 1) cs
def MadeF (ep : Nat) : Nat → List (List Chg) → Prop
  | _, [] => True
  | k, c :: cs => (partsL ep k c).2 = true ∧ readChgs (chgsL c) = (c, 0) ∧ MadeF ep (k + 1) cs
theorem secsF_snoc (ep : Nat) (c : List Chg) : ∀ (cs : List (List Chg)) (k : Nat), secsF ep k (cs ++ [c]) = secsF ep k cs ++ (partsL ep ((k + cs.length : Nat) : Int) c).1
  | [], k => by simp [secsF]
  | d :: cs, k => by
    rw [List.cons_append, secsF, secsF, secsF_snoc ep c cs (k + 1), List.append_assoc, List.length_cons, show k + 1 + cs.length = k + (cs.length + 1) by omega]
theorem secsF_len {ep : Nat} : ∀ {cs : List (List Chg)} {k : Nat}, MadeF ep k cs → cs.length ≤ (secsF ep k cs).length
  | [], _, _ => Nat.le_refl _
  | c :: cs, k, h => by
    obtain ⟨h1, _, h3⟩ := h
    have ih := secsF_len h3
    have := parts_count h1
    have := chgsL_pieces c
    rw [secsF, List.length_append, List.length_cons]
    omega
/-- Frames that were made are read as they were made. -/
theorem readF_all {ep : Nat} : ∀ {cs : List (List Chg)} {k f : Nat}, MadeF ep k cs → cs.length < f → readF f ep (secsF ep k cs) k = (cs, (secsF ep k cs).length)
  | [], k, f, _, _ => by
    rw [secsF, readF_stop (by rw [frame_nil])]
    rfl
  | c :: cs, k, f, h, hf => by
    obtain ⟨h1, h2, h3⟩ := h
    rw [List.length_cons] at hf
    obtain ⟨f, rfl⟩ : ∃ g, f = g + 1 := ⟨f - 1, by omega⟩
    rw [secsF, readF_made h1 h2, readF_all h3 (by omega), List.length_append]
theorem readS_all {ep : Nat} {cs : List (List Chg)} (h : MadeF ep 0 cs) : readS ep (secsF ep 0 cs) = (cs, (secsF ep 0 cs).length) := by
  have := secsF_len h
  unfold readS
  exact readF_all h (by omega)
/-- A sector that is none of an epoch's. -/
def Bad (ep : Nat) (b : List UInt8) : Prop := ∀ n j of, ¬ GoodS ep n b j of
theorem bad_stop {ep k : Nat} {c : List Chg} (h : (partsL ep k c).2 = true) (T : List (List UInt8)) {i : Nat} (hi : i < (partsL ep k c).1.length) {b : List UInt8} (hb : Bad ep b) :
    (frameS ep k (((partsL ep k c).1 ++ T).set i b)).2 = 0 := by
  refine Classical.byContradiction fun hc => ?_
  obtain ⟨l, cnt, he⟩ : ∃ l cnt, frameS ep k (((partsL ep k c).1 ++ T).set i b) = (l, cnt) := ⟨_, _, rfl⟩
  rw [he] at hc
  obtain ⟨g, _⟩ := frame_good he hc
  have htold := g.told
  have hlo := g.lo
  obtain ⟨h1, h2, h3, h4, h5, h6⟩ := parts_of h
  have hcnt := parts_count h
  have hlt : i < cnt := by
    by_cases h0 : i = 0
    · omega
    · obtain ⟨t, ht⟩ := secL_zero (ep := (ep : Int).toNat) (n := (k : Int).toNat) (b := chgsL c) (chgsL_pieces c)
      obtain ⟨j, rfl⟩ : ∃ j, i = j + 1 := ⟨i - 1, by omega⟩
      have hpl := pcL_length (chgsL c) 0
      have hb9 : toldL (((partsL ep k c).1 ++ T).set (j + 1) b) = ofL (chgsL c) := by
        rw [h1, ht, List.cons_append, List.set_cons_succ]
        show (if (partL (ep : Int).toNat (k : Int).toNat 0 (ofL (chgsL c)) (pcL (chgsL c) 0)).length = 64 then b9 _ else 0) = _
        rw [if_pos (partL_length (by omega)), (part_bytes (by omega) (by omega)).1]
      omega
  have hil : i < (((partsL ep k c).1 ++ T).set i b).length := by rw [List.length_set, List.length_append]; omega
  have hg := g.good i hil hlt
  rw [List.getElem_set_self] at hg
  exact hb _ _ _ hg
theorem readF_bad {ep : Nat} {b : List UInt8} (hb : Bad ep b) : ∀ {cs : List (List Chg)} {k f i : Nat}, MadeF ep k cs → i < (secsF ep k cs).length →
    ∃ j q, readF f ep ((secsF ep k cs).set i b) k = (cs.take j, q) ∧ q ≤ i
  | [], k, f, i, _, hi => by simp [secsF] at hi
  | c :: cs, k, f, i, h, hi => by
    obtain ⟨h1, h2, h3⟩ := h
    rw [secsF] at hi ⊢
    by_cases hlt : i < (partsL ep k c).1.length
    · exact ⟨0, 0, by rw [readF_stop (bad_stop h1 _ hlt hb)]; rfl, Nat.zero_le _⟩
    · cases f with
      | zero => exact ⟨0, 0, rfl, Nat.zero_le _⟩
      | succ f =>
        rw [List.length_append] at hi
        obtain ⟨j, q, e, hq⟩ := readF_bad (f := f) hb h3 (i := i - (partsL ep k c).1.length) (by omega)
        have es : ((partsL ep k c).1 ++ secsF ep (k + 1) cs).set i b = (partsL ep k c).1 ++ (secsF ep (k + 1) cs).set (i - (partsL ep k c).1.length) b := by
          rw [List.set_append_right _ _ (by omega)]
        refine ⟨j + 1, (partsL ep k c).1.length + q, ?_, by omega⟩
        rw [es, readF_made h1 h2, e, List.take_succ_cons]
theorem readS_bad {ep : Nat} {b : List UInt8} (hb : Bad ep b) {cs : List (List Chg)} (h : MadeF ep 0 cs) {i : Nat} (hi : i < (secsF ep 0 cs).length) :
    ∃ j q, readS ep ((secsF ep 0 cs).set i b) = (cs.take j, q) ∧ q ≤ i := by
  unfold readS
  exact readF_bad hb h hi
theorem bad_zero (ep : Nat) : Bad ep (List.replicate 64 0) := fun n j of g => by
  have h := g.lo
  have e : b10 (List.replicate 64 (0 : UInt8)) = 0 := by decide
  omega
theorem bad_other {ep e2 n i of : Nat} {p : List UInt8} (h1 : ep ≤ 1073741824) (h2 : e2 ≤ 1073741824) (hne : ep ≠ e2) : Bad ep (partL e2 n i of p) := fun m j of' g => by
  have h := part_head g.eq
  exact hne (wordL_inj h.1.symm (by omega) (by omega))
theorem bad_secs {ep e2 : Nat} (h1 : ep ≤ 1073741824) (h2 : e2 ≤ 1073741824) (hne : ep ≠ e2) : ∀ {cs : List (List Chg)} {k : Nat} {s : List UInt8}, s ∈ secsF e2 k cs → Bad ep s
  | [], k, s, h => by cases h
  | c :: cs, k, s, h => by
    rw [secsF] at h
    rcases List.mem_append.1 h with h | h
    · unfold partsL at h
      split at h
      · cases h
      · split at h
        · cases h
        · simp only [secL, Int.toNat_natCast] at h
          obtain ⟨x, _, rfl⟩ := List.mem_map.1 h
          exact bad_other h1 h2 hne
    · exact bad_secs h1 h2 hne h
end Go.Proofs.Ytomkbgghljcbfaa
