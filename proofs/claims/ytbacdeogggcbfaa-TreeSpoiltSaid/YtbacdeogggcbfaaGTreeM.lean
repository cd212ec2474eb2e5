/-
  Plain mathematics: the order of bytes; rising rows; where a key stands among them. No program.
-/
import Derived.Test.YtbacdeogggcbfaaTMath3
import Derived.Test.YtbacdeogggcbfaaGGet
import Derived.Test.YtbacdeogggcbfaaGPure

namespace Go.Pg
open Go.Rst Go.Crc
theorem bl_irrefl : ∀ a : List UInt8, Op.bytesLess a a = false
  | [] => by simp [Op.bytesLess]
  | x :: a => by simp [Op.bytesLess, bl_irrefl a]
theorem bl_trans : ∀ a b c : List UInt8, Op.bytesLess a b = true → Op.bytesLess b c = true → Op.bytesLess a c = true
  | _, [], _, h, _ => by simp [Op.bytesLess] at h
  | _, _ :: _, [], _, h => by simp [Op.bytesLess] at h
  | [], _ :: _, _ :: _, _, _ => by simp [Op.bytesLess]
  | x :: a, y :: b, z :: c, h1, h2 => by
    simp only [Op.bytesLess, Bool.or_eq_true, decide_eq_true_eq, Bool.and_eq_true, beq_iff_eq] at h1 h2 ⊢
    rcases h1 with h1 | ⟨rfl, h1⟩
    · rcases h2 with h2 | ⟨rfl, h2⟩
      · exact .inl (UInt8.lt_trans h1 h2)
      · exact .inl h1
    · rcases h2 with h2 | ⟨rfl, h2⟩
      · exact .inl h2
      · exact .inr ⟨rfl, bl_trans a b c h1 h2⟩
theorem bl_total : ∀ a b : List UInt8, Op.bytesLess a b = false → a ≠ b → Op.bytesLess b a = true
  | [], [], _, h => (h rfl).elim
  | _ :: _, [], _, _ => by simp [Op.bytesLess]
  | [], _ :: _, h, _ => by simp [Op.bytesLess] at h
  | x :: a, y :: b, h, hn => by
    simp only [Op.bytesLess, Bool.or_eq_false_iff, decide_eq_false_iff_not, Bool.and_eq_false_iff, beq_eq_false_iff_ne] at h
    simp only [Op.bytesLess, Bool.or_eq_true, decide_eq_true_eq, Bool.and_eq_true, beq_iff_eq]
    obtain ⟨h1, h2⟩ := h
    by_cases he : x = y
    · subst he
      rcases h2 with h2 | h2
      · exact (h2 rfl).elim
      · exact .inr ⟨rfl, bl_total a b h2 (fun e => hn (by rw [e]))⟩
    · left
      rcases Nat.lt_trichotomy x.toNat y.toNat with h3 | h3 | h3
      · exact (h1 (by simpa [UInt8.lt_iff_toNat_lt] using h3)).elim
      · exact (he (UInt8.toNat_inj.1 h3)).elim
      · simpa [UInt8.lt_iff_toNat_lt] using h3
def kl (r : Rw) : List UInt8 := r.1.toList
/-- One key below another. -/
def lt (a b : Rw) : Prop := Op.bytesLess (kl a) (kl b) = true
def Sorted (l : List Rw) : Prop := l.Pairwise lt
theorem sle_false {a b : ByteArray} (h : sle a b = false) : Op.bytesLess b.toList a.toList = true := by
  unfold sle at h
  simp only [Bool.or_eq_false_iff] at h
  exact bl_total _ _ h.1 (fun e => by rw [e] at h; simp at h)
theorem sle_of_lt {a b : ByteArray} (h : Op.bytesLess a.toList b.toList = true) : sle a b = true := by unfold sle; rw [h]; rfl
theorem sle_not {a b : ByteArray} (h : Op.bytesLess b.toList a.toList = true) : sle a b = false := by
  unfold sle
  have h1 : Op.bytesLess a.toList b.toList = false := by
    cases h2 : Op.bytesLess a.toList b.toList
    · rfl
    · have := bl_trans _ _ _ h h2
      rw [bl_irrefl] at this
      cases this
  rw [h1]
  have h3 : (a.toList == b.toList) = false := by
    rw [beq_eq_false_iff_ne]
    intro e
    rw [e, bl_irrefl] at h
    cases h
  rw [h3]
  rfl
theorem sle_trans {a b c : ByteArray} (h1 : Op.bytesLess a.toList b.toList = true) (h2 : sle b c = true) : sle a c = true := by
  unfold sle at h2
  simp only [Bool.or_eq_true, beq_iff_eq] at h2
  rcases h2 with h2 | h2
  · exact sle_of_lt (bl_trans _ _ _ h1 h2)
  · unfold sle
    rw [← h2, h1]
    rfl
theorem sorted_risingA : ∀ (l : List Rw) (k : Rw), risingA k.1 l = true ↔ Sorted (k :: l)
  | [], k => by simp [risingA, Sorted]
  | r :: rs, k => by
    have ih := sorted_risingA rs r
    unfold risingA
    rw [Bool.and_eq_true, ih]
    have e : Sorted (k :: r :: rs) ↔ (∀ x ∈ r :: rs, lt k x) ∧ Sorted (r :: rs) := List.pairwise_cons
    rw [e]
    constructor
    · rintro ⟨h1, h2⟩
      refine ⟨fun x hx => ?_, h2⟩
      have h3 : lt k r := sle_false (by simpa using h1)
      rcases List.mem_cons.1 hx with rfl | hx
      · exact h3
      · exact bl_trans _ _ _ h3 ((List.pairwise_cons.1 h2).1 x hx)
    · rintro ⟨h1, h2⟩
      refine ⟨?_, h2⟩
      have := sle_not (h1 r (List.mem_cons_self))
      rw [this]
      rfl
theorem sorted_rising (l : List Rw) : risingL l = true ↔ Sorted l := by
  cases l with
  | nil => simp [risingL, Sorted]
  | cons r rs => exact sorted_risingA rs r
theorem Sorted.at {l : List Rw} (h : Sorted l) {i j : Nat} (hij : i < j) (hj : j < l.length) : lt (l[i]'(by omega)) l[j] := List.pairwise_iff_getElem.1 h i j (by omega) hj hij
/-- How findC counts. -/
theorem findC_below {key : ByteArray} : ∀ {l : List Rw} {i : Nat} (hi : i < l.length), i < findC l key → sle l[i].1 key = true
  | [], i, hi, _ => by simp at hi
  | r :: rs, i, hi, h => by
    unfold findC at h
    by_cases hs : sle r.1 key = true
    · rw [if_pos hs] at h
      cases i with
      | zero => exact hs
      | succ i =>
        simp only [List.getElem_cons_succ]
        exact findC_below (by simpa using hi) (by omega)
    · rw [if_neg hs] at h; omega
theorem findC_stop {key : ByteArray} : ∀ {l : List Rw} (h : findC l key < l.length), sle l[findC l key].1 key = false
  | [], h => by simp at h
  | r :: rs, h => by
    unfold findC at h ⊢
    by_cases hs : sle r.1 key = true
    · simp only [if_pos hs] at h ⊢
      have := findC_stop (key := key) (l := rs) (by simp at h; omega)
      simp only [Nat.add_comm 1, List.getElem_cons_succ]
      exact this
    · simp only [if_neg hs]
      simpa using hs
theorem findC_eq {key : ByteArray} {l : List Rw} {n : Nat} (hn : n ≤ l.length) (h1 : ∀ i (hi : i < l.length), i < n → sle l[i].1 key = true) (h2 : ∀ h : n < l.length, sle l[n].1 key = false) : findC l key = n := by
  have hle := findC_le l key
  rcases Nat.lt_trichotomy (findC l key) n with h | h | h
  · have := findC_stop (key := key) (l := l) (by omega)
    rw [h1 _ (by omega) h] at this
    cases this
  · exact h
  · have := findC_below (key := key) (l := l) (i := n) (by omega) h
    rw [h2 (by omega)] at this
    cases this
/-- Where a key is, there is just one place. -/
theorem idx_of {key : ByteArray} {l : List Rw} (hs : Sorted l) {p : Nat} (hp : p < l.length) (he : kl l[p] = key.toList) : findC l key = p + 1 ∧ idxN l key = p := by
  have h : findC l key = p + 1 := by
    refine findC_eq (by omega) (fun i hi hip => ?_) (fun h => ?_)
    · by_cases e : i = p
      · subst e
        unfold sle
        unfold kl at he
        rw [he]
        simp
      · have := hs.at (i := i) (j := p) (by omega) hp
        unfold lt at this
        rw [he] at this
        exact sle_of_lt this
    · have := hs.at (i := p) (j := p + 1) (by omega) h
      unfold lt at this
      rw [he] at this
      exact sle_not this
  exact ⟨h, by unfold idxN; omega⟩
theorem findR_none {key : ByteArray} : ∀ {l : List Rw}, (∀ r ∈ l, kl r ≠ key.toList) → findR l key = none
  | [], _ => rfl
  | r :: rs, h => by
    unfold findR
    rw [if_neg (by simpa [kl] using h r (List.mem_cons_self))]
    exact findR_none (fun x hx => h x (List.mem_cons_of_mem _ hx))
theorem findR_at {key : ByteArray} : ∀ {l : List Rw} {p : Nat} (hp : p < l.length), kl l[p] = key.toList → (∀ q (hq : q < p), kl (l[q]'(by omega)) ≠ key.toList) → findR l key = some l[p].2
  | [], p, hp, _, _ => by simp at hp
  | r :: rs, 0, _, he, _ => by
    unfold findR
    rw [if_pos (by simpa [kl] using he)]
    rfl
  | r :: rs, p + 1, hp, he, hn => by
    unfold findR
    rw [if_neg (by have := hn 0 (by omega); simpa [kl] using this)]
    simp only [List.getElem_cons_succ] at he ⊢
    exact findR_at (by simpa using hp) he (fun q hq => by have := hn (q + 1) (by omega); simpa using this)
theorem findR_idx {key : ByteArray} {l : List Rw} (hs : Sorted l) : findR l key = (l[idxN l key]?).bind fun r => if (r.1.toList == key.toList) = true then some r.2 else none := by
  by_cases hex : ∃ p, ∃ hp : p < l.length, kl l[p] = key.toList
  · obtain ⟨p, hp, he⟩ := hex
    obtain ⟨_, hi⟩ := idx_of hs hp he
    rw [hi, List.getElem?_eq_getElem hp]
    rw [findR_at hp he (fun q hq hqe => by
      have := (idx_of hs (p := q) (by omega) hqe).2
      omega)]
    simp only [Option.bind_some]
    rw [if_pos (by simpa [kl] using he)]
  · rw [findR_none (fun r hr hk => by
      obtain ⟨p, hp, rfl⟩ := List.getElem_of_mem hr
      exact hex ⟨p, hp, hk⟩)]
    cases hx : l[idxN l key]? with
    | none => rfl
    | some r =>
      simp only [Option.bind_some]
      rw [if_neg (fun h => hex ⟨idxN l key, (List.getElem?_eq_some_iff.1 hx).1, by rw [(List.getElem?_eq_some_iff.1 hx).2]; simpa [kl] using h⟩)]
/-- A part of rows, and where it leads on. -/
theorem idx_part {key : ByteArray} {pre g post : List Rw} (h1 : pre.length ≤ idxN (pre ++ g ++ post) key) (h2 : idxN (pre ++ g ++ post) key < pre.length + g.length) :
    g[idxN g key]? = (pre ++ g ++ post)[idxN (pre ++ g ++ post) key]? := by
  have hlen : (pre ++ g ++ post).length = pre.length + g.length + post.length := by simp [Nat.add_assoc]
  have hget : ∀ i (hi : i < g.length), (pre ++ g ++ post)[pre.length + i]? = some g[i] := by
    intro i hi
    rw [List.append_assoc, List.getElem?_append_right (by omega), show pre.length + i - pre.length = i from by omega, List.getElem?_append_left hi, List.getElem?_eq_getElem hi]
  obtain ⟨F, hF⟩ : ∃ F, F = findC (pre ++ g ++ post) key := ⟨_, rfl⟩
  have hFi : idxN (pre ++ g ++ post) key = F - 1 := by rw [hF]; rfl
  have hFle : F ≤ (pre ++ g ++ post).length := by rw [hF]; exact findC_le _ _
  have hgF : findC g key = F - pre.length := by
    refine findC_eq (by omega) (fun i hi hif => ?_) (fun h => ?_)
    · have := findC_below (key := key) (l := pre ++ g ++ post) (i := pre.length + i) (by omega) (by omega)
      have e := hget i hi
      rw [List.getElem?_eq_getElem (by omega)] at e
      injection e with e
      rw [e] at this
      exact this
    · by_cases hF0 : F < pre.length
      · omega
      · have hst := findC_stop (key := key) (l := pre ++ g ++ post) (by rw [← hF]; omega)
        have e := hget (F - pre.length) h
        rw [List.getElem?_eq_getElem (by omega)] at e
        injection e with e
        have e2 : (pre ++ g ++ post)[findC (pre ++ g ++ post) key]'(by rw [← hF]; omega) = (pre ++ g ++ post)[pre.length + (F - pre.length)]'(by omega) := by
          congr 1
          omega
        rw [e2, e] at hst
        exact hst
  have hi : idxN g key = F - 1 - pre.length := by unfold idxN; rw [hgF]; omega
  rw [hi, hFi]
  rw [hFi] at h1 h2
  rw [List.getElem?_eq_getElem (by omega), ← hget (F - 1 - pre.length) (by omega), show pre.length + (F - 1 - pre.length) = F - 1 from by omega]
end Go.Pg

/-
  Plain mathematics of trees: what was built is read, and found. No program.
-/
namespace Go.Pg
open Go.Rst Go.Crc
theorem groups_flatten (l : List Rw) : (groupsL l).flatten = l := by
  have key : ∀ (m : Nat) (l : List Rw), l.length ≤ m → (groupsL l).flatten = l := by
    intro m
    induction m with
    | zero =>
      intro l h
      obtain rfl : l = [] := List.eq_nil_of_length_eq_zero (by omega)
      rfl
    | succ m ih =>
      intro l h
      by_cases he : l.length ≤ gsize l
      · rw [groupsL_end he, List.flatten_cons, List.flatten_nil, List.append_nil, List.take_of_length_le he]
      · have h1 := gsize_pos (l := l) (fun e => by subst e; simp at he)
        rw [groupsL_more he, List.flatten_cons, ih _ (by rw [List.length_drop]; omega), List.take_append_drop]
  exact key l.length l (Nat.le_refl _)
inductive TreeAt : Nat → List (List UInt8) → List Rw → List (List UInt8) → Prop
  | root {n : Nat} {all : List (List UInt8)} {l : List Rw} : n ≤ 4 → (groupsL l).all (pageOk n) = true → (groupsL l).length = 1 → TreeAt n all l (all ++ pagesF n (groupsL l))
  | up {n : Nat} {all : List (List UInt8)} {l : List Rw} {ps : List (List UInt8)} : n ≤ 4 → (groupsL l).all (pageOk n) = true → ¬ (groupsL l).length = 1 →
      TreeAt (n + 1) (all ++ pagesF n (groupsL l)) (aboveF all.length (groupsL l)) ps → TreeAt n all l ps
theorem treeAt_of : ∀ (f n : Nat) (all : List (List UInt8)) (l : List Rw) (ps : List (List UInt8)), f + n = 5 → buildF f n all l = some ps → TreeAt n all l ps
  | 0, _, _, _, _, _, h => by simp [buildF] at h
  | f + 1, n, all, l, ps, hf, h => by
    rw [build_step, level_groups (by omega)] at h
    by_cases ho : (groupsL l).all (pageOk n) = true
    · rw [if_pos ho] at h
      simp only [pages_len] at h
      by_cases h1 : (groupsL l).length = 1
      · rw [if_pos h1] at h
        injection h with h
        rw [← h]
        exact .root (by omega) ho h1
      · rw [if_neg h1] at h
        exact .up (by omega) ho h1 (treeAt_of f (n + 1) _ _ ps (by omega) h)
    · rw [if_neg ho] at h
      cases h
theorem tree_of {l : List Rw} {ps : List (List UInt8)} (h : buildL l = some ps) : Sorted l ∧ l.length ≤ 5000 ∧ TreeAt 0 [] l ps := by
  unfold buildL at h
  split at h
  · cases h
  · rename_i hn
    simp only [not_or, Bool.not_eq_false, Nat.not_lt] at hn
    exact ⟨(sorted_rising l).1 hn.1, hn.2, treeAt_of 5 0 [] l ps rfl h⟩
theorem tree_pre {n : Nat} {all : List (List UInt8)} {l : List Rw} {ps : List (List UInt8)} (h : TreeAt n all l ps) :
    (groupsL l).all (pageOk n) = true ∧ ∃ t, ps = all ++ pagesF n (groupsL l) ++ t ∧ ∀ p ∈ t, ∃ (m : Nat) (c : List Rw), n < m ∧ p = encL m c ∧ pageOk m c = true := by
  induction h with
  | root _ ho _ => exact ⟨ho, [], by simp, fun p hp => by cases hp⟩
  | @up n all l ps _ ho _ _ ih =>
    obtain ⟨ho2, t, ht, hp⟩ := ih
    refine ⟨ho, pagesF (n + 1 : Nat) (groupsL (aboveF all.length (groupsL l))) ++ t, by rw [ht, List.append_assoc], fun p hpp => ?_⟩
    rcases List.mem_append.1 hpp with hpp | hpp
    · unfold pagesF at hpp
      obtain ⟨c, hc, rfl⟩ := List.mem_map.1 hpp
      exact ⟨n + 1, c, by omega, rfl, List.all_eq_true.1 ho2 c hc⟩
    · obtain ⟨m, c, h1, h2, h3⟩ := hp p hpp
      exact ⟨m, c, by omega, h2, h3⟩
theorem dec_page {m : Nat} {c : List Rw} (h : pageOk m c = true) : decR (encL m c) = (m, c, 0) := by
  have := dec_enc h
  simpa using this
theorem rowsF_zero : ∀ (gs : List (List Rw)) (acc : List Rw) (tail : List (List UInt8)), gs.all (pageOk (0 : Nat)) = true → (acc ++ gs.flatten).length ≤ 5000 → rowsF (pagesF (0 : Nat) gs ++ tail) acc = rowsF tail (acc ++ gs.flatten)
  | [], acc, tail, _, _ => by simp [pagesF]
  | c :: gs, acc, tail, ho, hl => by
    rw [List.all_cons, Bool.and_eq_true] at ho
    have e : pagesF (0 : Nat) (c :: gs) ++ tail = encL (0 : Nat) c :: (pagesF (0 : Nat) gs ++ tail) := rfl
    rw [e, rowsF, dec_page ho.1]
    have hl2 : acc.length ≤ 5000 := by rw [List.length_append] at hl; omega
    simp only [ne_eq, not_true, if_false, true_and, hl2, if_true]
    rw [rowsF_zero gs (acc ++ c) tail ho.2 (by simpa [List.append_assoc] using hl)]
    rw [List.flatten_cons, List.append_assoc]
theorem rowsF_skip : ∀ (t : List (List UInt8)) (acc : List Rw), (∀ p ∈ t, ∃ (m : Nat) (c : List Rw), 0 < m ∧ p = encL m c ∧ pageOk m c = true) → rowsF t acc = (acc, 0)
  | [], _, _ => rfl
  | p :: t, acc, h => by
    obtain ⟨m, c, h1, h2, h3⟩ := h p (List.mem_cons_self)
    rw [rowsF, h2, dec_page h3]
    have hm : ¬ m = 0 := by omega
    simp only [ne_eq, not_true, if_false, hm, false_and]
    exact rowsF_skip t acc (fun q hq => h q (List.mem_cons_of_mem _ hq))
theorem rows_tree {l : List Rw} {ps : List (List UInt8)} (h : buildL l = some ps) : rowsT ps = (l, 0) := by
  obtain ⟨_, hl, ht⟩ := tree_of h
  obtain ⟨ho, t, hp, hq⟩ := tree_pre ht
  have hf := groups_flatten l
  have : rowsF ps [] = (l, 0) := by
    rw [hp, List.nil_append, rowsF_zero _ _ _ ho (by rw [List.nil_append, hf]; exact hl), List.nil_append, hf]
    exact rowsF_skip t l hq
  unfold rowsT
  rw [this]
  simp [h]
theorem above_get {fr : Nat} {gs : List (List Rw)} {j : Nat} (hj : j < gs.length) : (aboveF fr gs)[j]? = some (headKey gs[j], numL (fr + j)) := by
  unfold aboveF
  rw [List.getElem?_map, List.getElem?_zipIdx, List.getElem?_eq_getElem hj]
  simp
theorem split_at {gs : List (List Rw)} {j : Nat} (hj : j < gs.length) : gs.flatten = (gs.take j).flatten ++ gs[j] ++ (gs.drop (j + 1)).flatten := by
  conv => lhs; rw [← List.take_append_drop j gs, List.drop_eq_getElem_cons hj]
  rw [List.flatten_append, List.flatten_cons, List.append_assoc]
theorem head_key {c : List Rw} (h : 0 < c.length) : headKey c = c[0].1 := by
  cases c with
  | nil => simp at h
  | cons r t => rfl
theorem above_sorted {fr : Nat} {gs : List (List Rw)} (hs : Sorted gs.flatten) (hne : ∀ c ∈ gs, c ≠ []) : Sorted (aboveF fr gs) := by
  have hp := (List.pairwise_flatten.1 hs).2
  unfold Sorted
  rw [List.pairwise_iff_getElem]
  intro i j hi hj hij
  rw [above_len] at hi hj
  have h1 := above_get (fr := fr) hi
  have h2 := above_get (fr := fr) hj
  rw [List.getElem?_eq_getElem (by rw [above_len]; exact hi)] at h1
  rw [List.getElem?_eq_getElem (by rw [above_len]; exact hj)] at h2
  injection h1 with h1
  injection h2 with h2
  have hci := List.length_pos_iff.2 (hne gs[i] (List.getElem_mem hi))
  have hcj := List.length_pos_iff.2 (hne gs[j] (List.getElem_mem hj))
  have := List.pairwise_iff_getElem.1 hp i j hi hj hij _ (List.getElem_mem hci) _ (List.getElem_mem hcj)
  rw [h1, h2]
  unfold lt kl at this ⊢
  rw [head_key hci, head_key hcj]
  exact this
/-- The group in which a key's place lies is the one that the rows above lead to. -/
theorem above_idx {fr : Nat} {gs : List (List Rw)} {key : ByteArray} (hs : Sorted gs.flatten) (hne : ∀ c ∈ gs, c ≠ []) (h0 : 0 < gs.length) :
    ∃ hj : idxN (aboveF fr gs) key < gs.length, ((gs.take (idxN (aboveF fr gs) key)).flatten).length ≤ idxN gs.flatten key ∧ idxN gs.flatten key < ((gs.take (idxN (aboveF fr gs) key)).flatten).length + gs[idxN (aboveF fr gs) key].length := by
  have hj : idxN (aboveF fr gs) key < gs.length := by have := idxN_lt (l := aboveF fr gs) (by rw [above_len]; exact h0) key; rw [above_len] at this; exact this
  refine ⟨hj, ?_⟩
  have hag : ∀ j (hj : j < gs.length), (aboveF fr gs)[j]'(by rw [above_len]; exact hj) = (headKey gs[j], numL (fr + j)) := by
    intro j hj
    have := above_get (fr := fr) hj
    rw [List.getElem?_eq_getElem (by rw [above_len]; exact hj)] at this
    injection this
  have hlg : ∀ j (hj : j < gs.length), ∃ h : ((gs.take j).flatten).length < gs.flatten.length, gs.flatten[((gs.take j).flatten).length].1 = headKey gs[j] := by
    intro j hj
    have hc := List.length_pos_iff.2 (hne gs[j] (List.getElem_mem hj))
    have hsp := split_at hj
    have hlen : ((gs.take j).flatten).length < gs.flatten.length := by rw [hsp, List.length_append, List.length_append]; omega
    refine ⟨hlen, ?_⟩
    have : gs.flatten[((gs.take j).flatten).length]? = some gs[j][0] := by
      conv => lhs; rw [hsp]
      rw [List.append_assoc, List.getElem?_append_right (Nat.le_refl _), Nat.sub_self, List.getElem?_append_left hc, List.getElem?_eq_getElem hc]
    rw [List.getElem?_eq_getElem hlen] at this
    injection this with this
    rw [this, head_key hc]
  have hAl : (aboveF fr gs).length = gs.length := above_len _ _
  obtain ⟨J, hJ⟩ : ∃ J, J = findC (aboveF fr gs) key := ⟨_, rfl⟩
  obtain ⟨F, hF⟩ : ∃ F, F = findC gs.flatten key := ⟨_, rfl⟩
  have hJle : J ≤ gs.length := by rw [hJ, ← hAl]; exact findC_le _ _
  have hFle : F ≤ gs.flatten.length := by rw [hF]; exact findC_le _ _
  have hi : idxN (aboveF fr gs) key = J - 1 := by rw [hJ]; rfl
  have hi2 : idxN gs.flatten key = F - 1 := by rw [hF]; rfl
  rw [hi2]
  simp only [hi]
  rw [hi] at hj
  have hstopA : ∀ h : J < gs.length, sle (headKey gs[J]) key = false := by
    intro h
    have := findC_stop (key := key) (l := aboveF fr gs) (by rw [← hJ, hAl]; exact h)
    have e := hag J h
    have e2 : (aboveF fr gs)[findC (aboveF fr gs) key]'(by rw [← hJ, hAl]; exact h) = (aboveF fr gs)[J]'(by rw [hAl]; exact h) := by congr 1; exact hJ.symm
    rw [e2, e] at this
    exact this
  rcases Nat.eq_zero_or_pos J with hJ0 | hJ0
  · subst hJ0
    have hg0 := List.length_pos_iff.2 (hne (gs[0]'h0) (List.getElem_mem h0))
    obtain ⟨hlen, hk⟩ := hlg 0 h0
    have hF0 : F = 0 := by
      rw [hF]
      refine findC_eq (Nat.zero_le _) (fun i _ h => by omega) (fun h => ?_)
      have h1 := hstopA h0
      rw [← hk] at h1
      exact h1
    rw [hF0]
    exact ⟨by simp, by simpa using hg0⟩
  · obtain ⟨j, rfl⟩ : ∃ j, J = j + 1 := ⟨J - 1, by omega⟩
    simp only [Nat.add_sub_cancel] at hj ⊢
    obtain ⟨hlen, hk⟩ := hlg j hj
    have hkA : sle (headKey gs[j]) key = true := by
      have := findC_below (key := key) (l := aboveF fr gs) (i := j) (by rw [hAl]; exact hj) (by omega)
      rw [hag j hj] at this
      exact this
    have hP : ((gs.take j).flatten).length < F := by
      rcases Nat.lt_or_ge ((gs.take j).flatten).length F with h | h
      · exact h
      · exfalso
        have hst := findC_stop (key := key) (l := gs.flatten) (by rw [← hF]; omega)
        rcases Nat.eq_or_lt_of_le h with e | h
        · have e2 : gs.flatten[findC gs.flatten key]'(by rw [← hF]; omega) = gs.flatten[((gs.take j).flatten).length] := by congr 1; rw [← hF, e]
          rw [e2, hk, hkA] at hst
          cases hst
        · have h1 := hs.at (i := findC gs.flatten key) (j := ((gs.take j).flatten).length) (by rw [← hF]; exact h) hlen
          unfold lt kl at h1
          rw [hk] at h1
          rw [sle_trans h1 hkA] at hst
          cases hst
    refine ⟨by omega, ?_⟩
    have hsp : ((gs.take (j + 1)).flatten).length = ((gs.take j).flatten).length + gs[j].length := by
      rw [List.take_succ_eq_append_getElem hj, List.flatten_append, List.length_append]
      simp
    rcases Nat.lt_or_ge (((gs.take j).flatten).length + gs[j].length) F with h | h
    · exfalso
      by_cases hJ1 : j + 1 < gs.length
      · obtain ⟨hlen2, hk2⟩ := hlg (j + 1) hJ1
        have hb := findC_below (key := key) (l := gs.flatten) (i := ((gs.take (j + 1)).flatten).length) hlen2 (by rw [hsp, ← hF]; exact h)
        rw [hk2, hstopA hJ1] at hb
        cases hb
      · rw [List.take_of_length_le (by omega)] at hsp
        omega
    · omega
end Go.Pg

/-
  Plain mathematics of trees: every key is found where it was built in; short rows are a tree. No program.
-/
namespace Go.Pg
open Go.Rst Go.Crc
/-- A search has come to a page. -/
def At (ps : List (List UInt8)) (key : ByteArray) (n i : Nat) : Prop := ∃ f b : Nat, getL ps key = getF ps key f (i : Int) b ∧ i < f ∧ (b = 0 ∨ b = n + 1)
theorem page_at {all : List (List UInt8)} {n : Nat} {gs : List (List Rw)} {t : List (List UInt8)} {i : Nat} (hi : i < gs.length) : (all ++ pagesF n gs ++ t).getD (all.length + i) [] = encL n gs[i] := by
  rw [List.getD_eq_getElem?_getD, List.append_assoc, List.getElem?_append_right (by omega), show all.length + i - all.length = i from by omega, List.getElem?_append_left (by rw [pages_len]; exact hi)]
  unfold pagesF
  rw [List.getElem?_map, List.getElem?_eq_getElem hi]
  rfl
theorem at_step {ps : List (List UInt8)} {key : ByteArray} {n i : Nat} (h : At ps key n i) {c : List Rw} (hp : ps.getD i [] = encL n c) (ho : pageOk n c = true) :
    (n = 0 → getL ps key = (findR c key, 0)) ∧ (∀ m, n = m + 1 → ∀ j : Nat, belowL c key i = (j : Int) → At ps key m j) := by
  obtain ⟨f, b, hg, hf, hb⟩ := h
  obtain ⟨f', rfl⟩ : ∃ f', f = f' + 1 := ⟨f - 1, by omega⟩
  rw [getF_step, hp, dec_page ho] at hg
  simp only [ne_eq, not_true, if_false] at hg
  have hnb : ¬ (0 < b ∧ ¬ n = b - 1) := by omega
  rw [if_neg hnb] at hg
  refine ⟨fun h0 => ?_, fun m hm j hj => ?_⟩
  · rw [if_pos h0] at hg
    exact hg
  · rw [if_neg (by omega), hj] at hg
    have := (belowL_rng c key i).2
    exact ⟨f', n, hg, by omega, .inr hm⟩
theorem idxN_nil (key : ByteArray) : idxN [] key = 0 := rfl
theorem get_tree {key : ByteArray} {n : Nat} {all : List (List UInt8)} {l : List Rw} {ps : List (List UInt8)} (h : TreeAt n all l ps) (hs : Sorted l) (hb : ps.length ≤ 1000000) :
    ∃ i, ∃ hi : i < (groupsL l).length, At ps key n (all.length + i) ∧ (((groupsL l).take i).flatten).length ≤ idxN l key ∧ (l ≠ [] → idxN l key < (((groupsL l).take i).flatten).length + (groupsL l)[i].length) := by
  induction h with
  | @root n all l hn ho h1 =>
    refine ⟨0, by omega, ⟨(all ++ pagesF n (groupsL l)).length + 1, 0, ?_, ?_, .inl rfl⟩, by simp, fun hl => ?_⟩
    · unfold getL
      congr 1
      rw [List.length_append, pages_len, h1]
      omega
    · rw [List.length_append, pages_len, h1]; omega
    · have hf := groups_flatten l
      obtain ⟨c, hc⟩ := List.length_eq_one_iff.1 h1
      simp only [hc, List.flatten_cons, List.flatten_nil, List.append_nil] at hf
      simp only [hc, List.take_zero, List.flatten_nil, List.length_nil, Nat.zero_add, List.getElem_cons_zero]
      rw [hf]
      exact idxN_lt (List.length_pos_iff.2 hl) key
  | @up n all l ps hn ho h1 ht ih =>
    have hl : l ≠ [] := fun e => h1 (by rw [e]; rfl)
    have hne := groups_ne hl
    have hf := groups_flatten l
    have hg1 := groups_pos l
    have hsf : Sorted (groupsL l).flatten := by rw [hf]; exact hs
    obtain ⟨i', hi', hat, hlo, hhi⟩ := ih (above_sorted hsf hne) hb
    obtain ⟨ho2, t, hp, _⟩ := tree_pre ht
    have hAne : aboveF all.length (groupsL l) ≠ [] := fun e => by have := congrArg List.length e; rw [above_len, List.length_nil] at this; omega
    obtain ⟨hj, h2, h3⟩ := above_idx (fr := all.length) (key := key) hsf hne hg1
    rw [hf] at h2 h3
    refine ⟨_, hj, ?_, h2, fun _ => h3⟩
    have hpg : ps.getD ((all ++ pagesF n (groupsL l)).length + i') [] = encL ((n + 1 : Nat) : Int) (groupsL (aboveF all.length (groupsL l)))[i'] := by rw [hp]; exact page_at hi'
    have hok := List.all_eq_true.1 ho2 _ (List.getElem_mem hi')
    refine (at_step hat hpg hok).2 n rfl _ ?_
    have hsp := split_at hi'
    rw [groups_flatten] at hsp
    have hpart := idx_part (key := key) (pre := ((groupsL (aboveF all.length (groupsL l))).take i').flatten) (g := (groupsL (aboveF all.length (groupsL l)))[i']) (post := ((groupsL (aboveF all.length (groupsL l))).drop (i' + 1)).flatten)
      (by rw [← hsp]; exact hlo) (by rw [← hsp]; exact hhi hAne)
    rw [← hsp, above_get hj] at hpart
    unfold belowL
    rw [hpart]
    simp only []
    have hlen : ps.length = all.length + (groupsL l).length + (groupsL (aboveF all.length (groupsL l))).length + t.length := by rw [hp]; simp [pages_len]; omega
    have hnum := getNum_back (n := all.length + idxN (aboveF all.length (groupsL l)) key) (q := 0) (L := numL (all.length + idxN (aboveF all.length (groupsL l)) key)) (post := []) (by simp) (by omega)
    rw [Nat.zero_add] at hnum
    have hnum' : getNum (numL (all.length + idxN (aboveF all.length (groupsL l)) key)) 0 = (((all.length + idxN (aboveF all.length (groupsL l)) key : Nat) : Int), ((numL (all.length + idxN (aboveF all.length (groupsL l)) key)).length : Int), 0) := hnum
    rw [hnum']
    rw [if_neg]
    rw [List.length_append, pages_len]
    simp
    omega
theorem get_built {l : List Rw} {ps : List (List UInt8)} (h : buildL l = some ps) (hb : ps.length ≤ 1000000) (key : ByteArray) : getL ps key = (findR l key, 0) := by
  obtain ⟨hs, hl, ht⟩ := tree_of h
  obtain ⟨i, hi, hat, hlo, hhi⟩ := get_tree (key := key) ht hs hb
  obtain ⟨ho, t, hp, _⟩ := tree_pre ht
  have hok := List.all_eq_true.1 ho _ (List.getElem_mem hi)
  have hpg : ps.getD (([] : List (List UInt8)).length + i) [] = encL ((0 : Nat) : Int) (groupsL l)[i] := by rw [hp]; exact page_at hi
  rw [(at_step hat hpg hok).1 rfl]
  congr 1
  have hsp := split_at hi
  rw [groups_flatten] at hsp
  by_cases hl0 : l = []
  · subst hl0
    have : (groupsL [])[i] = [] := by
      have h1 : i = 0 := by simp [groups_nil] at hi; exact hi
      subst h1
      rfl
    rw [this]
  · have hpart := idx_part (key := key) (pre := ((groupsL l).take i).flatten) (g := (groupsL l)[i]) (post := ((groupsL l).drop (i + 1)).flatten) (by rw [← hsp]; exact hlo) (by rw [← hsp]; exact hhi hl0)
    rw [← hsp] at hpart
    have hsg : Sorted (groupsL l)[i] := by
      have hss : Sorted (groupsL l).flatten := by rw [groups_flatten]; exact hs
      exact (List.pairwise_flatten.1 hss).1 _ (List.getElem_mem hi)
    rw [findR_idx hs, findR_idx hsg, hpart]
end Go.Pg

/-
  Plain mathematics of trees: short rows are a tree; what is spoilt is none. No program.
-/
namespace Go.Pg
open Go.Rst Go.Crc
theorem fitF_many {u : Nat} : ∀ (l : List Rw) (m left : Nat), (∀ r ∈ l, r.1.size ≤ 30 ∧ r.2.length ≤ 150 ∧ rsz r ≤ u) → m * u ≤ left → min m l.length ≤ fitF l left
  | [], m, left, _, _ => by simp
  | r :: rs, 0, left, _, _ => by simp
  | r :: rs, m + 1, left, h, hm => by
    obtain ⟨h1, h2, h3⟩ := h r (List.mem_cons_self)
    have hm' : m * u + u ≤ left := by rw [Nat.succ_mul] at hm; exact hm
    have ih := fitF_many rs m (left - rsz r) (fun x hx => h x (List.mem_cons_of_mem _ hx)) (by omega)
    unfold fitF
    rw [if_neg (by omega), if_neg (by omega)]
    simp only [List.length_cons]
    omega
theorem groups_few {u m n : Nat} (hn : n ≤ 4) (hm : 1 ≤ m) (hu : m * u ≤ 250) : ∀ (k : Nat) (l : List Rw), l.length ≤ k → (∀ r ∈ l, r.1.size ≤ 30 ∧ r.2.length ≤ 150 ∧ rsz r ≤ u) →
    (groupsL l).all (pageOk n) = true ∧ (l ≠ [] → ((groupsL l).length - 1) * m < l.length)
  | k, l, hk, h => by
    have hf : min m l.length ≤ fitN l := fitF_many l m 250 h hu
    have hfl := fitN_le l
    have hok := ok_fit (lev := (n : Int)) (by omega) (by omega) l
    have hg : gsize l = fitN l := by unfold gsize; omega
    by_cases he : l.length ≤ gsize l
    · rw [groupsL_end he, hg]
      exact ⟨by simp [hok], fun hl => by have := List.length_pos_iff.2 hl; simpa using this⟩
    · have hpos := gsize_pos (l := l) (fun e => by subst e; simp at he)
      obtain ⟨k', rfl⟩ : ∃ k', k = k' + 1 := ⟨k - 1, by omega⟩
      obtain ⟨h1, h2⟩ := groups_few hn hm hu k' (l.drop (gsize l)) (by rw [List.length_drop]; omega) (fun r hr => h r (List.mem_of_mem_drop hr))
      rw [groupsL_more he]
      refine ⟨by rw [List.all_cons, h1, hg, hok]; rfl, fun _ => ?_⟩
      have h3 := h2 (fun e => by have := congrArg List.length e; rw [List.length_drop, List.length_nil] at this; omega)
      rw [List.length_drop] at h3
      have h4 := groups_pos (l.drop (gsize l))
      simp only [List.length_cons, Nat.add_sub_cancel]
      obtain ⟨g, hgg⟩ : ∃ g, (groupsL (l.drop (gsize l))).length = g + 1 := ⟨(groupsL (l.drop (gsize l))).length - 1, by omega⟩
      rw [hgg, Nat.add_sub_cancel] at h3
      rw [hgg, Nat.succ_mul]
      omega
theorem rsz_le {r : Rw} {a b : Nat} (hk : r.1.size ≤ 30) (hv : r.2.length ≤ a) (hb : (numL r.2.length).length ≤ b) : rsz r ≤ 1 + (1 + 30 + (b + a)) := by
  have hs : r.1.data.toList.length = r.1.size := by rw [Array.length_toList]; rfl
  have h1 := numL_len 0 r.1.data.toList.length (by omega)
  unfold rsz rowB rowL textL
  simp only [List.length_append]
  omega
theorem build_next {f n : Nat} {all : List (List UInt8)} {l : List Rw} (hn : n ≤ 4) (ho : (groupsL l).all (pageOk n) = true) :
    buildF (f + 1) n all l = if (groupsL l).length = 1 then some (all ++ pagesF n (groupsL l)) else buildF f (n + 1) (all ++ pagesF n (groupsL l)) (aboveF all.length (groupsL l)) := by
  rw [build_step, level_groups hn, if_pos ho]
  simp only [pages_len]
theorem above_good {fr : Nat} {l : List Rw} (hl : l ≠ []) (h : ∀ r ∈ l, r.1.size ≤ 30) (hfr : fr + (groupsL l).length ≤ 16384) : ∀ r ∈ aboveF fr (groupsL l), r.1.size ≤ 30 ∧ r.2.length ≤ 150 ∧ rsz r ≤ 35 := by
  intro r hr
  obtain ⟨j, hj, rfl⟩ := List.getElem_of_mem hr
  rw [above_len] at hj
  have h1 := above_get (fr := fr) hj
  rw [List.getElem?_eq_getElem (by rw [above_len]; exact hj)] at h1
  injection h1 with h1
  rw [h1]
  have hc := List.length_pos_iff.2 (groups_ne hl _ (List.getElem_mem hj))
  have hk : (headKey (groupsL l)[j]).size ≤ 30 := by
    rw [head_key hc]
    have hm : (groupsL l)[j][0] ∈ (groupsL l).flatten := List.mem_flatten.2 ⟨_, List.getElem_mem hj, List.getElem_mem hc⟩
    rw [groups_flatten] at hm
    exact h _ hm
  have hn : (numL (fr + j)).length ≤ 2 := numL_len 1 _ (by omega)
  have hn2 := numL_len 0 (numL (fr + j)).length (by omega)
  have := rsz_le (r := (headKey (groupsL l)[j], numL (fr + j))) (a := 2) (b := 1) hk hn hn2
  exact ⟨hk, by simp only []; omega, by omega⟩
theorem build_some {l : List Rw} (hs : Sorted l) (hn : l.length ≤ 300) (hr : ∀ r ∈ l, r.1.size ≤ 30 ∧ r.2.length ≤ 150) : ∃ ps, buildL l = some ps ∧ ps.length ≤ 1000 ∧ 0 < ps.length := by
  have hb : buildL l = buildF 5 0 [] l := by
    unfold buildL
    rw [if_neg]
    rw [(sorted_rising l).2 hs]
    simp
    omega
  rw [hb]
  have hr0 : ∀ r ∈ l, r.1.size ≤ 30 ∧ r.2.length ≤ 150 ∧ rsz r ≤ 184 := by
    intro r h
    obtain ⟨h1, h2⟩ := hr r h
    have := rsz_le (r := r) (a := 150) (b := 2) h1 h2 (numL_len 1 _ (by omega))
    exact ⟨h1, h2, by omega⟩
  obtain ⟨o0, c0⟩ := groups_few (n := 0) (u := 184) (m := 1) (by omega) (by omega) (by omega) _ l (Nat.le_refl _) hr0
  have p0 := groups_pos l
  rw [build_next (by omega) o0]
  by_cases e0 : (groupsL l).length = 1
  · rw [if_pos e0]
    exact ⟨_, rfl, by simp [pages_len, e0], by simp [pages_len, e0]⟩
  rw [if_neg e0]
  have hl : l ≠ [] := fun e => e0 (by rw [e]; rfl)
  have c0' := c0 hl
  generalize hg0 : groupsL l = g0 at *
  have k1 : ∀ r ∈ aboveF 0 g0, r.1.size ≤ 30 ∧ r.2.length ≤ 150 ∧ rsz r ≤ 35 := by rw [← hg0]; exact above_good hl (fun r h => (hr r h).1) (by rw [hg0]; omega)
  have hl1 : aboveF 0 g0 ≠ [] := fun e => by have := congrArg List.length e; rw [above_len, List.length_nil] at this; omega
  have hz : (([] : List (List UInt8)) ++ pagesF (0 : Nat) g0).length = g0.length := by simp [pages_len]
  obtain ⟨o1, c1⟩ := groups_few (n := 1) (u := 35) (m := 7) (by omega) (by omega) (by omega) _ (aboveF 0 g0) (Nat.le_refl _) k1
  have c1' := c1 hl1
  rw [above_len] at c1'
  have p1 := groups_pos (aboveF 0 g0)
  rw [show aboveF ([] : List (List UInt8)).length g0 = aboveF 0 g0 from rfl, build_next (by omega) o1]
  generalize hg1 : groupsL (aboveF 0 g0) = g1 at *
  by_cases e1 : g1.length = 1
  · rw [if_pos e1]
    exact ⟨_, rfl, by simp [pages_len]; omega, by simp [pages_len]; omega⟩
  rw [if_neg e1, hz]
  have k2 : ∀ r ∈ aboveF g0.length g1, r.1.size ≤ 30 ∧ r.2.length ≤ 150 ∧ rsz r ≤ 35 := by rw [← hg1]; exact above_good hl1 (fun r h => (k1 r h).1) (by rw [hg1]; omega)
  have hl2 : aboveF g0.length g1 ≠ [] := fun e => by have := congrArg List.length e; rw [above_len, List.length_nil] at this; omega
  obtain ⟨o2, c2⟩ := groups_few (n := 2) (u := 35) (m := 7) (by omega) (by omega) (by omega) _ (aboveF g0.length g1) (Nat.le_refl _) k2
  have c2' := c2 hl2
  rw [above_len] at c2'
  have p2 := groups_pos (aboveF g0.length g1)
  rw [build_next (by omega) o2]
  generalize hg2 : groupsL (aboveF g0.length g1) = g2 at *
  by_cases e2 : g2.length = 1
  · rw [if_pos e2]
    exact ⟨_, rfl, by simp [pages_len]; omega, by simp [pages_len]; omega⟩
  rw [if_neg e2]
  have hfr : ∀ (a b : Int), (([] : List (List UInt8)) ++ pagesF a g0 ++ pagesF b g1).length = g0.length + g1.length := by intro a b; simp [pages_len]
  rw [hfr]
  obtain ⟨fr, hfr'⟩ : ∃ fr, fr = g0.length + g1.length := ⟨_, rfl⟩
  rw [← hfr']
  have k3 : ∀ r ∈ aboveF fr g2, r.1.size ≤ 30 ∧ r.2.length ≤ 150 ∧ rsz r ≤ 35 := by rw [← hg2]; exact above_good hl2 (fun r h => (k2 r h).1) (by rw [hg2]; omega)
  have hl3 : aboveF fr g2 ≠ [] := fun e => by have := congrArg List.length e; rw [above_len, List.length_nil] at this; omega
  obtain ⟨o3, c3⟩ := groups_few (n := 3) (u := 35) (m := 7) (by omega) (by omega) (by omega) _ (aboveF fr g2) (Nat.le_refl _) k3
  have c3' := c3 hl3
  rw [above_len] at c3'
  have p3 := groups_pos (aboveF fr g2)
  rw [build_next (by omega) o3, if_pos (by omega)]
  exact ⟨_, rfl, by simp [pages_len]; omega, by simp [pages_len]; omega⟩
theorem pages_ok {l : List Rw} {ps : List (List UInt8)} (h : buildL l = some ps) : ∀ p ∈ ps, ∃ (m : Nat) (c : List Rw), p = encL m c ∧ pageOk m c = true := by
  obtain ⟨_, _, ht⟩ := tree_of h
  obtain ⟨ho, t, hp, hq⟩ := tree_pre ht
  intro p hm
  rw [hp, List.nil_append] at hm
  rcases List.mem_append.1 hm with hm | hm
  · unfold pagesF at hm
    obtain ⟨c, hc, rfl⟩ := List.mem_map.1 hm
    exact ⟨0, c, rfl, List.all_eq_true.1 ho c hc⟩
  · obtain ⟨m, c, _, h2, h3⟩ := hq p hm
    exact ⟨m, c, h2, h3⟩
theorem rowsF_bad : ∀ (ps : List (List UInt8)) (acc : List Rw), (∃ p ∈ ps, (decR p).2.2 ≠ 0) → (rowsF ps acc).2 ≠ 0
  | [], _, ⟨_, h, _⟩ => by cases h
  | p :: ps, acc, ⟨q, hq, hb⟩ => by
    rw [rowsF]
    by_cases h : (decR p).2.2 ≠ 0
    · rw [if_pos h]; exact h
    · rw [if_neg h]
      rcases List.mem_cons.1 hq with rfl | hq
      · exact (h hb).elim
      · exact rowsF_bad ps _ ⟨q, hq, hb⟩
theorem rows_spoilt {l : List Rw} {ps : List (List UInt8)} (h : buildL l = some ps) {i : Nat} (hi : i < ps.length) : ps[i].length = 256 ∧ ∀ (k : Nat) (hk : k < ps[i].length) (v : UInt8),
    (v = ps[i][k] ∧ (rowsT (ps.set i (ps[i].set k v))).2 = 0) ∨ (v ≠ ps[i][k] ∧ (rowsT (ps.set i (ps[i].set k v))).2 ≠ 0) := by
  obtain ⟨m, c, he, ho⟩ := pages_ok h ps[i] (List.getElem_mem hi)
  refine ⟨by rw [he]; exact encL_length ho, fun k hk v => ?_⟩
  by_cases e : v = ps[i][k]
  · left
    refine ⟨e, ?_⟩
    rw [e, List.set_getElem_self, List.set_getElem_self, rows_tree h]
  · right
    refine ⟨e, ?_⟩
    have hd : (v = ps[i][k] ∧ (decR (ps[i].set k v)).2.2 = 0) ∨ (v ≠ ps[i][k] ∧ (decR (ps[i].set k v)).2.2 = 12) := by
      simp only [he]
      exact dec_set ho (k := k) (by rw [← he]; exact hk) v
    rcases hd with ⟨h1, _⟩ | ⟨_, h2⟩
    · exact (e h1).elim
    · have hbad : (rowsF (ps.set i (ps[i].set k v)) []).2 ≠ 0 := rowsF_bad _ _ ⟨ps[i].set k v, List.mem_iff_getElem.2 ⟨i, by simpa using hi, by simp⟩, by rw [h2]; decide⟩
      unfold rowsT
      rw [if_pos hbad]
      exact hbad
theorem rows_less {l : List Rw} {ps : List (List UInt8)} (h : buildL l = some ps) : (rowsT ps.dropLast).2 ≠ 0 := by
  obtain ⟨hs, hl, ht⟩ := tree_of h
  have hne : ∀ q x, buildL x = some q → q ≠ [] := by
    intro q x hx e
    obtain ⟨_, _, hx⟩ := tree_of hx
    obtain ⟨_, t, hp, _⟩ := tree_pre hx
    have := congrArg List.length hp
    rw [e] at this
    have hg := groups_pos x
    simp [pages_len] at this
    omega
  intro h0
  unfold rowsT at h0
  split at h0
  · rename_i hx; exact hx h0
  · split at h0
    · rename_i hx
      cases ht with
      | root _ _ h1 =>
        have : (([] : List (List UInt8)) ++ pagesF (0 : Nat) (groupsL l)).dropLast = [] := by
          have hlen : (([] : List (List UInt8)) ++ pagesF (0 : Nat) (groupsL l)).length = 1 := by simp [pages_len, h1]
          apply List.eq_nil_of_length_eq_zero
          rw [List.length_dropLast, hlen]
        rw [this] at hx
        exact hne _ _ hx rfl
      | up _ ho h1 ht2 =>
        obtain ⟨ho2, t, hp, hq⟩ := tree_pre ht2
        have hg := groups_pos (aboveF 0 (groupsL l))
        have htne : pagesF ((0 + 1 : Nat) : Int) (groupsL (aboveF ([] : List (List UInt8)).length (groupsL l))) ++ t ≠ [] := by
          intro e
          have := congrArg List.length e
          simp [pages_len] at this
          have h3 := this.1
          rw [h3] at hg
          simp at hg
        have hd : ps.dropLast = pagesF (0 : Nat) (groupsL l) ++ (pagesF ((0 + 1 : Nat) : Int) (groupsL (aboveF ([] : List (List UInt8)).length (groupsL l))) ++ t).dropLast := by
          rw [hp, List.nil_append, List.append_assoc, List.dropLast_append_of_ne_nil htne]
        have hf := groups_flatten l
        have hrf : rowsF ps.dropLast [] = (l, 0) := by
          rw [hd, rowsF_zero _ _ _ ho (by rw [List.nil_append, hf]; exact hl), List.nil_append, hf]
          refine rowsF_skip _ l (fun p hpm => ?_)
          have hpm := List.dropLast_subset _ hpm
          rcases List.mem_append.1 hpm with hpm | hpm
          · unfold pagesF at hpm
            obtain ⟨c, hc, rfl⟩ := List.mem_map.1 hpm
            exact ⟨1, c, by omega, rfl, List.all_eq_true.1 ho2 c hc⟩
          · obtain ⟨m, c, h2, h3, h4⟩ := hq p hpm
            exact ⟨m, c, by omega, h3, h4⟩
        rw [hrf, h] at hx
        injection hx with hx
        have := congrArg List.length hx
        rw [List.length_dropLast] at this
        have := List.length_pos_iff.2 (hne _ _ h)
        omega
    · cases h0
end Go.Pg

/-
  Plain mathematics: rows laid among others, each key once. No program.
-/
namespace Go.Pg
open Go.Rst Go.Crc
/-- A row laid among others, as the statements do it. -/
def layF (r : Rw) : List Rw → Bool → List Rw
  | [], laid => if laid then [] else [r]
  | x :: xs, laid => if (x.1.toList == r.1.toList) = true then layF r xs laid else
    if laid = false ∧ sle x.1 r.1 = false then r :: x :: layF r xs true else x :: layF r xs laid
theorem layF_len (r : Rw) : ∀ (l : List Rw) (laid : Bool), (layF r l laid).length ≤ l.length + 1
  | [], laid => by unfold layF; split <;> simp
  | x :: xs, laid => by
    unfold layF
    have h1 := layF_len r xs laid
    have h2 : (layF r xs true).length ≤ xs.length := by
      have : ∀ (l : List Rw), (layF r l true).length ≤ l.length := by
        intro l
        induction l with
        | nil => simp [layF]
        | cons y ys ih =>
          unfold layF
          split
          · simp only [List.length_cons]; omega
          · simp only [Bool.true_eq_false, false_and, if_false, List.length_cons]; omega
      exact this xs
    split
    · simp only [List.length_cons]; omega
    · split
      · simp only [List.length_cons]; omega
      · simp only [List.length_cons]; omega
theorem layF_mem {r y : Rw} : ∀ {l : List Rw} {laid : Bool}, y ∈ layF r l laid → y = r ∨ y ∈ l
  | [], laid, h => by
    unfold layF at h
    split at h
    · cases h
    · left; simpa using h
  | x :: xs, laid, h => by
    unfold layF at h
    split at h
    · rcases layF_mem h with h | h
      · exact .inl h
      · exact .inr (List.mem_cons_of_mem _ h)
    · split at h
      · rcases List.mem_cons.1 h with h | h
        · exact .inl h
        · rcases List.mem_cons.1 h with h | h
          · exact .inr (by rw [h]; exact List.mem_cons_self)
          · rcases layF_mem h with h | h
            · exact .inl h
            · exact .inr (List.mem_cons_of_mem _ h)
      · rcases List.mem_cons.1 h with h | h
        · exact .inr (by rw [h]; exact List.mem_cons_self)
        · rcases layF_mem h with h | h
          · exact .inl h
          · exact .inr (List.mem_cons_of_mem _ h)
theorem layF_true {r y : Rw} : ∀ {l : List Rw}, y ∈ layF r l true → y ∈ l
  | [], h => by simp [layF] at h
  | x :: xs, h => by
    unfold layF at h
    split at h
    · exact List.mem_cons_of_mem _ (layF_true h)
    · simp only [Bool.true_eq_false, false_and, if_false] at h
      rcases List.mem_cons.1 h with h | h
      · rw [h]; exact List.mem_cons_self
      · exact List.mem_cons_of_mem _ (layF_true h)
theorem sorted_cons {x : Rw} {l : List Rw} : Sorted (x :: l) ↔ (∀ y ∈ l, lt x y) ∧ Sorted l := List.pairwise_cons
theorem layF_sorted_true {r : Rw} : ∀ {l : List Rw}, Sorted l → Sorted (layF r l true)
  | [], _ => by simp [layF, Sorted]
  | x :: xs, h => by
    obtain ⟨h1, h2⟩ := sorted_cons.1 h
    unfold layF
    split
    · exact layF_sorted_true h2
    · simp only [Bool.true_eq_false, false_and, if_false]
      exact sorted_cons.2 ⟨fun y hy => h1 y (layF_true hy), layF_sorted_true h2⟩
theorem layF_sorted {r : Rw} : ∀ {l : List Rw}, Sorted l → Sorted (layF r l false)
  | [], _ => by simp [layF, Sorted]
  | x :: xs, h => by
    obtain ⟨h1, h2⟩ := sorted_cons.1 h
    unfold layF
    split
    · exact layF_sorted h2
    · rename_i hne
      split
      · rename_i hlt
        have hrx : lt r x := sle_false hlt.2
        refine sorted_cons.2 ⟨fun y hy => ?_, sorted_cons.2 ⟨fun y hy => h1 y (layF_true hy), layF_sorted_true h2⟩⟩
        rcases List.mem_cons.1 hy with rfl | hy
        · exact hrx
        · exact bl_trans _ _ _ hrx (h1 y (layF_true hy))
      · rename_i hle
        refine sorted_cons.2 ⟨fun y hy => ?_, layF_sorted h2⟩
        rcases layF_mem hy with rfl | hy
        · have hs : sle x.1 y.1 = true := by
            cases hh : sle x.1 y.1
            · exact (hle ⟨rfl, hh⟩).elim
            · rfl
          unfold sle at hs
          rw [Bool.or_eq_true] at hs
          rcases hs with hs | hs
          · exact hs
          · exact (hne hs).elim
        · exact h1 y hy
def risL (l : List Rw) : List Rw := l.foldl (fun o r => layF r o false) []
theorem risL_all {p : Rw → Prop} : ∀ (l o : List Rw), (∀ r ∈ l, p r) → (∀ r ∈ o, p r) → Sorted o →
    (∀ r ∈ l.foldl (fun o r => layF r o false) o, p r) ∧ Sorted (l.foldl (fun o r => layF r o false) o) ∧ (l.foldl (fun o r => layF r o false) o).length ≤ o.length + l.length
  | [], o, _, h, hs => ⟨h, hs, Nat.le_refl _⟩
  | r :: rs, o, hl, h, hs => by
    rw [List.foldl_cons]
    obtain ⟨h1, h2, h3⟩ := risL_all rs (layF r o false) (fun x hx => hl x (List.mem_cons_of_mem _ hx)) (fun x hx => by
      rcases layF_mem hx with rfl | hx
      · exact hl _ (List.mem_cons_self)
      · exact h x hx) (layF_sorted hs)
    refine ⟨h1, h2, ?_⟩
    have := layF_len r o false
    simp only [List.length_cons]
    omega
theorem risL_good {p : Rw → Prop} {l : List Rw} (h : ∀ r ∈ l, p r) : (∀ r ∈ risL l, p r) ∧ Sorted (risL l) ∧ (risL l).length ≤ l.length := by
  have := risL_all (p := p) l [] h (fun _ h => by cases h) List.Pairwise.nil
  simpa [risL] using this
end Go.Pg
