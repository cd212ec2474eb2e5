/-
  Plain mathematics of what the statements of states ask: what is put is found, what is settled, in which order. No program.
-/
import Derived.Test.YtcmkmdghekkkhaaDoorTsM
set_option linter.unusedVariables false
namespace Go.Ts
open Go Go.Tp
def SortS (l : List Sub) : Prop := l.Pairwise (fun a b => a.id < b.id)
theorem mem_out {y : Sub} {l : List Sub} {id : Int} : y ∈ outS l id ↔ y ∈ l ∧ y.id ≠ id := by
  unfold outS
  simp
theorem mem_ins {x y : Sub} : ∀ {l : List Sub}, y ∈ insS x l ↔ y = x ∨ y ∈ l
  | [] => by simp [insS]
  | z :: l => by
    unfold insS
    split
    · simp
    · rw [List.mem_cons, mem_ins (l := l), List.mem_cons]
      constructor
      · rintro (h | h | h) <;> simp [h]
      · rintro (h | h | h) <;> simp [h]
theorem mem_put {x y : Sub} {l : List Sub} : y ∈ putS l x ↔ y = x ∨ (y ∈ l ∧ y.id ≠ x.id) := by
  unfold putS
  rw [mem_ins, mem_out]
theorem sort_out {l : List Sub} (h : SortS l) (id : Int) : SortS (outS l id) := by
  unfold outS
  exact List.Pairwise.filter _ h
theorem sort_ins {x : Sub} : ∀ {l : List Sub}, SortS l → (∀ y ∈ l, y.id ≠ x.id) → SortS (insS x l)
  | [], _, _ => by simp [insS, SortS]
  | z :: l, h, hx => by
    unfold SortS at h
    obtain ⟨h1, h2⟩ := List.pairwise_cons.1 h
    unfold insS
    split
    · rename_i hlt
      refine List.pairwise_cons.2 ⟨fun y hy => ?_, h⟩
      rcases List.mem_cons.1 hy with rfl | hy
      · exact hlt
      · have := h1 y hy
        omega
    · rename_i hlt
      have := hx z List.mem_cons_self
      refine List.pairwise_cons.2 ⟨fun y hy => ?_, sort_ins h2 (fun y hy => hx y (List.mem_cons_of_mem _ hy))⟩
      rcases mem_ins.1 hy with rfl | hy
      · omega
      · exact h1 y hy
theorem sort_put {l : List Sub} (h : SortS l) (x : Sub) : SortS (putS l x) := sort_ins (sort_out h x.id) (fun y hy => (mem_out.1 hy).2)
theorem find_ins_self {x : Sub} : ∀ {l : List Sub}, (∀ y ∈ l, y.id ≠ x.id) → findS (insS x l) x.id = some x
  | [], _ => by simp [insS, findS]
  | z :: l, h => by
    unfold insS
    split
    · simp [findS]
    · have hz := h z List.mem_cons_self
      have := find_ins_self (x := x) (l := l) (fun y hy => h y (List.mem_cons_of_mem _ hy))
      unfold findS at this ⊢
      rw [List.find?_cons_of_neg (by simpa using hz), this]
theorem find_ins_other {x : Sub} {id : Int} (hid : x.id ≠ id) : ∀ {l : List Sub}, findS (insS x l) id = findS l id
  | [] => by simp [insS, findS, hid]
  | z :: l => by
    have ih := find_ins_other hid (l := l)
    unfold insS
    split
    · unfold findS
      rw [List.find?_cons_of_neg (by simpa using hid)]
    · unfold findS at ih ⊢
      rw [List.find?_cons, List.find?_cons, ih]
theorem find_out_other {k id : Int} (hid : k ≠ id) : ∀ {l : List Sub}, findS (outS l k) id = findS l id
  | [] => rfl
  | z :: l => by
    have ih := find_out_other hid (l := l)
    unfold findS outS at ih ⊢
    by_cases hz : z.id = k
    · rw [List.filter_cons_of_neg (by simpa using hz), ih, List.find?_cons_of_neg (by rw [hz]; simpa using hid)]
    · rw [List.filter_cons_of_pos (by simpa using hz), List.find?_cons, List.find?_cons, ih]
theorem find_put_self (l : List Sub) (x : Sub) : findS (putS l x) x.id = some x := find_ins_self (fun y hy => (mem_out.1 hy).2)
theorem find_put_other {l : List Sub} {x : Sub} {id : Int} (h : x.id ≠ id) : findS (putS l x) id = findS l id := by
  unfold putS
  rw [find_ins_other h, find_out_other h]
theorem out_ins {x : Sub} : ∀ {l : List Sub}, outS (insS x l) x.id = outS l x.id
  | [] => by simp [insS, outS]
  | z :: l => by
    have ih := out_ins (x := x) (l := l)
    unfold insS
    split
    · unfold outS
      rw [List.filter_cons_of_neg (by simp)]
    · unfold outS at ih ⊢
      rw [List.filter_cons, List.filter_cons, ih]
theorem out_put {l : List Sub} {x : Sub} : outS (putS l x) x.id = outS l x.id := by
  unfold putS
  rw [out_ins]
  unfold outS
  rw [List.filter_filter]
  congr 1
  funext y
  simp
theorem find_mem {l : List Sub} (h : SortS l) {y : Sub} (hy : y ∈ l) : findS l y.id = some y := by
  induction l with
  | nil => cases hy
  | cons z l ih =>
    unfold SortS at h
    obtain ⟨h1, h2⟩ := List.pairwise_cons.1 h
    rcases List.mem_cons.1 hy with rfl | hy
    · simp [findS]
    · have := h1 y hy
      have ih := ih h2 hy
      unfold findS at ih ⊢
      rw [List.find?_cons_of_neg (by simp; omega), ih]
theorem find_none' {l : List Sub} {id : Int} (h : findS l id = none) : ∀ y ∈ l, y.id ≠ id := by
  unfold findS at h
  rw [List.find?_eq_none] at h
  intro y hy
  simpa using h y hy
theorem find_some' {l : List Sub} {id : Int} {x : Sub} (h : findS l id = some x) : x ∈ l ∧ x.id = id := by
  unfold findS at h
  exact ⟨List.mem_of_find?_eq_some h, by simpa using List.find?_some h⟩
theorem ins_len (x : Sub) : ∀ l : List Sub, (insS x l).length = l.length + 1
  | [] => rfl
  | z :: l => by
    unfold insS
    split
    · rfl
    · rw [List.length_cons, ins_len x l, List.length_cons]
theorem out_len (l : List Sub) (id : Int) : (outS l id).length ≤ l.length := List.length_filter_le _ _
theorem put_len (l : List Sub) (x : Sub) : (putS l x).length ≤ l.length + 1 := by
  unfold putS
  rw [ins_len]
  have := out_len l x.id
  omega
/-- What StateOrder makes. -/
def mkO (ids : List UInt8) (k : Nat) : Sub := { noSub with id := (((ids[k]?).getD 0).toNat : Int), lease := (k : Int) }
def ordS (ids : List UInt8) : Nat → List Sub
  | 0 => []
  | k + 1 => putS (ordS ids k) (mkO ids k)
theorem ord_len (ids : List UInt8) : ∀ k, (ordS ids k).length ≤ k
  | 0 => Nat.le_refl _
  | k + 1 => by
    have := put_len (ordS ids k) (mkO ids k)
    have := ord_len ids k
    unfold ordS
    omega
theorem ord_sort (ids : List UInt8) : ∀ k, SortS (ordS ids k)
  | 0 => List.Pairwise.nil
  | k + 1 => sort_put (ord_sort ids k) _
theorem ord_last (ids : List UInt8) : ∀ k, ∀ x ∈ ordS ids k, ∀ j, j < k → (mkO ids j).id = x.id → (j : Int) ≤ x.lease
  | 0, x, hx, _, _, _ => by cases hx
  | k + 1, x, hx, j, hj, he => by
    unfold ordS at hx
    rcases mem_put.1 hx with rfl | ⟨h1, h2⟩
    · show (j : Int) ≤ (k : Int)
      omega
    · by_cases hk : j = k
      · subst hk
        exact absurd he.symm h2
      · exact ord_last ids k x h1 j (by omega) he
theorem ord_found (ids : List UInt8) : ∀ k, ∀ j, j < k → (findS (ordS ids k) (mkO ids j).id).isSome = true
  | 0, j, hj => absurd hj (Nat.not_lt_zero _)
  | k + 1, j, hj => by
    unfold ordS
    by_cases hi : (mkO ids k).id = (mkO ids j).id
    · rw [← hi, find_put_self]; rfl
    · rw [find_put_other hi]
      by_cases hk : j = k
      · subst hk; exact absurd rfl hi
      · exact ord_found ids k j (by omega)
/- What is settled. -/
theorem settle_twice (x : Sub) (next : Int) : settleS (settleS x next) next = settleS x next := by
  have hf : floorS (settleS x next) next = floorS x next := by
    show max (floorS x next) _ = floorS x next
    have : (settleS x next).queue = x.queue := rfl
    rw [this]
    unfold floorS
    omega
  unfold settleS at hf ⊢
  simp only [hf, List.filter_filter, Bool.and_self]
theorem settle_floor (x : Sub) (next : Int) : x.floor ≤ (settleS x next).floor := by
  show x.floor ≤ floorS x next
  unfold floorS
  omega
theorem ack_all {next : Int} : ∀ {a : Int} {l : List Int}, ackB next a l = true → ∀ y ∈ l, a < y ∧ y < next
  | _, [], _, y, hy => by cases hy
  | a, n :: l, h, y, hy => by
    simp only [ackB, Bool.and_eq_true, decide_eq_true_eq] at h
    rcases List.mem_cons.1 hy with rfl | hy
    · exact h.1
    · have := ack_all h.2 y hy
      omega
theorem ack_filter {next F : Int} : ∀ {a : Int} {l : List Int}, ackB next a l = true → a ≤ F → ackB next F (l.filter fun n => decide (F < n)) = true
  | _, [], _, _ => rfl
  | a, n :: l, h, hF => by
    simp only [ackB, Bool.and_eq_true, decide_eq_true_eq] at h
    by_cases hn : F < n
    · have hall := ack_all h.2
      rw [List.filter_cons_of_pos (by simpa using hn), List.filter_eq_self.2 (fun y hy => by have := hall y hy; simp; omega)]
      simp only [ackB, Bool.and_eq_true, decide_eq_true_eq]
      exact ⟨⟨hn, h.1.2⟩, h.2⟩
    · rw [List.filter_cons_of_neg (by simpa using hn)]
      exact ack_filter h.2 (by omega)
theorem que_less {x y : Sub} {clock next : Int} (hl : y.lease = x.lease) (hm : y.most = x.most) (ha : ∀ n, x.acks.contains n = false → y.acks.contains n = false) : ∀ {a : Int} {q : List Msg}, queB x clock next a q = true → queB y clock next a q = true
  | _, [], _ => rfl
  | a, m :: q, h => by
    simp only [queB, Bool.and_eq_true, Bool.not_eq_true', decide_eq_true_eq] at h ⊢
    obtain ⟨⟨⟨⟨h1, h2⟩, h3⟩, h4⟩, h5⟩ := h
    exact ⟨⟨⟨⟨h1, h2⟩, ha _ h3⟩, by rw [hl, hm]; exact h4⟩, que_less hl hm ha h5⟩
theorem w64_id {n : Int} (h0 : -9223372036854775808 ≤ n) (h1 : n ≤ 9223372036854775807) : w64 n = n := by
  unfold w64 RowKit.wrap64
  omega
theorem settle_good {x : Sub} {clock next : Int} (h : goodB x clock next = true) (hn : next ≤ 9223372036854775807) : goodB (settleS x next) clock next = true := by
  simp only [goodB, Bool.and_eq_true] at h
  obtain ⟨⟨hf, ha⟩, hq⟩ := h
  have hf0 := hf
  simp only [fieldsB, Bool.and_eq_true, decide_eq_true_eq] at hf0
  have h0 : 0 ≤ x.floor ∧ x.floor < next := ⟨hf0.1.1.1.1.2, hf0.1.1.1.2⟩
  have hF : floorS x next < next ∧ x.floor ≤ floorS x next ∧ (∀ m q, x.queue = m :: q → floorS x next < m.seq) := by
    unfold floorS
    cases hx : x.queue with
    | nil =>
      simp only
      rw [w64_id (by omega) (by omega)]
      exact ⟨by omega, by omega, fun m q h => by cases h⟩
    | cons m q =>
      rw [hx] at hq
      simp only [queB, Bool.and_eq_true, decide_eq_true_eq] at hq
      simp only
      rw [w64_id (by omega) (by omega)]
      refine ⟨by omega, by omega, fun m2 q2 h => ?_⟩
      injection h with h1 h2
      subst h1
      omega
  obtain ⟨hF1, hF2, hF3⟩ := hF
  have hc : ∀ n, x.acks.contains n = false → (settleS x next).acks.contains n = false := by
    intro n hn
    rw [List.contains_eq_mem] at hn ⊢
    simp only [decide_eq_false_iff_not] at hn ⊢
    exact fun hm => hn ((List.mem_filter.1 hm).1)
  simp only [goodB, Bool.and_eq_true]
  refine ⟨⟨?_, ack_filter ha hF2⟩, ?_⟩
  · have hlen : (settleS x next).acks.length ≤ x.acks.length := List.length_filter_le _ _
    simp only [fieldsB, Bool.and_eq_true, decide_eq_true_eq]
    obtain ⟨⟨⟨⟨⟨⟨⟨⟨⟨⟨⟨⟨⟨a1, a2⟩, a3⟩, a4⟩, a5⟩, a6⟩, a7⟩, a8⟩, a9⟩, a10⟩, a11⟩, a12⟩, a13⟩, a14⟩ := hf0
    exact ⟨⟨⟨⟨⟨⟨⟨⟨⟨⟨⟨⟨⟨a1, a2⟩, a3⟩, a4⟩, a5⟩, a6⟩, a7⟩, a8⟩, a9⟩, by show 0 ≤ floorS x next; omega⟩, hF1⟩, by omega⟩, a13⟩, a14⟩
  · show queB (settleS x next) clock next (floorS x next) x.queue = true
    have hq2 := que_less (x := x) (y := settleS x next) rfl rfl hc hq
    cases hx : x.queue with
    | nil => rfl
    | cons m q =>
      rw [hx] at hq2
      simp only [queB, Bool.and_eq_true, decide_eq_true_eq] at hq2 ⊢
      exact ⟨⟨⟨⟨hF3 m q hx, hq2.1.1.1.2⟩, hq2.1.1.2⟩, hq2.1.2⟩, hq2.2⟩
end Go.Ts
