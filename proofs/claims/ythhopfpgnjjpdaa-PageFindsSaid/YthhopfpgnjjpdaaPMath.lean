/-
  Plain mathematics of pages: how many rows fit, the bytes of a page, and the way back. No program.
-/
import Derived.Test.YthhopfpgnjjpdaaMath
import Derived.Test.YthhopfpgnjjpdaaCMath
namespace Go.Pg
open Go.Rst Go.Crc
abbrev Rw := ByteArray × List UInt8
def rowB (r : Rw) : List UInt8 := rowL r.1.data.toList r.2
def rsz (r : Rw) : Nat := 1 + (rowB r).length
def fitF : List Rw → Nat → Nat
  | [], _ => 0
  | r :: rs, left => if 30 < r.1.size ∨ 150 < r.2.length then 0 else if left < rsz r then 0 else 1 + fitF rs (left - rsz r)
def fitN (rs : List Rw) : Nat := fitF rs 250
theorem fitF_le : ∀ (rs : List Rw) (left : Nat), fitF rs left ≤ rs.length
  | [], _ => Nat.le_refl _
  | r :: rs, left => by
    unfold fitF
    have := fitF_le rs (left - rsz r)
    simp only [List.length_cons]
    split
    · omega
    · split <;> omega
theorem fitF_take : ∀ (m : Nat) (rs : List Rw) (left : Nat), fitF (rs.take m) left = min m (fitF rs left)
  | 0, rs, left => by simp [fitF]
  | m + 1, [], left => by simp [fitF]
  | m + 1, r :: rs, left => by
    have := fitF_take m rs (left - rsz r)
    rw [List.take_succ_cons]
    unfold fitF
    rw [this]
    split
    · simp
    · split
      · simp
      · omega
theorem fitN_le (rs : List Rw) : fitN rs ≤ rs.length := fitF_le rs 250
theorem fitN_take (rs : List Rw) (m : Nat) : fitN (rs.take m) = min m (fitN rs) := fitF_take m rs 250
theorem fitN_fit (rs : List Rw) : fitN (rs.take (fitN rs)) = (rs.take (fitN rs)).length := by
  have := fitN_le rs
  rw [fitN_take, List.length_take]
  omega

theorem rowB_pos (r : Rw) : 2 ≤ (rowB r).length := by
  have h1 := numL_pos r.1.data.toList.length
  have h2 := numL_pos r.2.length
  unfold rowB rowL textL
  simp only [List.length_append]
  omega
theorem rowB_key (r : Rw) : r.1.size + r.2.length ≤ (rowB r).length := by
  unfold rowB rowL textL
  have : r.1.data.toList.length = r.1.size := by rw [Array.length_toList]; rfl
  simp only [List.length_append]
  omega
/-- The rows of a page, from behind. -/
def body : List Rw → List UInt8
  | [] => []
  | r :: rs => body rs ++ rowB r
theorem body_snoc (r : Rw) : ∀ rs : List Rw, body (rs ++ [r]) = rowB r ++ body rs
  | [] => by simp [body]
  | x :: rs => by rw [List.cons_append, body, body_snoc r rs, body, List.append_assoc]
theorem body_take {rs : List Rw} {k : Nat} (h : k < rs.length) : body (rs.take (k + 1)) = rowB rs[k] ++ body (rs.take k) := by
  rw [List.take_succ_eq_append_getElem h, body_snoc]
/-- What rows, and their slots, take. -/
def used (rs : List Rw) : Nat := rs.length + (body rs).length
theorem used_take {rs : List Rw} {k : Nat} (h : k < rs.length) : used (rs.take (k + 1)) = used (rs.take k) + rsz rs[k] := by
  unfold used rsz
  rw [body_take h, List.length_append, List.length_take, List.length_take]
  omega
theorem used_cons (r : Rw) (rs : List Rw) : used (r :: rs) = rsz r + used rs := by
  unfold used rsz
  rw [body, List.length_append, List.length_cons]
  omega
theorem used_le (rs : List Rw) (k : Nat) : used (rs.take k) ≤ used rs := by
  induction rs generalizing k with
  | nil => simp
  | cons r rs ih =>
    cases k with
    | zero => simp [used, body]
    | succ k => rw [List.take_succ_cons, used_cons, used_cons]; have := ih k; omega
theorem fitF_all : ∀ (rs : List Rw) (left : Nat), fitF rs left = rs.length ↔ (used rs ≤ left ∧ ∀ r ∈ rs, r.1.size ≤ 30 ∧ r.2.length ≤ 150)
  | [], left => by simp [fitF, used, body]
  | r :: rs, left => by
    have ih := fitF_all rs (left - rsz r)
    have hp : 1 ≤ rsz r := by unfold rsz; omega
    unfold fitF
    rw [used_cons]
    simp only [List.length_cons, List.mem_cons, forall_eq_or_imp]
    split
    · constructor
      · intro h; omega
      · intro h; omega
    · split
      · constructor
        · intro h; omega
        · intro h; omega
      · constructor
        · intro h
          have := ih.1 (by omega)
          exact ⟨by omega, ⟨by omega, by omega⟩, this.2⟩
        · intro h
          have := ih.2 ⟨by omega, h.2.2⟩
          omega
theorem fitN_all (rs : List Rw) : fitN rs = rs.length ↔ (used rs ≤ 250 ∧ ∀ r ∈ rs, r.1.size ≤ 30 ∧ r.2.length ≤ 150) := fitF_all rs 250
/-- As the walk comes by. -/
theorem fit_go {rs : List Rw} {k : Nat} (h : k < rs.length) (hu : used (rs.take k) ≤ 250) :
    fitF (rs.drop k) (250 - used (rs.take k)) = if 30 < rs[k].1.size ∨ 150 < rs[k].2.length then 0 else if 250 < used (rs.take (k + 1)) then 0 else 1 + fitF (rs.drop (k + 1)) (250 - used (rs.take (k + 1))) := by
  rw [List.drop_eq_getElem_cons h, fitF, used_take h]
  split
  · rfl
  · split
    · rw [if_pos (by omega)]
    · rw [if_neg (by omega)]
      congr 2
      omega

def slot (rs : List Rw) : UInt8 := UInt8.ofNat (252 - (body rs).length)
/-- The slots of rows. -/
def slots (rs : List Rw) : List UInt8 := (List.range rs.length).map fun j => slot (rs.take (j + 1))
theorem slots_length (rs : List Rw) : (slots rs).length = rs.length := by simp [slots]
theorem slots_take {rs : List Rw} {k : Nat} (h : k < rs.length) : slots (rs.take (k + 1)) = slots (rs.take k) ++ [slot (rs.take (k + 1))] := by
  unfold slots
  rw [List.length_take, List.length_take, Nat.min_eq_left (by omega), Nat.min_eq_left (by omega), List.range_succ, List.map_append]
  congr 1
  · apply List.map_congr_left
    intro j hj
    have hj := List.mem_range.1 hj
    rw [List.take_take, List.take_take, Nat.min_eq_left (by omega), Nat.min_eq_left (by omega)]
  · simp [List.take_take]
/-- 252 bytes: a level, how many, slots, noughts, what stands at the end. -/
def pageA (lev n : UInt8) (ss bd : List UInt8) : List UInt8 := lev :: n :: (ss ++ (List.replicate (250 - ss.length - bd.length) 0 ++ bd))
theorem pageA_length {lev n : UInt8} {ss bd : List UInt8} (h : ss.length + bd.length ≤ 250) : (pageA lev n ss bd).length = 252 := by
  simp [pageA]; omega
theorem pageA_nil (lev n : UInt8) : pageA lev n [] [] = lev :: n :: List.replicate 250 0 := by
  unfold pageA
  simp only [List.length_nil, Nat.sub_zero, List.append_nil, List.nil_append]
theorem pageA_zeros {lev n : UInt8} {ss bd : List UInt8} {m : Nat} (h : ss.length + m + bd.length ≤ 250) : pageA lev n ss (List.replicate m 0 ++ bd) = pageA lev n ss bd := by
  unfold pageA
  congr 3
  rw [← List.append_assoc, List.replicate_append_replicate]
  congr 2
  simp
  omega
/-- A slot more. -/
theorem pageA_slot {lev n : UInt8} {ss bd : List UInt8} (s : UInt8) (h : ss.length + bd.length < 250) : (pageA lev n ss bd).set (2 + ss.length) s = pageA lev n (ss ++ [s]) bd := by
  unfold pageA
  rw [show 2 + ss.length = ss.length + 1 + 1 from by omega, List.set_cons_succ, List.set_cons_succ, List.set_append_right _ _ (Nat.le_refl _), Nat.sub_self]
  congr 2
  obtain ⟨z, hz⟩ : ∃ z, 250 - ss.length - bd.length = z + 1 := ⟨250 - ss.length - bd.length - 1, by omega⟩
  rw [hz, List.replicate_succ, List.cons_append, List.set_cons_zero, List.length_append, show 250 - (ss.length + [s].length) - bd.length = z from by simp; omega]
  simp
/-- A byte within what stands at the end. -/
theorem pageA_set {lev n : UInt8} {ss bd : List UInt8} {q : Nat} (c : UInt8) (hq : q < bd.length) (h : ss.length + bd.length ≤ 250) : (pageA lev n ss bd).set (252 - bd.length + q) c = pageA lev n ss (bd.set q c) := by
  unfold pageA
  rw [List.length_set]
  rw [show 252 - bd.length + q = (250 - bd.length + q) + 1 + 1 from by omega, List.set_cons_succ, List.set_cons_succ, List.set_append_right _ _ (by omega), List.set_append_right _ _ (by simp; omega)]
  congr 5
  simp
  omega
theorem row_set {row bd : List UInt8} {q : Nat} (h : q < row.length) : (row.take q ++ (List.replicate (row.length - q) 0 ++ bd)).set q row[q] = row.take (q + 1) ++ (List.replicate (row.length - (q + 1)) 0 ++ bd) := by
  have hl : (row.take q).length = q := by rw [List.length_take]; omega
  rw [List.set_append_right _ _ (by omega), hl, Nat.sub_self, show row.length - q = (row.length - (q + 1)) + 1 from by omega, List.replicate_succ, List.cons_append, List.set_cons_zero, List.take_succ_eq_append_getElem h, List.append_assoc]
  rfl
/-- Bytes laid over noughts ahead of what stands at the end. -/
theorem pageA_lay {lev n : UInt8} {ss bd row : List UInt8} (h : ss.length + row.length + bd.length ≤ 250) :
    (pageA lev n ss bd).take (252 - bd.length - row.length) ++ (row ++ (pageA lev n ss bd).drop (252 - bd.length - row.length + row.length)) = pageA lev n ss (row ++ bd) := by
  unfold pageA
  rw [show 252 - bd.length - row.length + row.length = (250 - bd.length) + 1 + 1 from by omega, show 252 - bd.length - row.length = (250 - bd.length - row.length) + 1 + 1 from by omega]
  rw [List.take_succ_cons, List.take_succ_cons, List.drop_succ_cons, List.drop_succ_cons]
  have hz : (List.replicate (250 - ss.length - bd.length) (0 : UInt8)).length = 250 - ss.length - bd.length := by simp
  rw [List.take_append, List.drop_append, List.take_of_length_le (by omega), List.drop_eq_nil_of_le (as := ss) (by omega), List.take_append, List.drop_append, hz,
    List.take_replicate, Nat.min_eq_left (by omega), List.drop_eq_nil_of_le (as := List.replicate _ _) (by omega), show 250 - bd.length - row.length - ss.length - (250 - ss.length - bd.length) = 0 from by omega,
    show 250 - bd.length - ss.length - (250 - ss.length - bd.length) = 0 from by omega, List.take_zero, List.drop_zero, List.length_append,
    show 250 - bd.length - row.length - ss.length = 250 - ss.length - (row.length + bd.length) from by omega]
  simp only [List.append_nil, List.nil_append, List.cons_append, List.append_assoc]

/-- The 252 bytes of a page. -/
def pageB (lev : Nat) (rs : List Rw) : List UInt8 := pageA (UInt8.ofNat lev) (UInt8.ofNat rs.length) (slots rs) (body rs)
end Go.Pg
