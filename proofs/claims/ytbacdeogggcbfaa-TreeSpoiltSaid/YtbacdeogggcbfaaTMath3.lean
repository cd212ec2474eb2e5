/-
  Plain mathematics of trees: what is found in them. No program.
-/
import Derived.Test.YtbacdeogggcbfaaTMath2
namespace Go.Pg
open Go.Rst Go.Crc
/-- The value of the first row of a key. -/
def findR : List Rw → ByteArray → Option (List UInt8)
  | [], _ => none
  | r :: rs, key => if (r.1.toList == key.toList) = true then some r.2 else findR rs key
theorem findR_go {rs : List Rw} {k : Nat} {key : ByteArray} (h : k < rs.length) : findR (rs.drop k) key = if (rs[k].1.toList == key.toList) = true then some rs[k].2 else findR (rs.drop (k + 1)) key := by
  rw [List.drop_eq_getElem_cons h, findR]
/-- Which row of a page leads on. -/
def idxN (l : List Rw) (key : ByteArray) : Nat := findC l key - 1
theorem findC_le : ∀ (l : List Rw) (key : ByteArray), findC l key ≤ l.length
  | [], _ => Nat.le_refl _
  | r :: rs, key => by
    unfold findC
    have := findC_le rs key
    split
    · simp only [List.length_cons]; omega
    · exact Nat.zero_le _
theorem idxN_lt {l : List Rw} (h : 0 < l.length) (key : ByteArray) : idxN l key < l.length := by
  have := findC_le l key
  unfold idxN
  omega
/-- The number of the page that it leads to; below nought: none. -/
def belowL (l : List Rw) (key : ByteArray) (at_ : Nat) : Int := match l[idxN l key]? with
  | none => -1
  | some r => if (getNum r.2 0).2.2 ≠ 0 ∨ (getNum r.2 0).2.1 < r.2.length ∨ (at_ : Int) ≤ (getNum r.2 0).1 then -1 else (getNum r.2 0).1
def getF (ps : List (List UInt8)) (key : ByteArray) : Nat → Int → Nat → Option (List UInt8) × Nat
  | 0, _, _ => (none, 11)
  | f + 1, at_, above => if at_ ≤ -1 then (none, 11) else
    if (decR (ps.getD at_.toNat [])).2.2 ≠ 0 then (none, (decR (ps.getD at_.toNat [])).2.2) else
    if 0 < above ∧ (decR (ps.getD at_.toNat [])).1 ≠ above - 1 then (none, 11) else
    if (decR (ps.getD at_.toNat [])).1 = 0 then (findR (decR (ps.getD at_.toNat [])).2.1 key, 0) else
    getF ps key f (belowL (decR (ps.getD at_.toNat [])).2.1 key at_.toNat) (decR (ps.getD at_.toNat [])).1
def getL (ps : List (List UInt8)) (key : ByteArray) : Option (List UInt8) × Nat := getF ps key (ps.length + 1) ((ps.length : Int) - 1) 0
/-- The rows of pages of level nought, as long as there are not too many. -/
def rowsF : List (List UInt8) → List Rw → List Rw × Nat
  | [], acc => (acc, 0)
  | p :: ps, acc => if (decR p).2.2 ≠ 0 then ([], (decR p).2.2) else rowsF ps (if (decR p).1 = 0 ∧ acc.length ≤ 5000 then acc ++ (decR p).2.1 else acc)
def rowsT (ps : List (List UInt8)) : List Rw × Nat :=
  if (rowsF ps []).2 ≠ 0 then ([], (rowsF ps []).2) else if buildL (rowsF ps []).1 = some ps then ((rowsF ps []).1, 0) else ([], 11)
theorem decR_len (p : List UInt8) : (decR p).2.1.length ≤ 250 := by
  have hf : ∀ l : List Rw, pageOk ((p.getD 0 0).toNat : Int) l = true → l.length ≤ 250 := by
    intro l h
    unfold pageOk at h
    simp only [decide_eq_true_eq] at h
    have hx : ∀ (rs : List Rw) (left : Nat), fitF rs left ≤ left := by
      intro rs
      induction rs with
      | nil => intro left; exact Nat.zero_le _
      | cons r rs ih =>
        intro left
        unfold fitF
        have h1 := ih (left - rsz r)
        have h2 : 1 ≤ rsz r := by unfold rsz; omega
        split
        · omega
        · split
          · omega
          · omega
    have := hx l 250
    unfold fitN at h
    omega
  unfold decR
  split
  · simp
  · split
    · simp
    · split
      · simp
      · split
        · rename_i h; exact hf _ h.1
        · simp
theorem decR_lev (p : List UInt8) : (decR p).1 ≤ 4 := by
  unfold decR
  split
  · simp
  · split
    · simp
    · split
      · simp
      · split
        · rename_i h
          have := h.1
          unfold pageOk at this
          simp only [decide_eq_true_eq] at this
          simp only []
          omega
        · simp
end Go.Pg
