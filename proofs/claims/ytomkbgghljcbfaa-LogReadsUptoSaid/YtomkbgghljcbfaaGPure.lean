/-
  Plain mathematics of the cyclic redundancy check, without any program: the step, its linearity, eight steps by a table, bytes behind bytes, bursts. No condition beyond those that each theorem states.
-/
import Derived.Test.YtomkbgghljcbfaaMath
set_option linter.unusedVariables false

namespace Go.Crc

def poly : Nat := 3988292384
/-- A step. -/
def cstep (n : Nat) : Nat := if n % 2 = 1 then (n / 2) ^^^ poly else n / 2
/-- So many steps. -/
def csteps : Nat → Nat → Nat
  | 0, n => n
  | k + 1, n => csteps k (cstep n)
def ceight (n : Nat) : Nat := csteps 8 n
/-- A byte behind. -/
def cbyte (n : Nat) (c : UInt8) : Nat := ceight (n ^^^ c.toNat)
def craw (n : Nat) (l : List UInt8) : Nat := l.foldl cbyte n
def ones : Nat := 4294967295
def cmore (n : Nat) (l : List UInt8) : Nat := craw (n ^^^ ones) l ^^^ ones
def csum (l : List UInt8) : Nat := cmore 0 l
def B32 : Nat := 4294967296

theorem xor_lt {a b : Nat} (ha : a < B32) (hb : b < B32) : a ^^^ b < B32 := Nat.xor_lt_two_pow (n := 32) ha hb
theorem poly_lt : poly < B32 := by decide
theorem ones_lt : ones < B32 := by decide
theorem cstep_lt {n : Nat} (h : n < B32) : cstep n < B32 := by
  unfold cstep
  have : n / 2 < B32 := Nat.lt_of_le_of_lt (Nat.div_le_self _ _) h
  split
  · exact xor_lt this poly_lt
  · exact this
theorem csteps_lt : ∀ (k : Nat) {n : Nat}, n < B32 → csteps k n < B32
  | 0, _, h => h
  | k + 1, _, h => csteps_lt k (cstep_lt h)
theorem ceight_lt {n : Nat} (h : n < B32) : ceight n < B32 := csteps_lt 8 h
theorem byte_lt (c : UInt8) : c.toNat < B32 := Nat.lt_trans c.toNat_lt (by decide)
theorem cbyte_lt {n : Nat} (c : UInt8) (h : n < B32) : cbyte n c < B32 := ceight_lt (xor_lt h (byte_lt c))
theorem craw_lt : ∀ (l : List UInt8) {n : Nat}, n < B32 → craw n l < B32
  | [], _, h => h
  | c :: l, _, h => craw_lt l (cbyte_lt c h)
theorem cmore_lt {n : Nat} (l : List UInt8) (h : n < B32) : cmore n l < B32 := xor_lt (craw_lt l (xor_lt h ones_lt)) ones_lt
theorem csum_lt (l : List UInt8) : csum l < B32 := cmore_lt l (by decide)

theorem csteps_succ : ∀ (k n : Nat), csteps (k + 1) n = cstep (csteps k n)
  | 0, _ => rfl
  | k + 1, n => csteps_succ k (cstep n)

theorem xor_half (a b : Nat) : (a ^^^ b) / 2 = a / 2 ^^^ b / 2 := by
  have := Nat.shiftRight_xor_distrib (a := a) (b := b) (i := 1)
  simpa [Nat.shiftRight_eq_div_pow] using this
theorem xor_odd (a b : Nat) : (a ^^^ b) % 2 = (a % 2 + b % 2) % 2 := by
  have := Nat.xor_mod_two_pow (a := a) (b := b) (n := 1)
  simp only [Nat.pow_one] at this
  rw [this]
  rcases Nat.mod_two_eq_zero_or_one a with h | h <;> rcases Nat.mod_two_eq_zero_or_one b with h' | h' <;> rw [h, h'] <;> rfl
/-- The step of an xor is the xor of the steps. -/
theorem cstep_xor (a b : Nat) : cstep (a ^^^ b) = cstep a ^^^ cstep b := by
  unfold cstep
  rw [xor_half, xor_odd]
  rcases Nat.mod_two_eq_zero_or_one a with h | h <;> rcases Nat.mod_two_eq_zero_or_one b with h' | h' <;> simp [h, h']
  · rw [Nat.xor_assoc]
  · rw [Nat.xor_assoc, Nat.xor_assoc, Nat.xor_comm (b / 2) poly]
  · have e : ∀ x y p : Nat, x ^^^ p ^^^ (y ^^^ p) = x ^^^ y := fun x y p => by
      rw [Nat.xor_comm y p, ← Nat.xor_assoc, Nat.xor_assoc x p p, Nat.xor_self, Nat.xor_zero]
    exact (e _ _ _).symm
theorem csteps_xor : ∀ (k a b : Nat), csteps k (a ^^^ b) = csteps k a ^^^ csteps k b
  | 0, _, _ => rfl
  | k + 1, a, b => by
    show csteps k (cstep (a ^^^ b)) = _
    rw [cstep_xor, csteps_xor k]
    rfl
theorem ceight_xor (a b : Nat) : ceight (a ^^^ b) = ceight a ^^^ ceight b := csteps_xor 8 a b
theorem ceight_zero : ceight 0 = 0 := by decide
/-- Steps of a number whose low bits are nought. -/
theorem csteps_even : ∀ (k n : Nat), csteps k (n * 2 ^ k) = n
  | 0, n => by simp [csteps]
  | k + 1, n => by
    show csteps k (cstep (n * 2 ^ (k + 1))) = n
    have e : n * 2 ^ (k + 1) = (n * 2 ^ k) * 2 := by rw [Nat.pow_succ, Nat.mul_assoc]
    rw [e]
    unfold cstep
    rw [if_neg (by omega), Nat.mul_div_cancel _ (by decide)]
    exact csteps_even k n
theorem split_low (n : Nat) : n = (n % 256) ^^^ (n / 256 * 256) := by
  apply Nat.eq_of_testBit_eq
  intro i
  rw [Nat.testBit_xor, show (256 : Nat) = 2 ^ 8 from rfl, Nat.testBit_mod_two_pow, Nat.testBit_mul_two_pow, Nat.testBit_div_two_pow]
  by_cases h : i < 8
  · simp [h, show ¬ 8 ≤ i from by omega]
  · simp [h, show 8 ≤ i from by omega, show i - 8 + 8 = i from by omega]
/-- Eight steps by those of the low byte. -/
theorem ceight_split (n : Nat) : ceight n = ceight (n % 256) ^^^ n / 256 := by
  conv => lhs; rw [split_low n]
  rw [ceight_xor]
  congr 1
  exact csteps_even 8 (n / 256)
theorem xor_byte_div (n : Nat) (c : UInt8) : (n ^^^ c.toNat) / 256 = n / 256 := by
  have := Nat.shiftRight_xor_distrib (a := n) (b := c.toNat) (i := 8)
  simp only [Nat.shiftRight_eq_div_pow] at this
  rw [show (2 : Nat) ^ 8 = 256 from rfl] at this
  rw [this, Nat.div_eq_of_lt c.toNat_lt, Nat.xor_zero]
theorem xor_byte_mod (n : Nat) (c : UInt8) : (n ^^^ c.toNat) % 256 = (n % 256) ^^^ c.toNat := by
  have := Nat.xor_mod_two_pow (a := n) (b := c.toNat) (n := 8)
  rw [show (2 : Nat) ^ 8 = 256 from rfl] at this
  rw [this, Nat.mod_eq_of_lt c.toNat_lt]
/-- A byte behind, by the table. -/
theorem cbyte_table (n : Nat) (c : UInt8) : cbyte n c = ceight ((n % 256) ^^^ c.toNat) ^^^ n / 256 := by
  unfold cbyte
  rw [ceight_split, xor_byte_mod, xor_byte_div]

theorem craw_append (n : Nat) (a b : List UInt8) : craw n (a ++ b) = craw (craw n a) b := by simp [craw]
theorem craw_snoc (n : Nat) (a : List UInt8) (c : UInt8) : craw n (a ++ [c]) = cbyte (craw n a) c := by simp [craw]
theorem xor_ones_ones (n : Nat) : n ^^^ ones ^^^ ones = n := by rw [Nat.xor_assoc, Nat.xor_self, Nat.xor_zero]
theorem cmore_append (n : Nat) (a b : List UInt8) : cmore n (a ++ b) = cmore (cmore n a) b := by
  unfold cmore
  rw [craw_append, xor_ones_ones]
theorem csum_append (a b : List UInt8) : csum (a ++ b) = cmore (csum a) b := cmore_append 0 a b
theorem cmore_nil (n : Nat) : cmore n [] = n := xor_ones_ones n

/-- A number as four bytes, the least first. -/
def tailL (n : Nat) : List UInt8 := [UInt8.ofNat n, UInt8.ofNat (n / 256), UInt8.ofNat (n / 65536), UInt8.ofNat (n / 16777216)]
theorem tailL_length (n : Nat) : (tailL n).length = 4 := rfl
theorem tailL_inj {a b : Nat} (ha : a < B32) (hb : b < B32) (h : tailL a = tailL b) : a = b := by
  unfold tailL at h
  simp only [List.cons.injEq, and_true] at h
  obtain ⟨h0, h1, h2, h3⟩ := h
  have g0 := congrArg UInt8.toNat h0
  have g1 := congrArg UInt8.toNat h1
  have g2 := congrArg UInt8.toNat h2
  have g3 := congrArg UInt8.toNat h3
  simp only [UInt8.toNat_ofNat'] at g0 g1 g2 g3
  unfold B32 at ha hb
  omega
def sealL (l : List UInt8) : List UInt8 := l ++ tailL (csum l)
theorem sealL_length (l : List UInt8) : (sealL l).length = l.length + 4 := by unfold sealL; rw [List.length_append, tailL_length]
/-- Do bytes end with their check? -/
def rightL (l : List UInt8) : Bool := decide (4 ≤ l.length) && (tailL (csum (l.take (l.length - 4))) == l.drop (l.length - 4))
theorem rightL_seal (l : List UInt8) : rightL (sealL l) = true := by
  unfold rightL
  rw [sealL_length]
  have h1 : (sealL l).take (l.length + 4 - 4) = l := by unfold sealL; simp
  have h2 : (sealL l).drop (l.length + 4 - 4) = tailL (csum l) := by unfold sealL; simp
  rw [h1, h2]
  simp
theorem rightL_tail (l : List UInt8) {n : Nat} (hn : n < B32) : rightL (l ++ tailL n) = decide (n = csum l) := by
  unfold rightL
  rw [List.length_append, tailL_length]
  have h1 : (l ++ tailL n).take (l.length + 4 - 4) = l := by simp
  have h2 : (l ++ tailL n).drop (l.length + 4 - 4) = tailL n := by simp
  rw [h1, h2]
  rw [Bool.eq_iff_iff]
  simp
  constructor
  · intro h; exact (tailL_inj (csum_lt l) hn h).symm
  · rintro rfl; rfl
theorem rightL_ref (l : List UInt8) : rightL l = (decide (4 ≤ l.length) && (sealL (l.take (l.length - 4)) == l)) := by
  unfold rightL
  by_cases h : 4 ≤ l.length
  · simp only [h, decide_true, Bool.true_and]
    rw [Bool.eq_iff_iff]
    simp only [beq_iff_eq]
    unfold sealL
    constructor
    · intro e; rw [e]; exact List.take_append_drop _ _
    · intro e
      have h1 := congrArg (List.drop (l.length - 4)) e
      rw [List.drop_left' (by simp)] at h1
      exact h1
  · simp [h]
end Go.Crc

/-
  Plain mathematics of pages: how many rows fit, the bytes of a page, and the way back. No program.
-/
namespace Go.Pg
open Go.Rst Go.Crc
abbrev Rw := ByteArray × List UInt8
def rowB (r : Rw) : List UInt8 := rowL r.1.data.toList r.2
def rsz (r : Rw) : Nat := 1 + (rowB r).length
def fitF : List Rw → Nat → Nat
  | [], _ => 0
  | r :: rs, left => if 30 < r.1.size ∨ 150 < r.2.length then 0 else if left < rsz r then 0 else 1 + fitF rs (left - rsz r)
def fitN (rs : List Rw) : Nat := fitF rs 250
theorem fitF_le : ∀ (rs : List Rw) (left : Nat), fitF rs left ≤ rs.length
  | [], _ => Nat.le_refl _
  | r :: rs, left => by
    unfold fitF
    have := fitF_le rs (left - rsz r)
    simp only [List.length_cons]
    split
    · omega
    · split <;> omega
theorem fitF_take : ∀ (m : Nat) (rs : List Rw) (left : Nat), fitF (rs.take m) left = min m (fitF rs left)
  | 0, rs, left => by simp [fitF]
  | m + 1, [], left => by simp [fitF]
  | m + 1, r :: rs, left => by
    have := fitF_take m rs (left - rsz r)
    rw [List.take_succ_cons]
    unfold fitF
    rw [this]
    split
    · simp
    · split
      · simp
      · omega
theorem fitN_le (rs : List Rw) : fitN rs ≤ rs.length := fitF_le rs 250
theorem fitN_take (rs : List Rw) (m : Nat) : fitN (rs.take m) = min m (fitN rs) := fitF_take m rs 250
theorem fitN_fit (rs : List Rw) : fitN (rs.take (fitN rs)) = (rs.take (fitN rs)).length := by
  have := fitN_le rs
  rw [fitN_take, List.length_take]
  omega

theorem rowB_pos (r : Rw) : 2 ≤ (rowB r).length := by
  have h1 := numL_pos r.1.data.toList.length
  have h2 := numL_pos r.2.length
  unfold rowB rowL textL
  simp only [List.length_append]
  omega
theorem rowB_key (r : Rw) : r.1.size + r.2.length ≤ (rowB r).length := by
  unfold rowB rowL textL
  have : r.1.data.toList.length = r.1.size := by rw [Array.length_toList]; rfl
  simp only [List.length_append]
  omega
/-- The rows of a page, from behind. -/
def body : List Rw → List UInt8
  | [] => []
  | r :: rs => body rs ++ rowB r
theorem body_snoc (r : Rw) : ∀ rs : List Rw, body (rs ++ [r]) = rowB r ++ body rs
  | [] => by simp [body]
  | x :: rs => by rw [List.cons_append, body, body_snoc r rs, body, List.append_assoc]
theorem body_take {rs : List Rw} {k : Nat} (h : k < rs.length) : body (rs.take (k + 1)) = rowB rs[k] ++ body (rs.take k) := by
  rw [List.take_succ_eq_append_getElem h, body_snoc]
/-- What rows, and their slots, take. -/
def used (rs : List Rw) : Nat := rs.length + (body rs).length
theorem used_take {rs : List Rw} {k : Nat} (h : k < rs.length) : used (rs.take (k + 1)) = used (rs.take k) + rsz rs[k] := by
  unfold used rsz
  rw [body_take h, List.length_append, List.length_take, List.length_take]
  omega
theorem used_cons (r : Rw) (rs : List Rw) : used (r :: rs) = rsz r + used rs := by
  unfold used rsz
  rw [body, List.length_append, List.length_cons]
  omega
theorem used_le (rs : List Rw) (k : Nat) : used (rs.take k) ≤ used rs := by
  induction rs generalizing k with
  | nil => simp
  | cons r rs ih =>
    cases k with
    | zero => simp [used, body]
    | succ k => rw [List.take_succ_cons, used_cons, used_cons]; have := ih k; omega
theorem fitF_all : ∀ (rs : List Rw) (left : Nat), fitF rs left = rs.length ↔ (used rs ≤ left ∧ ∀ r ∈ rs, r.1.size ≤ 30 ∧ r.2.length ≤ 150)
  | [], left => by simp [fitF, used, body]
  | r :: rs, left => by
    have ih := fitF_all rs (left - rsz r)
    have hp : 1 ≤ rsz r := by unfold rsz; omega
    unfold fitF
    rw [used_cons]
    simp only [List.length_cons, List.mem_cons, forall_eq_or_imp]
    split
    · constructor
      · intro h; omega
      · intro h; omega
    · split
      · constructor
        · intro h; omega
        · intro h; omega
      · constructor
        · intro h
          have := ih.1 (by omega)
          exact ⟨by omega, ⟨by omega, by omega⟩, this.2⟩
        · intro h
          have := ih.2 ⟨by omega, h.2.2⟩
          omega
theorem fitN_all (rs : List Rw) : fitN rs = rs.length ↔ (used rs ≤ 250 ∧ ∀ r ∈ rs, r.1.size ≤ 30 ∧ r.2.length ≤ 150) := fitF_all rs 250
/-- As the walk comes by. -/
theorem fit_go {rs : List Rw} {k : Nat} (h : k < rs.length) (hu : used (rs.take k) ≤ 250) :
    fitF (rs.drop k) (250 - used (rs.take k)) = if 30 < rs[k].1.size ∨ 150 < rs[k].2.length then 0 else if 250 < used (rs.take (k + 1)) then 0 else 1 + fitF (rs.drop (k + 1)) (250 - used (rs.take (k + 1))) := by
  rw [List.drop_eq_getElem_cons h, fitF, used_take h]
  split
  · rfl
  · split
    · rw [if_pos (by omega)]
    · rw [if_neg (by omega)]
      congr 2
      omega

def slot (rs : List Rw) : UInt8 := UInt8.ofNat (252 - (body rs).length)
/-- The slots of rows. -/
def slots (rs : List Rw) : List UInt8 := (List.range rs.length).map fun j => slot (rs.take (j + 1))
theorem slots_length (rs : List Rw) : (slots rs).length = rs.length := by simp [slots]
theorem slots_take {rs : List Rw} {k : Nat} (h : k < rs.length) : slots (rs.take (k + 1)) = slots (rs.take k) ++ [slot (rs.take (k + 1))] := by
  unfold slots
  rw [List.length_take, List.length_take, Nat.min_eq_left (by omega), Nat.min_eq_left (by omega), List.range_succ, List.map_append]
  congr 1
  · apply List.map_congr_left
    intro j hj
    have hj := List.mem_range.1 hj
    rw [List.take_take, List.take_take, Nat.min_eq_left (by omega), Nat.min_eq_left (by omega)]
  · simp [List.take_take]
/-- 252 bytes: a level, how many, slots, noughts, what stands at the end. -/
def pageA (lev n : UInt8) (ss bd : List UInt8) : List UInt8 := lev :: n :: (ss ++ (List.replicate (250 - ss.length - bd.length) 0 ++ bd))
theorem pageA_length {lev n : UInt8} {ss bd : List UInt8} (h : ss.length + bd.length ≤ 250) : (pageA lev n ss bd).length = 252 := by
  simp [pageA]; omega
theorem pageA_nil (lev n : UInt8) : pageA lev n [] [] = lev :: n :: List.replicate 250 0 := by
  unfold pageA
  simp only [List.length_nil, Nat.sub_zero, List.append_nil, List.nil_append]
theorem pageA_zeros {lev n : UInt8} {ss bd : List UInt8} {m : Nat} (h : ss.length + m + bd.length ≤ 250) : pageA lev n ss (List.replicate m 0 ++ bd) = pageA lev n ss bd := by
  unfold pageA
  congr 3
  rw [← List.append_assoc, List.replicate_append_replicate]
  congr 2
  simp
  omega
/-- A slot more. -/
theorem pageA_slot {lev n : UInt8} {ss bd : List UInt8} (s : UInt8) (h : ss.length + bd.length < 250) : (pageA lev n ss bd).set (2 + ss.length) s = pageA lev n (ss ++ [s]) bd := by
  unfold pageA
  rw [show 2 + ss.length = ss.length + 1 + 1 from by omega, List.set_cons_succ, List.set_cons_succ, List.set_append_right _ _ (Nat.le_refl _), Nat.sub_self]
  congr 2
  obtain ⟨z, hz⟩ : ∃ z, 250 - ss.length - bd.length = z + 1 := ⟨250 - ss.length - bd.length - 1, by omega⟩
  rw [hz, List.replicate_succ, List.cons_append, List.set_cons_zero, List.length_append, show 250 - (ss.length + [s].length) - bd.length = z from by simp; omega]
  simp
/-- A byte within what stands at the end. -/
theorem pageA_set {lev n : UInt8} {ss bd : List UInt8} {q : Nat} (c : UInt8) (hq : q < bd.length) (h : ss.length + bd.length ≤ 250) : (pageA lev n ss bd).set (252 - bd.length + q) c = pageA lev n ss (bd.set q c) := by
  unfold pageA
  rw [List.length_set]
  rw [show 252 - bd.length + q = (250 - bd.length + q) + 1 + 1 from by omega, List.set_cons_succ, List.set_cons_succ, List.set_append_right _ _ (by omega), List.set_append_right _ _ (by simp; omega)]
  congr 5
  simp
  omega
theorem row_set {row bd : List UInt8} {q : Nat} (h : q < row.length) : (row.take q ++ (List.replicate (row.length - q) 0 ++ bd)).set q row[q] = row.take (q + 1) ++ (List.replicate (row.length - (q + 1)) 0 ++ bd) := by
  have hl : (row.take q).length = q := by rw [List.length_take]; omega
  rw [List.set_append_right _ _ (by omega), hl, Nat.sub_self, show row.length - q = (row.length - (q + 1)) + 1 from by omega, List.replicate_succ, List.cons_append, List.set_cons_zero, List.take_succ_eq_append_getElem h, List.append_assoc]
  rfl
/-- Bytes laid over noughts ahead of what stands at the end. -/
theorem pageA_lay {lev n : UInt8} {ss bd row : List UInt8} (h : ss.length + row.length + bd.length ≤ 250) :
    (pageA lev n ss bd).take (252 - bd.length - row.length) ++ (row ++ (pageA lev n ss bd).drop (252 - bd.length - row.length + row.length)) = pageA lev n ss (row ++ bd) := by
  unfold pageA
  rw [show 252 - bd.length - row.length + row.length = (250 - bd.length) + 1 + 1 from by omega, show 252 - bd.length - row.length = (250 - bd.length - row.length) + 1 + 1 from by omega]
  rw [List.take_succ_cons, List.take_succ_cons, List.drop_succ_cons, List.drop_succ_cons]
  have hz : (List.replicate (250 - ss.length - bd.length) (0 : UInt8)).length = 250 - ss.length - bd.length := by simp
  rw [List.take_append, List.drop_append, List.take_of_length_le (by omega), List.drop_eq_nil_of_le (as := ss) (by omega), List.take_append, List.drop_append, hz,
    List.take_replicate, Nat.min_eq_left (by omega), List.drop_eq_nil_of_le (as := List.replicate _ _) (by omega), show 250 - bd.length - row.length - ss.length - (250 - ss.length - bd.length) = 0 from by omega,
    show 250 - bd.length - ss.length - (250 - ss.length - bd.length) = 0 from by omega, List.take_zero, List.drop_zero, List.length_append,
    show 250 - bd.length - row.length - ss.length = 250 - ss.length - (row.length + bd.length) from by omega]
  simp only [List.append_nil, List.nil_append, List.cons_append, List.append_assoc]

/-- The 252 bytes of a page. -/
def pageB (lev : Nat) (rs : List Rw) : List UInt8 := pageA (UInt8.ofNat lev) (UInt8.ofNat rs.length) (slots rs) (body rs)
end Go.Pg

/-
  Plain mathematics of pages: the way back, by slots, told twice. No program.
-/
namespace Go.Pg
open Go.Rst Go.Crc
set_option linter.unusedSectionVars false

theorem body_split (m : Nat) (rs : List Rw) : body rs = body (rs.drop m) ++ body (rs.take m) := by
  induction m generalizing rs with
  | zero => simp [body]
  | succ m ih =>
    cases rs with
    | nil => simp [body]
    | cons r rs => rw [List.drop_succ_cons, List.take_succ_cons, body, body, ih rs, List.append_assoc]
theorem body_len (m : Nat) (rs : List Rw) : (body (rs.take m)).length ≤ (body rs).length := by
  rw [body_split m rs, List.length_append]; omega
theorem pageA_drop {lev n : UInt8} {ss x bd : List UInt8} (h : ss.length + (x.length + bd.length) ≤ 250) : (pageA lev n ss (x ++ bd)).drop (252 - bd.length) = bd := by
  have hl : (pageA lev n ss (x ++ bd)).length = 252 := pageA_length (by rw [List.length_append]; exact h)
  have e : pageA lev n ss (x ++ bd) = (lev :: n :: (ss ++ (List.replicate (250 - ss.length - (x ++ bd).length) 0 ++ x))) ++ bd := by
    unfold pageA
    simp only [List.cons_append, List.append_assoc]
  have h1 := congrArg List.length e
  rw [hl, List.length_append] at h1
  rw [e, show 252 - bd.length = (lev :: n :: (ss ++ (List.replicate (250 - ss.length - (x ++ bd).length) 0 ++ x))).length from by omega, List.drop_left]
theorem pageB_length {lev : Nat} {rs : List Rw} (h : used rs ≤ 250) : (pageB lev rs).length = 252 := pageA_length (by rw [slots_length]; exact h)
theorem pageB_drop {lev : Nat} {rs : List Rw} (h : used rs ≤ 250) (m : Nat) : (pageB lev rs).drop (252 - (body (rs.take m)).length) = body (rs.take m) := by
  unfold pageB
  rw [body_split m rs]
  apply pageA_drop
  have h1 := body_split m rs
  have h2 := congrArg List.length h1
  rw [List.length_append] at h2
  unfold used at h
  rw [slots_length]
  omega
theorem slot_val {rs : List Rw} (_h : used rs ≤ 250) (m : Nat) : (slot (rs.take m)).toNat = 252 - (body (rs.take m)).length := by
  unfold slot
  rw [UInt8.toNat_ofNat']
  omega
theorem getD_append {l m : List UInt8} {i : Nat} (h : i < l.length) : (l ++ m).getD i 0 = l.getD i 0 := by
  rw [List.getD_eq_getElem?_getD, List.getD_eq_getElem?_getD, List.getElem?_append_left h]
theorem pageB_slot {lev : Nat} {rs : List Rw} {i : Nat} (hi : i < rs.length) : (pageB lev rs).getD (2 + i) 0 = slot (rs.take (i + 1)) := by
  unfold pageB pageA
  rw [show 2 + i = i + 1 + 1 from by omega, List.getD_cons_succ, List.getD_cons_succ, getD_append (by rw [slots_length]; exact hi), List.getD_eq_getElem?_getD]
  unfold slots
  simp [hi]

/-- The row at a place. -/
def slotRow (b : List UInt8) (s : Nat) : Option Rw :=
  if (getText b s 30).2.2 ≠ 0 then none else
  if (getText b (getText b s 30).2.1 150).2.2 ≠ 0 then none else some (⟨(getText b s 30).1.toArray⟩, (getText b (getText b s 30).2.1 150).1)
def slotsF (b : List UInt8) : Nat → Nat → List Rw → Option (List Rw)
  | 0, _, acc => some acc
  | f + 1, i, acc => match slotRow b (b.getD (2 + i) 0).toNat with
    | none => none
    | some r => slotsF b f (i + 1) (acc ++ [r])
def slotted (b : List UInt8) : Option (List Rw) := if 250 < (b.getD 1 0).toNat then none else slotsF b (b.getD 1 0).toNat 0 []
/-- The row that ends at a place, and where it begins. -/
def refRow (b : List UInt8) (i e : Nat) : Option (Rw × Nat) :=
  if e ≤ 2 + i then none else if e ≤ (b.getD (2 + i) 0).toNat then none else
  if (getText (b.take e) (b.getD (2 + i) 0).toNat 30).2.2 ≠ 0 then none else
  if (getText (b.take e) (getText (b.take e) (b.getD (2 + i) 0).toNat 30).2.1 150).2.2 = 0 ∧ (getText (b.take e) (getText (b.take e) (b.getD (2 + i) 0).toNat 30).2.1 150).2.1 = e
  then some ((⟨(getText (b.take e) (b.getD (2 + i) 0).toNat 30).1.toArray⟩, (getText (b.take e) (getText (b.take e) (b.getD (2 + i) 0).toNat 30).2.1 150).1), (b.getD (2 + i) 0).toNat) else none
def refG (b : List UInt8) : Nat → Nat → Nat → List Rw → Option (List Rw)
  | 0, _, _, acc => some acc
  | f + 1, i, e, acc => match refRow b i e with
    | none => none
    | some (r, s) => refG b f (i + 1) s (acc ++ [r])
def refRows (b : List UInt8) : Option (List Rw) := refG b (b.getD 1 0).toNat 0 252 []

/-- Is there a page of these rows? -/
def pageOk (lev : Int) (rs : List Rw) : Bool := decide (0 ≤ lev ∧ lev ≤ 4 ∧ fitN rs = rs.length)
def encL (lev : Int) (rs : List Rw) : List UInt8 := if pageOk lev rs then sealL (pageB lev.toNat rs) else []
def decR (b : List UInt8) : Nat × List Rw × Nat :=
  if b.length ≠ 256 then (0, [], 11) else if rightL b = false then (0, [], 12) else match slotted b with
  | none => (0, [], 11)
  | some l => if pageOk ((b.getD 0 0).toNat : Int) l = true ∧ encL ((b.getD 0 0).toNat : Int) l = b then ((b.getD 0 0).toNat, l, 0) else (0, [], 11)
def refDec (b : List UInt8) : Nat × List Rw × Nat :=
  if b.length ≠ 256 then (0, [], 11) else if rightL b = false then (0, [], 12) else match refRows b with
  | none => (0, [], 11)
  | some l => if pageOk ((b.getD 0 0).toNat : Int) l = true ∧ encL ((b.getD 0 0).toNat : Int) l = b then ((b.getD 0 0).toNat, l, 0) else (0, [], 11)

section
variable {lev : Nat} {rs : List Rw} (hu : used rs ≤ 250) (hr : ∀ r ∈ rs, r.1.size ≤ 30 ∧ r.2.length ≤ 150)
include hu hr
theorem row_at {i : Nat} (hi : i < rs.length) {L post : List UInt8} {q : Nat} (h : L.drop q = rowB rs[i] ++ post) :
    (getText L (q : Int) 30) = (rs[i].1.data.toList, ((q + (textL rs[i].1.data.toList).length : Nat) : Int), 0) ∧
    (getText L ((q + (textL rs[i].1.data.toList).length : Nat) : Int) 150) = (rs[i].2, ((q + (rowB rs[i]).length : Nat) : Int), 0) := by
  have h1 := hr rs[i] (List.getElem_mem hi)
  have hs : rs[i].1.data.toList.length = rs[i].1.size := by rw [Array.length_toList]; rfl
  have h2 : L.drop q = textL rs[i].1.data.toList ++ (textL rs[i].2 ++ post) := by rw [h]; unfold rowB rowL; rw [List.append_assoc]
  have e1 := getText_back h2 (by omega) 30
  rw [if_neg (by omega)] at e1
  have h3 : L.drop (q + (textL rs[i].1.data.toList).length) = textL rs[i].2 ++ post := by rw [← List.drop_drop, h2, List.drop_left]
  have e2 := getText_back h3 (by omega) 150
  rw [if_neg (by omega)] at e2
  refine ⟨e1, ?_⟩
  rw [e2]
  unfold rowB rowL
  rw [List.length_append, Nat.add_assoc]
theorem page_row (i : Nat) (hi : i < rs.length) : slotRow (sealL (pageB lev rs)) (slot (rs.take (i + 1))).toNat = some rs[i] := by
  have hd := pageB_drop (lev := lev) hu (i + 1)
  have hl := pageB_length (lev := lev) hu
  rw [slot_val hu]
  have hb := body_len (i + 1) rs
  have hd2 : (sealL (pageB lev rs)).drop (252 - (body (rs.take (i + 1))).length) = rowB rs[i] ++ (body (rs.take i) ++ tailL (csum (pageB lev rs))) := by
    unfold sealL
    rw [List.drop_append_of_le_length (by rw [hl]; omega), hd, body_take hi, List.append_assoc]
  obtain ⟨e1, e2⟩ := row_at hu hr hi hd2
  unfold slotRow
  rw [e1]
  simp only [ne_eq, not_true_eq_false, if_false]
  rw [e2]
  simp
theorem page_refRow (i : Nat) (hi : i < rs.length) : refRow (sealL (pageB lev rs)) i (252 - (body (rs.take i)).length) = some (rs[i], 252 - (body (rs.take (i + 1))).length) := by
  have hd := pageB_drop (lev := lev) hu (i + 1)
  have hl := pageB_length (lev := lev) hu
  have hb := body_len (i + 1) rs
  have hbt := congrArg List.length (body_take hi)
  rw [List.length_append] at hbt
  have hp := rowB_pos rs[i]
  have hu2 : rs.length + (body rs).length ≤ 250 := hu
  have hs : ((sealL (pageB lev rs)).getD (2 + i) 0).toNat = 252 - (body (rs.take (i + 1))).length := by
    unfold sealL
    rw [getD_append (by rw [hl]; omega), pageB_slot hi, slot_val hu]
  have hd2 : ((sealL (pageB lev rs)).take (252 - (body (rs.take i)).length)).drop (252 - (body (rs.take (i + 1))).length) = rowB rs[i] ++ [] := by
    unfold sealL
    rw [List.take_append_of_le_length (by rw [hl]; omega), List.drop_take, hd, body_take hi, List.append_nil]
    rw [show 252 - (body (rs.take i)).length - (252 - (rowB rs[i] ++ body (rs.take i)).length) = (rowB rs[i]).length from by rw [List.length_append]; omega, List.take_left]
  obtain ⟨e1, e2⟩ := row_at hu hr hi hd2
  unfold refRow
  rw [hs, if_neg (by omega), if_neg (by omega), e1]
  simp only [ne_eq, not_true_eq_false, if_false]
  rw [e2]
  simp only [true_and]
  rw [if_pos (by omega)]
theorem page_slots : ∀ (f i : Nat) (acc : List Rw), f + i = rs.length → acc = rs.take i → slotsF (sealL (pageB lev rs)) f i acc = some rs
  | 0, i, acc, h, ha => by
    rw [slotsF, ha, List.take_of_length_le (by omega)]
  | f + 1, i, acc, h, ha => by
    have hi : i < rs.length := by omega
    have hl := pageB_length (lev := lev) hu
    have hu2 : rs.length + (body rs).length ≤ 250 := hu
    have hs : (sealL (pageB lev rs)).getD (2 + i) 0 = slot (rs.take (i + 1)) := by
      unfold sealL
      rw [getD_append (by rw [hl]; omega), pageB_slot hi]
    rw [slotsF, hs, page_row hu hr i hi]
    exact page_slots f (i + 1) _ (by omega) (by rw [ha, List.take_succ_eq_append_getElem hi])
theorem page_refs : ∀ (f i : Nat) (acc : List Rw), f + i = rs.length → acc = rs.take i → refG (sealL (pageB lev rs)) f i (252 - (body (rs.take i)).length) acc = some rs
  | 0, i, acc, h, ha => by
    rw [refG, ha, List.take_of_length_le (by omega)]
  | f + 1, i, acc, h, ha => by
    have hi : i < rs.length := by omega
    rw [refG, page_refRow hu hr i hi]
    exact page_refs f (i + 1) _ (by omega) (by rw [ha, List.take_succ_eq_append_getElem hi])
theorem page_count : ((sealL (pageB lev rs)).getD 1 0).toNat = rs.length := by
  have hu2 : rs.length + (body rs).length ≤ 250 := hu
  unfold sealL pageB pageA
  simp only [List.cons_append, List.getD_cons_succ, List.getD_cons_zero, UInt8.toNat_ofNat']
  omega
end
theorem page_level (lev : Nat) (h : lev ≤ 4) (rs : List Rw) : ((sealL (pageB lev rs)).getD 0 0).toNat = lev := by
  unfold sealL pageB pageA
  simp only [List.cons_append, List.getD_cons_zero, UInt8.toNat_ofNat']
  omega
theorem slotted_back {lev : Nat} {rs : List Rw} (hf : fitN rs = rs.length) : slotted (sealL (pageB lev rs)) = some rs := by
  obtain ⟨hu, hr⟩ := (fitN_all rs).1 hf
  have hu2 : rs.length + (body rs).length ≤ 250 := hu
  unfold slotted
  rw [page_count hu hr, if_neg (by omega)]
  exact page_slots hu hr _ 0 [] (by omega) rfl
theorem refRows_back {lev : Nat} {rs : List Rw} (hf : fitN rs = rs.length) : refRows (sealL (pageB lev rs)) = some rs := by
  obtain ⟨hu, hr⟩ := (fitN_all rs).1 hf
  unfold refRows
  rw [page_count hu hr]
  have := page_refs (lev := lev) hu hr rs.length 0 [] (by omega) rfl
  simpa [body] using this
theorem encL_length {lev : Int} {rs : List Rw} (h : pageOk lev rs = true) : (encL lev rs).length = 256 := by
  unfold encL
  rw [if_pos h]
  unfold pageOk at h
  simp only [decide_eq_true_eq] at h
  have := pageB_length (lev := lev.toNat) ((fitN_all rs).1 h.2.2).1
  unfold sealL tailL
  rw [List.length_append, this]
  rfl
theorem right_seal (l : List UInt8) : rightL (sealL l) = true := rightL_seal l
/-- There and back. -/
theorem dec_enc {lev : Int} {rs : List Rw} (h : pageOk lev rs = true) : decR (encL lev rs) = (lev.toNat, rs, 0) := by
  have hl := encL_length h
  have he : encL lev rs = sealL (pageB lev.toNat rs) := by unfold encL; rw [if_pos h]
  have h' := h
  unfold pageOk at h'
  simp only [decide_eq_true_eq] at h'
  have hlev := page_level lev.toNat (by omega) rs
  have hb := slotted_back (lev := lev.toNat) h'.2.2
  have hi : ((lev.toNat : Nat) : Int) = lev := by omega
  rw [← he] at hlev hb
  unfold decR
  rw [if_neg (by simp [hl]), hb, hlev, he, right_seal]
  simp only [Bool.true_eq_false, if_false]
  rw [hi, if_pos ⟨h, by rw [he]⟩]
theorem dec_same (b : List UInt8) : decR b = refDec b := by
  unfold decR refDec
  by_cases h1 : b.length ≠ 256
  · rw [if_pos h1, if_pos h1]
  · rw [if_neg h1, if_neg h1]
    by_cases h2 : rightL b = false
    · rw [if_pos h2, if_pos h2]
    · rw [if_neg h2, if_neg h2]
      have key : ∀ l, (pageOk ((b.getD 0 0).toNat : Int) l = true ∧ encL ((b.getD 0 0).toNat : Int) l = b) → slotted b = some l ∧ refRows b = some l := by
        intro l ⟨h, he⟩
        have h' := h
        unfold pageOk at h'
        simp only [decide_eq_true_eq] at h'
        have he' : sealL (pageB (b.getD 0 0).toNat l) = b := by
          have e := he
          unfold encL at e
          rw [if_pos h, Int.toNat_natCast] at e
          exact e
        have a1 := slotted_back (lev := (b.getD 0 0).toNat) h'.2.2
        have a2 := refRows_back (lev := (b.getD 0 0).toNat) h'.2.2
        rw [he'] at a1 a2
        exact ⟨a1, a2⟩
      cases hs : slotted b with
      | none =>
        cases hr : refRows b with
        | none => rfl
        | some l =>
          simp only []
          by_cases hk : pageOk ((b.getD 0 0).toNat : Int) l = true ∧ encL ((b.getD 0 0).toNat : Int) l = b
          · have := (key l hk).1; rw [hs] at this; cases this
          · rw [if_neg hk]
      | some l =>
        simp only []
        by_cases hk : pageOk ((b.getD 0 0).toNat : Int) l = true ∧ encL ((b.getD 0 0).toNat : Int) l = b
        · have := (key l hk).2
          rw [if_pos hk, this]
          simp only []
          rw [if_pos hk]
        · rw [if_neg hk]
          cases hr : refRows b with
          | none => rfl
          | some m =>
            simp only []
            by_cases hm : pageOk ((b.getD 0 0).toNat : Int) m = true ∧ encL ((b.getD 0 0).toNat : Int) m = b
            · have := (key m hm).1
              rw [hs] at this
              injection this with this
              subst this
              exact (hk hm).elim
            · rw [if_neg hm]
end Go.Pg

/-
  Plain mathematics: the place of a key among rows. No program.
-/
namespace Go.Pg
/-- Not above. -/
def sle (a b : ByteArray) : Bool := Op.bytesLess a.toList b.toList || a.toList == b.toList
def findC : List Rw → ByteArray → Nat
  | [], _ => 0
  | r :: rs, key => if sle r.1 key then 1 + findC rs key else 0
def findL (rs : List Rw) (key : ByteArray) : Int := (findC rs key : Int) - 1
theorem find_go {rs : List Rw} {k : Nat} {key : ByteArray} (h : k < rs.length) : findC (rs.drop k) key = if sle rs[k].1 key then 1 + findC (rs.drop (k + 1)) key else 0 := by
  rw [List.drop_eq_getElem_cons h, findC]
theorem sle_cases (a b : ByteArray) : (sle a b = true ∧ Op.bytesLess a.toList b.toList = true) ∨ (sle a b = true ∧ Op.bytesLess a.toList b.toList = false ∧ (a.toList == b.toList) = true) ∨ (sle a b = false ∧ Op.bytesLess a.toList b.toList = false ∧ (a.toList == b.toList) = false) := by
  unfold sle
  cases h1 : Op.bytesLess a.toList b.toList
  · cases h2 : a.toList == b.toList
    · exact .inr (.inr ⟨rfl, rfl, rfl⟩)
    · exact .inr (.inl ⟨rfl, rfl, rfl⟩)
  · exact .inl ⟨rfl, rfl⟩
end Go.Pg

/-
  Plain mathematics of trees: rows in pages, level by level. No program.
-/
namespace Go.Pg
open Go.Rst Go.Crc
def risingA : ByteArray → List Rw → Bool
  | _, [] => true
  | k, r :: rs => !(sle r.1 k) && risingA r.1 rs
def risingL : List Rw → Bool
  | [] => true
  | r :: rs => risingA r.1 rs
/-- Rows, as many as fit each time. -/
def chunkF : Nat → List (List Rw) → List Rw → Option (List (List Rw))
  | 0, cs, _ => some cs
  | f + 1, cs, l => if l = [] ∧ cs ≠ [] then some cs else if fitN l = 0 ∧ l ≠ [] then none else chunkF f (cs ++ [l.take (fitN l)]) (l.drop (fitN l))
def chunks (l : List Rw) : Option (List (List Rw)) := chunkF (l.length + 1) [] l
def headKey (c : List Rw) : ByteArray := match c with
  | [] => ⟨#[]⟩
  | r :: _ => r.1
def aboveF (from_ : Nat) (cs : List (List Rw)) : List Rw := cs.zipIdx.map fun x => (headKey x.1, numL (from_ + x.2))
theorem above_snoc (from_ : Nat) (cs : List (List Rw)) (c : List Rw) : aboveF from_ (cs ++ [c]) = aboveF from_ cs ++ [(headKey c, numL (from_ + cs.length))] := by
  unfold aboveF
  rw [List.zipIdx_append, List.map_append]
  simp
theorem above_len (from_ : Nat) (cs : List (List Rw)) : (aboveF from_ cs).length = cs.length := by simp [aboveF]
def pagesF (n : Int) (cs : List (List Rw)) : List (List UInt8) := cs.map (encL n)
theorem pages_snoc (n : Int) (cs : List (List Rw)) (c : List Rw) : pagesF n (cs ++ [c]) = pagesF n cs ++ [encL n c] := by simp [pagesF]
theorem pages_len (n : Int) (cs : List (List Rw)) : (pagesF n cs).length = cs.length := by simp [pagesF]
/-- A level: its pages, and the rows above them. -/
def levelL (n : Int) (from_ : Nat) (l : List Rw) : Option (List (List UInt8) × List Rw) := (chunks l).map fun cs => (pagesF n cs, aboveF from_ cs)
/-- The levels of a tree, from one on. -/
def buildF : Nat → Nat → List (List UInt8) → List Rw → Option (List (List UInt8))
  | 0, _, _, _ => none
  | f + 1, n, all, l => match levelL n all.length l with
    | none => none
    | some (p, a) => if p.length = 1 then some (all ++ p) else buildF f (n + 1) (all ++ p) a
def buildL (l : List Rw) : Option (List (List UInt8)) := if risingL l = false ∨ 5000 < l.length then none else buildF 5 0 [] l
end Go.Pg

/-
  Plain mathematics: the order of bytes; rising rows. No program.
-/
namespace Go.Pg
open Go.Rst Go.Crc
theorem bl_irrefl : ∀ a : List UInt8, Op.bytesLess a a = false
  | [] => by simp [Op.bytesLess]
  | x :: a => by simp [Op.bytesLess, bl_irrefl a]
theorem bl_trans : ∀ a b c : List UInt8, Op.bytesLess a b = true → Op.bytesLess b c = true → Op.bytesLess a c = true
  | _, [], _, h, _ => by simp [Op.bytesLess] at h
  | _, _ :: _, [], _, h => by simp [Op.bytesLess] at h
  | [], _ :: _, _ :: _, _, _ => by simp [Op.bytesLess]
  | x :: a, y :: b, z :: c, h1, h2 => by
    simp only [Op.bytesLess, Bool.or_eq_true, decide_eq_true_eq, Bool.and_eq_true, beq_iff_eq] at h1 h2 ⊢
    rcases h1 with h1 | ⟨rfl, h1⟩
    · rcases h2 with h2 | ⟨rfl, h2⟩
      · exact .inl (UInt8.lt_trans h1 h2)
      · exact .inl h1
    · rcases h2 with h2 | ⟨rfl, h2⟩
      · exact .inl h2
      · exact .inr ⟨rfl, bl_trans a b c h1 h2⟩
theorem bl_total : ∀ a b : List UInt8, Op.bytesLess a b = false → a ≠ b → Op.bytesLess b a = true
  | [], [], _, h => (h rfl).elim
  | _ :: _, [], _, _ => by simp [Op.bytesLess]
  | [], _ :: _, h, _ => by simp [Op.bytesLess] at h
  | x :: a, y :: b, h, hn => by
    simp only [Op.bytesLess, Bool.or_eq_false_iff, decide_eq_false_iff_not, Bool.and_eq_false_iff, beq_eq_false_iff_ne] at h
    simp only [Op.bytesLess, Bool.or_eq_true, decide_eq_true_eq, Bool.and_eq_true, beq_iff_eq]
    obtain ⟨h1, h2⟩ := h
    by_cases he : x = y
    · subst he
      rcases h2 with h2 | h2
      · exact (h2 rfl).elim
      · exact .inr ⟨rfl, bl_total a b h2 (fun e => hn (by rw [e]))⟩
    · left
      rcases Nat.lt_trichotomy x.toNat y.toNat with h3 | h3 | h3
      · exact (h1 (by simpa [UInt8.lt_iff_toNat_lt] using h3)).elim
      · exact (he (UInt8.toNat_inj.1 h3)).elim
      · simpa [UInt8.lt_iff_toNat_lt] using h3
def kl (r : Rw) : List UInt8 := r.1.toList
/-- One key below another. -/
def lt (a b : Rw) : Prop := Op.bytesLess (kl a) (kl b) = true
def Sorted (l : List Rw) : Prop := l.Pairwise lt
theorem sle_false {a b : ByteArray} (h : sle a b = false) : Op.bytesLess b.toList a.toList = true := by
  unfold sle at h
  simp only [Bool.or_eq_false_iff] at h
  exact bl_total _ _ h.1 (fun e => by rw [e] at h; simp at h)
theorem sle_of_lt {a b : ByteArray} (h : Op.bytesLess a.toList b.toList = true) : sle a b = true := by unfold sle; rw [h]; rfl
theorem sle_not {a b : ByteArray} (h : Op.bytesLess b.toList a.toList = true) : sle a b = false := by
  unfold sle
  have h1 : Op.bytesLess a.toList b.toList = false := by
    cases h2 : Op.bytesLess a.toList b.toList
    · rfl
    · have := bl_trans _ _ _ h h2
      rw [bl_irrefl] at this
      cases this
  rw [h1]
  have h3 : (a.toList == b.toList) = false := by
    rw [beq_eq_false_iff_ne]
    intro e
    rw [e, bl_irrefl] at h
    cases h
  rw [h3]
  rfl
theorem sle_trans {a b c : ByteArray} (h1 : Op.bytesLess a.toList b.toList = true) (h2 : sle b c = true) : sle a c = true := by
  unfold sle at h2
  simp only [Bool.or_eq_true, beq_iff_eq] at h2
  rcases h2 with h2 | h2
  · exact sle_of_lt (bl_trans _ _ _ h1 h2)
  · unfold sle
    rw [← h2, h1]
    rfl
theorem sorted_risingA : ∀ (l : List Rw) (k : Rw), risingA k.1 l = true ↔ Sorted (k :: l)
  | [], k => by simp [risingA, Sorted]
  | r :: rs, k => by
    have ih := sorted_risingA rs r
    unfold risingA
    rw [Bool.and_eq_true, ih]
    have e : Sorted (k :: r :: rs) ↔ (∀ x ∈ r :: rs, lt k x) ∧ Sorted (r :: rs) := List.pairwise_cons
    rw [e]
    constructor
    · rintro ⟨h1, h2⟩
      refine ⟨fun x hx => ?_, h2⟩
      have h3 : lt k r := sle_false (by simpa using h1)
      rcases List.mem_cons.1 hx with rfl | hx
      · exact h3
      · exact bl_trans _ _ _ h3 ((List.pairwise_cons.1 h2).1 x hx)
    · rintro ⟨h1, h2⟩
      refine ⟨?_, h2⟩
      have := sle_not (h1 r (List.mem_cons_self))
      rw [this]
      rfl
theorem sorted_rising (l : List Rw) : risingL l = true ↔ Sorted l := by
  cases l with
  | nil => simp [risingL, Sorted]
  | cons r rs => exact sorted_risingA rs r
theorem Sorted.at {l : List Rw} (h : Sorted l) {i j : Nat} (hij : i < j) (hj : j < l.length) : lt (l[i]'(by omega)) l[j] := List.pairwise_iff_getElem.1 h i j (by omega) hj hij
end Go.Pg

/-
  Plain mathematics: rows laid among others, each key once. No program.
-/
namespace Go.Pg
open Go.Rst Go.Crc
/-- A row laid among others, as the statements do it. -/
def layF (r : Rw) : List Rw → Bool → List Rw
  | [], laid => if laid then [] else [r]
  | x :: xs, laid => if (x.1.toList == r.1.toList) = true then layF r xs laid else
    if laid = false ∧ sle x.1 r.1 = false then r :: x :: layF r xs true else x :: layF r xs laid
theorem layF_len (r : Rw) : ∀ (l : List Rw) (laid : Bool), (layF r l laid).length ≤ l.length + 1
  | [], laid => by unfold layF; split <;> simp
  | x :: xs, laid => by
    unfold layF
    have h1 := layF_len r xs laid
    have h2 : (layF r xs true).length ≤ xs.length := by
      have : ∀ (l : List Rw), (layF r l true).length ≤ l.length := by
        intro l
        induction l with
        | nil => simp [layF]
        | cons y ys ih =>
          unfold layF
          split
          · simp only [List.length_cons]; omega
          · simp only [Bool.true_eq_false, false_and, if_false, List.length_cons]; omega
      exact this xs
    split
    · simp only [List.length_cons]; omega
    · split
      · simp only [List.length_cons]; omega
      · simp only [List.length_cons]; omega
theorem layF_mem {r y : Rw} : ∀ {l : List Rw} {laid : Bool}, y ∈ layF r l laid → y = r ∨ y ∈ l
  | [], laid, h => by
    unfold layF at h
    split at h
    · cases h
    · left; simpa using h
  | x :: xs, laid, h => by
    unfold layF at h
    split at h
    · rcases layF_mem h with h | h
      · exact .inl h
      · exact .inr (List.mem_cons_of_mem _ h)
    · split at h
      · rcases List.mem_cons.1 h with h | h
        · exact .inl h
        · rcases List.mem_cons.1 h with h | h
          · exact .inr (by rw [h]; exact List.mem_cons_self)
          · rcases layF_mem h with h | h
            · exact .inl h
            · exact .inr (List.mem_cons_of_mem _ h)
      · rcases List.mem_cons.1 h with h | h
        · exact .inr (by rw [h]; exact List.mem_cons_self)
        · rcases layF_mem h with h | h
          · exact .inl h
          · exact .inr (List.mem_cons_of_mem _ h)
theorem layF_true {r y : Rw} : ∀ {l : List Rw}, y ∈ layF r l true → y ∈ l
  | [], h => by simp [layF] at h
  | x :: xs, h => by
    unfold layF at h
    split at h
    · exact List.mem_cons_of_mem _ (layF_true h)
    · simp only [Bool.true_eq_false, false_and, if_false] at h
      rcases List.mem_cons.1 h with h | h
      · rw [h]; exact List.mem_cons_self
      · exact List.mem_cons_of_mem _ (layF_true h)
theorem sorted_cons {x : Rw} {l : List Rw} : Sorted (x :: l) ↔ (∀ y ∈ l, lt x y) ∧ Sorted l := List.pairwise_cons
theorem layF_sorted_true {r : Rw} : ∀ {l : List Rw}, Sorted l → Sorted (layF r l true)
  | [], _ => by simp [layF, Sorted]
  | x :: xs, h => by
    obtain ⟨h1, h2⟩ := sorted_cons.1 h
    unfold layF
    split
    · exact layF_sorted_true h2
    · simp only [Bool.true_eq_false, false_and, if_false]
      exact sorted_cons.2 ⟨fun y hy => h1 y (layF_true hy), layF_sorted_true h2⟩
theorem layF_sorted {r : Rw} : ∀ {l : List Rw}, Sorted l → Sorted (layF r l false)
  | [], _ => by simp [layF, Sorted]
  | x :: xs, h => by
    obtain ⟨h1, h2⟩ := sorted_cons.1 h
    unfold layF
    split
    · exact layF_sorted h2
    · rename_i hne
      split
      · rename_i hlt
        have hrx : lt r x := sle_false hlt.2
        refine sorted_cons.2 ⟨fun y hy => ?_, sorted_cons.2 ⟨fun y hy => h1 y (layF_true hy), layF_sorted_true h2⟩⟩
        rcases List.mem_cons.1 hy with rfl | hy
        · exact hrx
        · exact bl_trans _ _ _ hrx (h1 y (layF_true hy))
      · rename_i hle
        refine sorted_cons.2 ⟨fun y hy => ?_, layF_sorted h2⟩
        rcases layF_mem hy with rfl | hy
        · have hs : sle x.1 y.1 = true := by
            cases hh : sle x.1 y.1
            · exact (hle ⟨rfl, hh⟩).elim
            · rfl
          unfold sle at hs
          rw [Bool.or_eq_true] at hs
          rcases hs with hs | hs
          · exact hs
          · exact (hne hs).elim
        · exact h1 y hy
def risL (l : List Rw) : List Rw := l.foldl (fun o r => layF r o false) []
theorem risL_all {p : Rw → Prop} : ∀ (l o : List Rw), (∀ r ∈ l, p r) → (∀ r ∈ o, p r) → Sorted o →
    (∀ r ∈ l.foldl (fun o r => layF r o false) o, p r) ∧ Sorted (l.foldl (fun o r => layF r o false) o) ∧ (l.foldl (fun o r => layF r o false) o).length ≤ o.length + l.length
  | [], o, _, h, hs => ⟨h, hs, Nat.le_refl _⟩
  | r :: rs, o, hl, h, hs => by
    rw [List.foldl_cons]
    obtain ⟨h1, h2, h3⟩ := risL_all rs (layF r o false) (fun x hx => hl x (List.mem_cons_of_mem _ hx)) (fun x hx => by
      rcases layF_mem hx with rfl | hx
      · exact hl _ (List.mem_cons_self)
      · exact h x hx) (layF_sorted hs)
    refine ⟨h1, h2, ?_⟩
    have := layF_len r o false
    simp only [List.length_cons]
    omega
theorem risL_good {p : Rw → Prop} {l : List Rw} (h : ∀ r ∈ l, p r) : (∀ r ∈ risL l, p r) ∧ Sorted (risL l) ∧ (risL l).length ≤ l.length := by
  have := risL_all (p := p) l [] h (fun _ h => by cases h) List.Pairwise.nil
  simpa [risL] using this
end Go.Pg
