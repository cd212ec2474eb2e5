/-
  The contracts of sha.right, bits.RotateLeft32 and the reference's turn: they turn a word right, for every word, by 1 to 31 bits; and of sha.word: the four bytes that some bytes begin with, the greatest first.
-/
import Derived.Test.YtbfemhhmijlmlaaDoorBase
import Derived.Test.YtbfemhhmijlmlaaDoorMath
import Derived.Test.YtbfemhhmijlmlaaDoorProg
import Derived.Deep.QuietTactic
import Derived.BigQuiet
namespace Go.Proofs.YtbfemhhmijlmlaaDoor
open Go.RowKit Go.Rst Go.Sha

theorem neg31 : ∀ n < 32, 0 < n → bits .and .u64 (IntKind.u64.wrap (-((n : Nat) : Int))) 31 = 32 - (n : Int) := by decide +kernel
theorem rotr_go (x : UInt32) (n : Nat) :
    bits .or .u32 ((x.toNat : Int) * 2 ^ (32 - n) % 4294967296) ((x.toNat : Int) / 2 ^ n) = ((rotr x n).toNat : Int) ∧
    bits .or .u32 ((x.toNat : Int) / 2 ^ n) ((x.toNat : Int) * 2 ^ (32 - n) % 4294967296) = ((rotr x n).toNat : Int) := by
  have h1 : x.toNat / 2 ^ n < 4294967296 := Nat.lt_of_le_of_lt (Nat.div_le_self _ _) (w_lt x)
  have h2 : x.toNat * 2 ^ (32 - n) % 4294967296 < 4294967296 := Nat.mod_lt _ (by decide)
  have e1 : (x.toNat : Int) / 2 ^ n = ((x.toNat / 2 ^ n : Nat) : Int) := by simp
  have e2 : (x.toNat : Int) * 2 ^ (32 - n) % 4294967296 = ((x.toNat * 2 ^ (32 - n) % 4294967296 : Nat) : Int) := by simp
  have h3 : x.toNat / 2 ^ n ||| x.toNat * 2 ^ (32 - n) % 4294967296 < 4294967296 := Nat.or_lt_two_pow (n := 32) h1 h2
  rw [e1, e2, u32_or_nat _ _ h2 h1, u32_or_nat _ _ h1 h2, Nat.or_comm (x.toNat * 2 ^ (32 - n) % 4294967296)]
  unfold rotr
  rw [of32 _ h3]
  exact ⟨rfl, rfl⟩

set_option maxRecDepth 100000 in
set_option maxHeartbeats 400000 in
theorem rotl_any (x : UInt32) (n : Nat) (h0 : 0 < n) (h : n < 32) (w : World) :
    Calls Tryd.prog 24 #[.int .u32 (x.toNat : Int), .int .i64 (-(n : Int))] w fun e w' => e = .returned (.int .u32 ((rotr x n).toNat : Int)) ∧ w = w' := by
  have hx := w_lt x
  have hn := neg31 n h h0
  have hr := (rotr_go x n).1
  have h4 : (32 : Int) - (32 - (n : Int)) = n := by omega
  have H := Lib.hid hr
  clear hr
  go_enter Tryd.func24, Tryd.ntmps24
  go_wp2
  go_ret
  rw [← H.out]
  exact ⟨rfl, rfl⟩

set_option maxRecDepth 100000 in
set_option maxHeartbeats 400000 in
theorem turn_any (x : UInt32) (n : Nat) (h0 : 0 < n) (h : n < 32) (w : World) :
    Calls Tryd.prog 21 #[.int .u32 (x.toNat : Int), .int .i64 (n : Int)] w fun e w' => e = .returned (.int .u32 ((rotr x n).toNat : Int)) ∧ w = w' := by
  have hx := w_lt x
  have H := Lib.hid (rotr_go x n).2
  go_enter Tryd.func21, Tryd.ntmps21
  go_wp2
  go_ret
  rw [← H.out]
  exact ⟨rfl, rfl⟩

set_option maxRecDepth 100000 in
set_option maxHeartbeats 400000 in
theorem right_any (x : UInt32) (n : Nat) (h0 : 0 < n) (h : n < 32) (w : World) :
    Calls Tryd.prog 22 #[.int .u32 (x.toNat : Int), .int .i64 (n : Int)] w fun e w' => e = .returned (.int .u32 ((rotr x n).toNat : Int)) ∧ w = w' := by
  go_enter Tryd.func22, Tryd.ntmps22
  go_wp2_with fail
  refine (rotl_any x n h0 h w).mono ?_
  rintro e w' ⟨rfl, rfl⟩
  go_wp2
  go_ret
  exact ⟨rfl, rfl⟩

theorem or_up (x y i : Nat) (h : y < 2 ^ i) : x * 2 ^ i ||| y = x * 2 ^ i + y := by
  have := Nat.shiftLeft_add_eq_or_of_lt (b := y) (i := i) h x
  rw [Nat.shiftLeft_eq] at this
  exact this.symm
theorem wg1 (a b : Nat) : a * 16777216 + b * 65536 = (a * 256 + b) * 65536 := by omega
theorem wg2 (x c : Nat) : x * 65536 + c * 256 = (x * 256 + c) * 256 := by omega
theorem wg3 (a b c d : Nat) : ((a * 256 + b) * 256 + c) * 256 + d = a * 16777216 + b * 65536 + c * 256 + d := by omega
theorem wq1 (a : Nat) (h : a < 256) : a * 16777216 < 4294967296 := by omega
theorem wq2 (a : Nat) (h : a < 256) : a * 65536 < 16777216 := by omega
theorem wq3 (a : Nat) (h : a < 256) : a * 256 < 65536 := by omega
theorem wq4 (a b : Nat) (h : a < 256) (h2 : b < 256) : (a * 256 + b) * 65536 < 4294967296 := by omega
theorem wq5 (a b c : Nat) (h : a < 256) (h2 : b < 256) (h3 : c < 256) : ((a * 256 + b) * 256 + c) * 256 < 4294967296 := by omega
theorem wq6 (a b c d : Nat) (h : a < 256) (h2 : b < 256) (h3 : c < 256) (h4 : d < 256) : a * 16777216 + b * 65536 + c * 256 + d < 4294967296 := by omega
theorem we1 (a : Nat) (h : a < 256) : (a : Int) % 4294967296 * 16777216 % 4294967296 = ((a * 16777216 : Nat) : Int) := by omega
theorem we2 (a : Nat) (h : a < 256) : (a : Int) % 4294967296 * 65536 % 4294967296 = ((a * 65536 : Nat) : Int) := by omega
theorem we3 (a : Nat) (h : a < 256) : (a : Int) % 4294967296 * 256 % 4294967296 = ((a * 256 : Nat) : Int) := by omega
theorem we4 (a : Nat) (h : a < 256) : (a : Int) % 4294967296 = ((a : Nat) : Int) := by omega
theorem wo1 (a b : Nat) (h : b < 256) : a * 16777216 ||| b * 65536 = a * 16777216 + b * 65536 := or_up a (b * 65536) 24 (wq2 b h)
theorem wo2 (x c : Nat) (h : c < 256) : x * 65536 ||| c * 256 = x * 65536 + c * 256 := or_up x (c * 256) 16 (wq3 c h)
theorem wo3 (x d : Nat) (h : d < 256) : x * 256 ||| d = x * 256 + d := or_up x d 8 h
theorem word_nat (a b c d : Nat) (ha : a < 256) (hb : b < 256) (hc : c < 256) (hd : d < 256) :
    bits .or .u32 (bits .or .u32 (bits .or .u32 ((a : Int) % 4294967296 * 16777216 % 4294967296) ((b : Int) % 4294967296 * 65536 % 4294967296)) ((c : Int) % 4294967296 * 256 % 4294967296)) ((d : Int) % 4294967296)
      = ((UInt32.ofNat (a * 16777216 + b * 65536 + c * 256 + d)).toNat : Int) := by
  rw [we1 a ha, we2 b hb, we3 c hc, we4 d hd, u32_or_nat _ _ (wq1 a ha) (Nat.lt_trans (wq2 b hb) (by decide)), wo1 a b hb, wg1,
    u32_or_nat _ _ (wq4 a b ha hb) (Nat.lt_trans (wq3 c hc) (by decide)), wo2 _ c hc, wg2, u32_or_nat _ _ (wq5 a b c ha hb hc) (Nat.lt_trans hd (by decide)), wo3 _ d hd, wg3, of32 _ (wq6 a b c d ha hb hc hd)]
theorem word_go (a b c d : UInt8) :
    bits .or .u32 (bits .or .u32 (bits .or .u32 ((a.toNat : Int) % 4294967296 * 16777216 % 4294967296) ((b.toNat : Int) % 4294967296 * 65536 % 4294967296)) ((c.toNat : Int) % 4294967296 * 256 % 4294967296)) ((d.toNat : Int) % 4294967296)
      = ((UInt32.ofNat (a.toNat * 16777216 + b.toNat * 65536 + c.toNat * 256 + d.toNat)).toNat : Int) := word_nat _ _ _ _ a.toNat_lt b.toNat_lt c.toNat_lt d.toNat_lt
theorem bel_drewN (w : World) (n : Nat) : Below w.heap.size w (w.drewN n) := ⟨rfl, rfl, rfl, Nat.le_refl _, fun _ _ => rfl⟩

set_option maxRecDepth 100000 in
set_option maxHeartbeats 400000 in
theorem word_any (v : Value) (l : List UInt8) (w : World) (hv : RB w v l) (hl : 4 ≤ l.length) :
    Calls Tryd.prog 23 #[v] w fun e w' => e = .returned (.int .u32 ((wordAt l 0).toNat : Int)) ∧ Below w.heap.size w w' := by
  obtain ⟨A, c, rfl, h1, h2, h3⟩ := hv
  obtain ⟨b, off, rfl, hbh, hc⟩ : ∃ b off, A = some ⟨b, off, none⟩ ∧ b < w.heap.size ∧ ∀ j (h : j < l.length), w.cell? ⟨b, off + j, none⟩ = some (bv l[j]) := by
    rcases h3 with h3 | ⟨b, off, h4, h5, h6⟩
    · rw [h3] at hl; simp at hl
    · exact ⟨b, off, h4, h5, h6⟩
  have c0 := hc 0 (by omega)
  have c1 := hc 1 (by omega)
  have c2 := hc 2 (by omega)
  have c3 := hc 3 (by omega)
  rw [Nat.add_zero] at c0
  unfold bv at c0 c1 c2 c3
  have i0 : (0 : Int) < (l.length : Int) := by omega
  have i1 : (1 : Int) < (l.length : Int) := by omega
  have i2 : (2 : Int) < (l.length : Int) := by omega
  have i3 : (3 : Int) < (l.length : Int) := by omega
  clear hc h3
  go_enter Tryd.func23, Tryd.ntmps23
  go_wp2
  go_quiet (fail)
  go_wp2
  go_ret
  refine ⟨?_, bel_drewN _ _⟩
  have hw := word_go l[0] l[1] l[2] l[3]
  have e : wordAt l 0 = UInt32.ofNat (l[0].toNat * 16777216 + l[1].toNat * 65536 + l[2].toNat * 256 + l[3].toNat) := by
    unfold wordAt
    simp [List.getElem?_eq_getElem (show 0 < l.length from by omega), List.getElem?_eq_getElem (show 1 < l.length from by omega), List.getElem?_eq_getElem (show 2 < l.length from by omega), List.getElem?_eq_getElem (show 3 < l.length from by omega)]
  rw [e, ← hw]
  rfl
end Go.Proofs.YtbfemhhmijlmlaaDoor
