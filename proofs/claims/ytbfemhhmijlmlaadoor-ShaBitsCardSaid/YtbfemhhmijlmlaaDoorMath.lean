/-
  SHA-256 on words of 32 bits and on bytes, as chapter 3 tells it, and the few facts on it that the program's way and the document's way need. No program.
-/
import Derived.Laws.BitsAllLaws
import Derived.Laws.BitsLemmas
namespace Go.Sha

/-- A word turned right. -/
def rotr (x : UInt32) (n : Nat) : UInt32 := UInt32.ofNat (x.toNat / 2 ^ n ||| (x.toNat * 2 ^ (32 - n)) % 4294967296)
def shr (x : UInt32) (n : Nat) : UInt32 := UInt32.ofNat (x.toNat / 2 ^ n)
def bigE (e : UInt32) : UInt32 := rotr e 6 ^^^ rotr e 11 ^^^ rotr e 25
def bigA (a : UInt32) : UInt32 := rotr a 2 ^^^ rotr a 13 ^^^ rotr a 22
def lowX (x : UInt32) : UInt32 := rotr x 7 ^^^ rotr x 18 ^^^ shr x 3
def highY (y : UInt32) : UInt32 := rotr y 17 ^^^ rotr y 19 ^^^ shr y 10
def choice (e f g : UInt32) : UInt32 := (e &&& f) ^^^ (~~~e &&& g)
def most (a b c : UInt32) : UInt32 := (a &&& b) ^^^ (a &&& c) ^^^ (b &&& c)

def kts : List UInt32 := [
  0x428a2f98, 0x71374491, 0xb5c0fbcf, 0xe9b5dba5, 0x3956c25b, 0x59f111f1, 0x923f82a4, 0xab1c5ed5,
  0xd807aa98, 0x12835b01, 0x243185be, 0x550c7dc3, 0x72be5d74, 0x80deb1fe, 0x9bdc06a7, 0xc19bf174,
  0xe49b69c1, 0xefbe4786, 0x0fc19dc6, 0x240ca1cc, 0x2de92c6f, 0x4a7484aa, 0x5cb0a9dc, 0x76f988da,
  0x983e5152, 0xa831c66d, 0xb00327c8, 0xbf597fc7, 0xc6e00bf3, 0xd5a79147, 0x06ca6351, 0x14292967,
  0x27b70a85, 0x2e1b2138, 0x4d2c6dfc, 0x53380d13, 0x650a7354, 0x766a0abb, 0x81c2c92e, 0x92722c85,
  0xa2bfe8a1, 0xa81a664b, 0xc24b8b70, 0xc76c51a3, 0xd192e819, 0xd6990624, 0xf40e3585, 0x106aa070,
  0x19a4c116, 0x1e376c08, 0x2748774c, 0x34b0bcb5, 0x391c0cb3, 0x4ed8aa4a, 0x5b9cca4f, 0x682e6ff3,
  0x748f82ee, 0x78a5636f, 0x84c87814, 0x8cc70208, 0x90befffa, 0xa4506ceb, 0xbef9a3f7, 0xc67178f2]
def hbs : List UInt32 := [0x6a09e667, 0xbb67ae85, 0x3c6ef372, 0xa54ff53a, 0x510e527f, 0x9b05688c, 0x1f83d9ab, 0x5be0cd19]
/-- Of a table, the i-th; 0 outside it. -/
def tab (l : List UInt32) (i : Int) : UInt32 := if i < 0 then 0 else l.getD i.toNat 0

/-- The eight words. -/
structure S8 where
  a : UInt32
  b : UInt32
  c : UInt32
  d : UInt32
  e : UInt32
  f : UInt32
  g : UInt32
  h : UInt32
def S8.list (s : S8) : List UInt32 := [s.a, s.b, s.c, s.d, s.e, s.f, s.g, s.h]
def S8.start : S8 := ⟨0x6a09e667, 0xbb67ae85, 0x3c6ef372, 0xa54ff53a, 0x510e527f, 0x9b05688c, 0x1f83d9ab, 0x5be0cd19⟩
def S8.add (s t : S8) : S8 := ⟨s.a + t.a, s.b + t.b, s.c + t.c, s.d + t.d, s.e + t.e, s.f + t.f, s.g + t.g, s.h + t.h⟩
def uOf (s : S8) (k w : UInt32) : UInt32 := s.h + bigE s.e + choice s.e s.f s.g + k + w
def vOf (s : S8) : UInt32 := bigA s.a + most s.a s.b s.c
def step (s : S8) (k w : UInt32) : S8 := ⟨uOf s k w + vOf s, s.a, s.b, s.c, s.d + uOf s k w, s.e, s.f, s.g⟩
/-- The eight words behind t rounds. -/
def rounds (w : List UInt32) : Nat → S8 → S8
  | 0, s => s
  | t + 1, s => step (rounds w t s) (kts.getD t 0) (w.getD t 0)
def mix (s : S8) (w : List UInt32) : S8 := s.add (rounds w 64 s)

/-- The word that stands at a place of some bytes. -/
def wordAt (l : List UInt8) (i : Nat) : UInt32 :=
  UInt32.ofNat ((l.getD i 0).toNat * 16777216 + (l.getD (i + 1) 0).toNat * 65536 + (l.getD (i + 2) 0).toNat * 256 + (l.getD (i + 3) 0).toNat)
def nextW (w : List UInt32) (t : Nat) : UInt32 := w.getD (t - 16) 0 + w.getD (t - 7) 0 + lowX (w.getD (t - 15) 0) + highY (w.getD (t - 2) 0)
/-- The first t words of a block. -/
def wl (l : List UInt8) : Nat → List UInt32
  | 0 => []
  | t + 1 => wl l t ++ [if t < 16 then wordAt l (t * 4) else nextW (wl l t) t]
theorem wl_length (l : List UInt8) : ∀ t, (wl l t).length = t
  | 0 => rfl
  | t + 1 => by simp [wl, wl_length l t]
theorem wl_low {l : List UInt8} {t : Nat} (h : t < 16) : wl l (t + 1) = wl l t ++ [wordAt l (t * 4)] := by simp [wl, h]
theorem wl_high {l : List UInt8} {t : Nat} (h : 16 ≤ t) : wl l (t + 1) = wl l t ++ [nextW (wl l t) t] := by simp [wl, show ¬ t < 16 from by omega]
theorem wordAt_drop (l : List UInt8) (i j : Nat) : wordAt (l.drop i) j = wordAt l (i + j) := by
  simp [wordAt, Nat.add_assoc]

/-- What k blocks make of the eight words. -/
def blocks (l : List UInt8) : Nat → S8 → S8
  | 0, s => s
  | k + 1, s => mix (blocks l k s) (wl ((l.drop (k * 64)).take 64) 64)
theorem blocks_cat (a b : List UInt8) (i : Nat) (ha : a.length = i * 64) (s : S8) : ∀ j, blocks (a ++ b) (i + j) s = blocks b j (blocks a i s)
  | 0 => by
    show blocks (a ++ b) i s = blocks a i s
    have : ∀ k, k ≤ i → blocks (a ++ b) k s = blocks a k s := by
      intro k
      induction k with
      | zero => intro _; rfl
      | succ k ih =>
        intro hk
        have h1 := ih (by omega)
        show mix _ (wl (((a ++ b).drop (k * 64)).take 64) 64) = mix _ (wl ((a.drop (k * 64)).take 64) 64)
        rw [h1, List.drop_append_of_le_length (by omega), List.take_append_of_le_length (by rw [List.length_drop]; omega)]
    exact this i (Nat.le_refl _)
  | j + 1 => by
    show mix (blocks (a ++ b) (i + j) s) (wl (((a ++ b).drop ((i + j) * 64)).take 64) 64) = mix (blocks b j (blocks a i s)) (wl ((b.drop (j * 64)).take 64) 64)
    rw [blocks_cat a b i ha s j]
    have e : (i + j) * 64 = a.length + j * 64 := by omega
    rw [e, List.drop_append, List.drop_eq_nil_of_le (show a.length ≤ a.length + j * 64 by omega)]
    simp

/-- The eight bytes of a number, the greatest first. -/
def be64 (n : Nat) : List UInt8 := [UInt8.ofNat (n / 2 ^ 56), UInt8.ofNat (n / 2 ^ 48), UInt8.ofNat (n / 2 ^ 40), UInt8.ofNat (n / 2 ^ 32), UInt8.ofNat (n / 2 ^ 24), UInt8.ofNat (n / 2 ^ 16), UInt8.ofNat (n / 2 ^ 8), UInt8.ofNat n]
theorem be64_length (n : Nat) : (be64 n).length = 8 := rfl
/-- How many noughts stand behind the byte that ends n bytes. -/
def noughts (n : Nat) : Nat := (119 - n % 64) % 64
/-- The end of some bytes, of which there are n in all. -/
def ending (l : List UInt8) (n : Nat) : List UInt8 := l ++ (128 :: (List.replicate (noughts l.length) 0 ++ be64 (n * 8)))
def padded (l : List UInt8) : List UInt8 := ending l l.length
theorem ending_length (l : List UInt8) (n : Nat) : (ending l n).length = l.length + noughts l.length + 9 := by
  simp [ending, be64_length]; omega
theorem noughts_add (n k : Nat) : noughts (k * 64 + n) = noughts n := by unfold noughts; omega
theorem ending_whole (l : List UInt8) (n : Nat) : (ending l n).length = (ending l n).length / 64 * 64 := by
  rw [ending_length]; unfold noughts; omega
theorem padded_cut (l : List UInt8) (k : Nat) (h : k * 64 ≤ l.length) : padded l = l.take (k * 64) ++ ending (l.drop (k * 64)) l.length := by
  unfold padded ending
  have e : l.length = k * 64 + (l.drop (k * 64)).length := by rw [List.length_drop]; omega
  have e2 : noughts l.length = noughts (l.drop (k * 64)).length := by rw [e, noughts_add]
  rw [e2, ← List.append_assoc, List.take_append_drop]

/-- The bytes of the eight words, in order. -/
def digestAt (s : S8) (i : Nat) : UInt8 := UInt8.ofNat ((s.list.getD (i / 4) 0).toNat / 2 ^ (24 - i % 4 * 8))
def digest (s : S8) : List UInt8 := (List.range 32).map (digestAt s)
theorem digest_length (s : S8) : (digest s).length = 32 := by simp [digest]
/-- SHA-256. -/
def sum (l : List UInt8) : List UInt8 := digest (blocks (padded l) ((padded l).length / 64) S8.start)
theorem sum_length (l : List UInt8) : (sum l).length = 32 := digest_length _
theorem sum_cut (l : List UInt8) (k : Nat) (h : k * 64 ≤ l.length) :
    sum l = digest (blocks (ending (l.drop (k * 64)) l.length) ((ending (l.drop (k * 64)) l.length).length / 64) (blocks (l.take (k * 64)) k S8.start)) := by
  unfold sum
  have ht : (l.take (k * 64)).length = k * 64 := by rw [List.length_take]; omega
  rw [← blocks_cat (l.take (k * 64)) (ending (l.drop (k * 64)) l.length) k ht]
  rw [← padded_cut l k h]
  congr 2
  rw [padded_cut l k h, List.length_append, ht]
  omega

/-! The words of 32 bits as Go reckons them. -/
theorem w_lt (x : UInt32) : x.toNat < 4294967296 := x.toNat_lt
theorem of32 (n : Nat) (h : n < 4294967296) : (UInt32.ofNat n).toNat = n := by
  rw [UInt32.toNat_ofNat']; exact Nat.mod_eq_of_lt h
theorem g_xor (x y : UInt32) : bits .xor .u32 (x.toNat : Int) (y.toNat : Int) = ((x ^^^ y).toNat : Int) := by
  rw [u32_xor_nat _ _ (w_lt x) (w_lt y), UInt32.toNat_xor]
theorem g_and (x y : UInt32) : bits .and .u32 (x.toNat : Int) (y.toNat : Int) = ((x &&& y).toNat : Int) := by
  rw [u32_and_nat _ _ (w_lt x) (w_lt y), UInt32.toNat_and]
theorem g_or (x y : UInt32) : bits .or .u32 (x.toNat : Int) (y.toNat : Int) = ((x ||| y).toNat : Int) := by
  rw [u32_or_nat _ _ (w_lt x) (w_lt y), UInt32.toNat_or]
theorem g_add (x y : UInt32) : ((x.toNat : Int) + (y.toNat : Int)) % 4294967296 = ((x + y).toNat : Int) := by
  rw [UInt32.toNat_add]; omega
theorem g_addw (x y : UInt32) : IntKind.u32.wrap ((x.toNat : Int) + (y.toNat : Int)) = ((x + y).toNat : Int) := by
  rw [IntKind.wrap_u32, g_add]
theorem k_abc : sum [97, 98, 99] = [0xba, 0x78, 0x16, 0xbf, 0x8f, 0x01, 0xcf, 0xea, 0x41, 0x41, 0x40, 0xde, 0x5d, 0xae, 0x22, 0x23, 0xb0, 0x03, 0x61, 0xa3, 0x96, 0x17, 0x7a, 0x9c, 0xb4, 0x10, 0xff, 0x61, 0xf2, 0x00, 0x15, 0xad] := by decide +kernel
end Go.Sha
