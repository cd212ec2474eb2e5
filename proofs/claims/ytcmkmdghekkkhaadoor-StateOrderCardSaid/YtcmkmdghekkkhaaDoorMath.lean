/-
  Plain facts on the bytes of numbers and texts: what was put is read back, what is cut short is not, and neither is a longer way to tell a number.
-/
import Derived.Test.YtcmkmdghekkkhaaDoorBase
namespace Go.Rst

theorem drop_cons {L rest : List UInt8} {q : Nat} {c : UInt8} (h : L.drop q = c :: rest) : q < L.length ∧ L.getD q 0 = c ∧ L.drop (q + 1) = rest := by
  have hl : q < L.length := by
    rcases Nat.lt_or_ge q L.length with h' | h'
    · exact h'
    · rw [List.drop_eq_nil_of_le h'] at h; cases h
  rw [List.drop_eq_getElem_cons hl] at h
  injection h with h1 h2
  exact ⟨hl, by rw [List.getD_eq_getElem?_getD, List.getElem?_eq_getElem hl, ← h1]; rfl, h2⟩
theorem gnumF_cons {L rest : List UInt8} {q : Nat} {c : UInt8} (h : L.drop q = c :: rest) (f i acc : Nat) :
    gnumF L (f + 1) i acc (q : Int) = if 128 ≤ c.toNat then gnumF L f (i + 1) (acc + c.toNat % 128 * 128 ^ i) ((q + 1 : Nat) : Int)
      else if (c.toNat = 0 ∧ 0 < i) ∨ 9007199254740992 < acc + c.toNat % 128 * 128 ^ i then (0, 0, 11) else (((acc + c.toNat % 128 * 128 ^ i : Nat) : Int), (q : Int) + 1, 0) := by
  obtain ⟨h1, h2, h3⟩ := drop_cons h
  rw [gnumF, if_neg (by omega), Int.toNat_natCast, h2]
  rfl
theorem gnumF_nil {L : List UInt8} {q : Nat} (h : L.drop q = []) (f i acc : Nat) : gnumF L (f + 1) i acc (q : Int) = (0, 0, 10) := by
  have : L.length ≤ q := by simpa using h
  rw [gnumF, if_pos (.inr (by omega))]
theorem byte_val {m : Nat} (h : m < 256) : (UInt8.ofNat m).toNat = m := by rw [UInt8.toNat_ofNat']; exact Nat.mod_eq_of_lt (by omega)

/-- What was put is read. -/
theorem gnumF_back : ∀ (f n i acc q : Nat) (L post : List UInt8), L.drop q = numL n ++ post → (numL n).length ≤ f → acc + n * 128 ^ i ≤ 9007199254740992 → (0 < n ∨ i = 0) →
    gnumF L f i acc (q : Int) = (((acc + n * 128 ^ i : Nat) : Int), ((q + (numL n).length : Nat) : Int), 0)
  | 0, n, i, acc, q, L, post, _, hf, _, _ => by have := numL_pos n; omega
  | f + 1, n, i, acc, q, L, post, h, hf, hm, hz => by
    by_cases hn : n < 128
    · rw [numL_lt hn] at h ⊢
      rw [gnumF_cons h, byte_val (by omega), Nat.mod_eq_of_lt hn, if_neg (by omega), if_neg (by omega)]
      simp
    · rw [numL_ge (by omega)] at h hf ⊢
      have hd := (drop_cons h).2.2
      rw [gnumF_cons h, byte_val (by omega), if_pos (by omega)]
      have e1 : (n % 128 + 128) % 128 = n % 128 := by omega
      have e2 : acc + n % 128 * 128 ^ i + n / 128 * 128 ^ (i + 1) = acc + n * 128 ^ i := by
        have h1 : n / 128 * 128 ^ (i + 1) = 128 * (n / 128) * 128 ^ i := by rw [Nat.pow_succ]; rw [Nat.mul_comm (128 ^ i) 128, ← Nat.mul_assoc, Nat.mul_comm (n / 128) 128]
        rw [h1, Nat.add_assoc, ← Nat.add_mul]
        congr 2
        omega
      rw [e1, gnumF_back f (n / 128) (i + 1) (acc + n % 128 * 128 ^ i) (q + 1) L post hd (by simpa using hf) (by rw [e2]; exact hm) (.inl (by omega)), e2]
      simp
      omega
theorem getNum_back {n q : Nat} {L post : List UInt8} (h : L.drop q = numL n ++ post) (hn : n ≤ 9007199254740992) : getNum L (q : Int) = ((n : Int), ((q + (numL n).length : Nat) : Int), 0) := by
  have := gnumF_back 8 n 0 0 q L post h (numL_len8 hn) (by simpa using hn) (.inr rfl)
  simpa [getNum] using this
/-- Without its last byte a number is none. -/
theorem gnumF_cut : ∀ (f n i acc q : Nat) (L : List UInt8), L.drop q = (numL n).dropLast → (numL n).length ≤ f → gnumF L f i acc (q : Int) = (0, 0, 10)
  | 0, n, i, acc, q, L, _, hf => by have := numL_pos n; omega
  | f + 1, n, i, acc, q, L, h, hf => by
    by_cases hn : n < 128
    · rw [numL_lt hn] at h
      exact gnumF_nil h f i acc
    · rw [numL_ge (by omega)] at h hf
      have hp := numL_pos (n / 128)
      have h' : L.drop q = UInt8.ofNat (n % 128 + 128) :: (numL (n / 128)).dropLast := by
        rw [h, List.dropLast_cons_of_ne_nil (by intro e; rw [e] at hp; simp at hp)]
      rw [gnumF_cons h', byte_val (by omega), if_pos (by omega)]
      exact gnumF_cut f (n / 128) (i + 1) _ (q + 1) L (drop_cons h').2.2 (by simpa using hf)
theorem getNum_cut {n : Nat} (hn : n ≤ 9007199254740992) : getNum (numL n).dropLast 0 = (0, 0, 10) := gnumF_cut 8 n 0 0 0 _ rfl (numL_len8 hn)
/-- A longer way to tell a number: its last byte goes on, and nought behind it. -/
def longer (l : List UInt8) : List UInt8 := l.dropLast ++ [l.getLastD 0 ||| 128, 0]
theorem or128 (c : UInt8) : 128 ≤ (c ||| 128).toNat := by
  have h : ∀ m : Nat, m < 256 → 128 ≤ (UInt8.ofNat m ||| 128).toNat := by decide +kernel
  have := h c.toNat c.toNat_lt
  rwa [UInt8.ofNat_toNat] at this
theorem gnumF_longer : ∀ (f n i acc q : Nat) (L : List UInt8), L.drop q = longer (numL n) → (numL n).length ≤ f → 0 < i + f → gnumF L f i acc (q : Int) = (0, 0, 11)
  | 0, n, i, acc, q, L, _, hf, _ => by have := numL_pos n; omega
  | f + 1, n, i, acc, q, L, h, hf, _ => by
    by_cases hn : n < 128
    · rw [numL_lt hn] at h
      have h1 : L.drop q = (UInt8.ofNat n ||| 128) :: [0] := h
      rw [gnumF_cons h1, if_pos (or128 _)]
      cases f with
      | zero => rfl
      | succ f => rw [gnumF_cons (drop_cons h1).2.2, if_neg (by decide), if_pos (.inl ⟨rfl, by omega⟩)]
    · rw [numL_ge (by omega)] at h hf
      have hp := numL_pos (n / 128)
      have hne : numL (n / 128) ≠ [] := by intro e; rw [e] at hp; simp at hp
      have h' : L.drop q = UInt8.ofNat (n % 128 + 128) :: longer (numL (n / 128)) := by
        rw [h]
        unfold longer
        rw [List.dropLast_cons_of_ne_nil hne]
        obtain ⟨x, xs, hx⟩ := List.exists_cons_of_ne_nil hne
        rw [hx]
        rfl
      rw [gnumF_cons h', byte_val (by omega), if_pos (by omega)]
      exact gnumF_longer f (n / 128) (i + 1) _ (q + 1) L (drop_cons h').2.2 (by simpa using hf) (by omega)
theorem getNum_longer {n : Nat} (hn : n ≤ 9007199254740992) : getNum (longer (numL n)) 0 = (0, 0, 11) := gnumF_longer 8 n 0 0 0 _ rfl (numL_len8 hn) (by omega)

def textL (s : List UInt8) : List UInt8 := numL s.length ++ s
/-- A text is read back. -/
theorem getText_back {s L post : List UInt8} {q : Nat} (h : L.drop q = textL s ++ post) (hs : s.length ≤ 1000000000) (most : Int) :
    getText L (q : Int) most = if most < (s.length : Int) then ([], 0, 3) else (s, ((q + (textL s).length : Nat) : Int), 0) := by
  have h0 : L.drop q = numL s.length ++ (s ++ post) := by rw [h, textL, List.append_assoc]
  have hg := getNum_back h0 (by omega)
  have hlen : L.length - q = (numL s.length).length + (s.length + post.length) := by
    have := congrArg List.length h0
    simpa using this
  have hpos := numL_pos s.length
  unfold getText
  rw [hg]
  simp only [ne_eq, not_true_eq_false, if_false]
  by_cases hm : most < (s.length : Int)
  · rw [if_pos hm, if_pos hm]
  · rw [if_neg hm, if_neg hm, if_neg (by omega)]
    have e : L.drop (q + (numL s.length).length) = s ++ post := by
      rw [← List.drop_drop, h0, List.drop_left]
    rw [Int.toNat_natCast, Int.toNat_natCast, e, List.take_left, textL, List.length_append]
    simp
    omega
theorem getText_cut {s : List UInt8} (hs : s.length ≤ 200) : (getText (textL s).dropLast 0 1000).2.2 = 10 := by
  by_cases h0 : s = []
  · subst h0
    have e : (textL []).dropLast = (numL 0).dropLast := by rw [textL, List.append_nil]; rfl
    unfold getText
    rw [e, getNum_cut (by omega)]
    simp
  · have e : (textL s).dropLast = numL s.length ++ s.dropLast := by
      rw [textL, List.dropLast_append_of_ne_nil h0]
    have hg : getNum (numL s.length ++ s.dropLast) 0 = _ := getNum_back (q := 0) (n := s.length) (L := numL s.length ++ s.dropLast) (post := s.dropLast) rfl (by omega)
    have hpos : 0 < s.length := List.length_pos_iff.2 h0
    unfold getText
    rw [e, hg]
    simp only [ne_eq, not_true_eq_false, if_false, List.length_append, List.length_dropLast]
    rw [if_neg (by omega), if_pos (by omega)]
/-- A row's bytes. -/
def rowL (k l : List UInt8) : List UInt8 := textL k ++ textL l
theorem textL_len {l : List UInt8} (h : l.length ≤ 1000000000) : (textL l).length ≤ 1000000008 := by
  have := numL_len8 (n := l.length) (by omega)
  unfold textL
  rw [List.length_append]
  omega
theorem getText_spec (l : List UInt8) (p most : Int) : ((getText l p most).2.2 = 0 ∧ 0 ≤ (getText l p most).2.1 ∧ (getText l p most).2.1 ≤ l.length ∧ p < (getText l p most).2.1 ∧ 0 ≤ p ∧ ((getText l p most).1.length : Int) ≤ most ∧ (getText l p most).1.length ≤ l.length) ∨
    (((getText l p most).2.2 = 3 ∨ (getText l p most).2.2 = 10 ∨ (getText l p most).2.2 = 11) ∧ (getText l p most).1 = [] ∧ (getText l p most).2.1 = 0) := by
  have h := getNum_spec l p
  unfold getText
  split
  · rename_i hne
    rcases h with h | h
    · exact absurd h.1 hne
    · exact .inr ⟨by simp only []; omega, rfl, rfl⟩
  · rename_i hz
    rcases h with h | h
    · split
      · exact .inr ⟨.inl rfl, rfl, rfl⟩
      · split
        · exact .inr ⟨.inr (.inl rfl), rfl, rfl⟩
        · refine .inl ⟨rfl, by simp only []; omega, by simp only []; omega, by simp only []; omega, by omega, ?_, ?_⟩
          · simp only [List.length_take, List.length_drop]; omega
          · simp only [List.length_take, List.length_drop]; omega
    · exfalso; omega
end Go.Rst
