/-
  Plain mathematics: the bytes of rows are read as these rows. No program.
-/
import Derived.Test.YtomkbgghljcbfaaRows1
import Derived.Test.YtomkbgghljcbfaaGTk
import Derived.Test.YtomkbgghljcbfaaGTake
set_option linter.unusedVariables false

namespace Go.Proofs.Ytomkbgghljcbfaa
open Go.RowKit Go.Rst

theorem ba_eq (k : ByteArray) : (⟨k.data.toList.toArray⟩ : ByteArray) = k := by cases k; simp
theorem getRow_back {l post k v : List UInt8} {q : Nat} (h : l.drop q = textL k ++ (textL v ++ post)) (hk : k.length ≤ 30) (hv : v.length ≤ 150) :
    getRow l (q : Int) = (k, v, ((q + (textL k).length + (textL v).length : Nat) : Int), 0) := by
  have h1 := getText_back h (by omega) 30
  have h2 : l.drop (q + (textL k).length) = textL v ++ post := by rw [← List.drop_drop, h, List.drop_left]
  have h3 := getText_back h2 (by omega) 150
  rw [if_neg (by omega)] at h1 h3
  unfold getRow
  rw [h1]
  simp only [ne_eq, not_true_eq_false, if_false]
  rw [h3]
  simp
/-- Short rows. -/
def Short (rs : List (ByteArray × List UInt8)) : Prop := ∀ r ∈ rs, r.1.data.toList.length ≤ 30 ∧ r.2.length ≤ 150
theorem rowsF_back (l : List UInt8) : ∀ (rs : List (ByteArray × List UInt8)) (q : Nat) (acc : List (ByteArray × List UInt8)), l.drop q = rowsB rs → Short rs → rowsF l rs.length (q : Int) acc = (acc ++ rs, 0)
  | [], q, acc, h, _ => by
    have h0 : l.length ≤ q := by simpa [rowsB] using h
    rw [List.length_nil, rowsF, if_neg (by omega), List.append_nil]
  | r :: rs, q, acc, h, hs => by
    have e : rowsB (r :: rs) = textL r.1.data.toList ++ (textL r.2 ++ rowsB rs) := by simp [rowsB, rowL, List.append_assoc]
    rw [e] at h
    have hr := hs r (by simp)
    have hg := getRow_back h hr.1 hr.2
    rw [List.length_cons, rowsF, hg]
    simp only [ne_eq, not_true_eq_false, if_false]
    have h2 : l.drop (q + (textL r.1.data.toList).length + (textL r.2).length) = rowsB rs := by rw [← List.drop_drop, ← List.drop_drop, h, List.drop_left, List.drop_left]
    rw [rowsF_back l rs _ _ h2 (fun x hx => hs x (by simp [hx])), ba_eq]
    simp
theorem readRows_back (rs : List (ByteArray × List UInt8)) (hn : rs.length ≤ 5000) (hs : Short rs) : readRows (rowsL rs) = (rs, 0) := by
  have hg : getNum (rowsL rs) 0 = _ := getNum_back (q := 0) (n := rs.length) (L := rowsL rs) (post := rowsB rs) rfl (by omega)
  unfold readRows
  rw [hg]
  simp only [ne_eq, not_true_eq_false, if_false]
  rw [if_neg (by omega), Int.toNat_natCast, rowsF_back _ rs _ _ (by rw [Nat.zero_add]; unfold rowsL; rw [List.drop_left]) hs, List.nil_append]
end Go.Proofs.Ytomkbgghljcbfaa

/-
  Plain mathematics: bytes that are read as rows, or as changes, are the bytes of these. No program.
-/
namespace Go.Proofs.Ytomkbgghljcbfaa
open Go.RowKit Go.Rst

theorem drop_at {l : List UInt8} {p : Nat} (h : p < l.length) : l.drop p = l.getD p 0 :: l.drop (p + 1) := by
  rw [List.drop_eq_getElem_cons h]
  simp [List.getElem?_eq_getElem h]
theorem ofNat_toNat' (c : UInt8) : UInt8.ofNat c.toNat = c := by simp
theorem gnumF_fwd (l : List UInt8) : ∀ (f i acc : Nat) (q : Int), (gnumF l f i acc q).2.2 = 0 →
    ∃ p b n : Nat, q = p ∧ gnumF l f i acc q = (((acc + n * 128 ^ i : Nat) : Int), (b : Int), 0) ∧ l.drop p = numL n ++ l.drop b ∧ (0 < n ∨ i = 0)
  | 0, _, _, _, h => by simp [gnumF] at h
  | f + 1, i, acc, q, h => by
    unfold gnumF at h ⊢
    split at h
    · simp at h
    · rename_i h0
      rw [if_neg h0]
      obtain ⟨p, rfl⟩ := Int.eq_ofNat_of_zero_le (show 0 ≤ q by omega)
      have hp : p < l.length := by omega
      have hd := drop_at hp
      simp only [Int.toNat_natCast] at h ⊢
      generalize l.getD p 0 = c at *
      have hc := c.toNat_lt
      split at h
      · rename_i h1
        rw [if_pos h1]
        obtain ⟨p', b, n, hp', he, hdr, hn⟩ := gnumF_fwd l f (i + 1) _ _ h
        have ep : p' = p + 1 := by omega
        subst ep
        refine ⟨p, b, c.toNat % 128 + 128 * n, rfl, ?_, ?_, .inl (by omega)⟩
        · rw [he]
          congr 2
          rw [Nat.pow_succ, Nat.add_mul, Nat.add_assoc]
          congr 2
          rw [Nat.mul_comm (128 ^ i) 128, ← Nat.mul_assoc, Nat.mul_comm n 128]
        · rw [hd, hdr, numL_ge (n := c.toNat % 128 + 128 * n) (by omega)]
          have e1 : (c.toNat % 128 + 128 * n) % 128 + 128 = c.toNat := by omega
          have e2 : (c.toNat % 128 + 128 * n) / 128 = n := by omega
          rw [e1, e2, ofNat_toNat']
          rfl
      · rename_i h1
        rw [if_neg h1]
        split at h
        · simp at h
        · rename_i h2
          rw [if_neg h2]
          refine ⟨p, p + 1, c.toNat, rfl, ?_, ?_, by omega⟩
          · rw [Nat.mod_eq_of_lt (by omega)]
            simp
          · rw [hd, numL_lt (by omega), ofNat_toNat']
            rfl
theorem getNum_fwd {l : List UInt8} {q a b : Int} (h : getNum l q = (a, b, 0)) : ∃ p e n : Nat, q = p ∧ a = n ∧ b = e ∧ l.drop p = numL n ++ l.drop e := by
  obtain ⟨p, e, n, h1, h2, h3, _⟩ := gnumF_fwd l 8 0 0 q (by have := congrArg (·.2.2) h; exact this)
  have h4 : getNum l q = (((0 + n * 128 ^ 0 : Nat) : Int), (e : Int), 0) := h2
  rw [h] at h4
  simp at h4
  exact ⟨p, e, n, h1, h4.1, h4.2, h3⟩
theorem getText_fwd {l s : List UInt8} {p most e : Int} (h : getText l p most = (s, e, 0)) : ∃ p' e' : Nat, p = p' ∧ e = e' ∧ l.drop p' = textL s ++ l.drop e' := by
  unfold getText at h
  obtain ⟨a, b, c, hg⟩ : ∃ a b c, getNum l p = (a, b, c) := ⟨_, _, _, rfl⟩
  have hspec := getNum_spec l p
  rw [hg] at h hspec
  simp only [ne_eq] at h hspec
  split at h
  · rename_i hc
    simp at h
    exact absurd h.2.2 hc
  · rename_i hc
    have hc0 : c = 0 := by simpa using hc
    subst hc0
    split at h
    · simp at h
    · split at h
      · simp at h
      · rename_i h1 h2
        obtain ⟨p', e', n, rfl, rfl, rfl, hd⟩ := getNum_fwd hg
        simp only [Int.toNat_natCast, Prod.mk.injEq, and_true] at h
        obtain ⟨rfl, rfl⟩ := h
        refine ⟨p', e' + n, rfl, by omega, ?_⟩
        have hlen : ((l.drop e').take n).length = n := by rw [List.length_take, List.length_drop]; omega
        unfold textL
        rw [hlen, hd, List.append_assoc, ← List.drop_drop, List.take_append_drop]
theorem getRow_fwd {l k v : List UInt8} {p e : Int} (h : getRow l p = (k, v, e, 0)) : ∃ p' e' : Nat, p = p' ∧ e = e' ∧ l.drop p' = rowL k v ++ l.drop e' := by
  unfold getRow at h
  obtain ⟨s1, e1, c1, h1⟩ : ∃ a b c, getText l p 30 = (a, b, c) := ⟨_, _, _, rfl⟩
  rw [h1] at h
  simp only [ne_eq] at h
  obtain ⟨s2, e2, c2, h2⟩ : ∃ a b c, getText l e1 150 = (a, b, c) := ⟨_, _, _, rfl⟩
  rw [h2] at h
  simp only at h
  split at h
  · rename_i hc; simp at h; exact absurd h.2.2.2 hc
  · rename_i hc
    split at h
    · rename_i hc2; simp at h; exact absurd h.2.2.2 hc2
    · rename_i hc2
      have z1 : c1 = 0 := by simpa using hc
      have z2 : c2 = 0 := by simpa using hc2
      subst z1
      subst z2
      simp at h
      obtain ⟨rfl, rfl, rfl⟩ := h
      obtain ⟨p', q', rfl, rfl, hd1⟩ := getText_fwd h1
      obtain ⟨p2, q2, hp2, rfl, hd2⟩ := getText_fwd h2
      have : p2 = q' := by omega
      subst this
      exact ⟨p', q2, rfl, rfl, by rw [hd1, hd2]; simp [rowL]⟩
theorem rowsF_fwd (l : List UInt8) : ∀ (f p : Nat) (acc rs : List (ByteArray × List UInt8)), rowsF l f (p : Int) acc = (rs, 0) → ∃ new, rs = acc ++ new ∧ new.length = f ∧ l.drop p = rowsB new
  | 0, p, acc, rs, h => by
    unfold rowsF at h
    split at h
    · simp at h
    · rename_i h0
      simp at h
      exact ⟨[], by simp [h], rfl, by rw [List.drop_eq_nil_of_le (by omega)]; rfl⟩
  | f + 1, p, acc, rs, h => by
    unfold rowsF at h
    obtain ⟨k, v, e, c, hr⟩ : ∃ k v e c, getRow l p = (k, v, e, c) := ⟨_, _, _, _, rfl⟩
    rw [hr] at h
    simp only [ne_eq] at h
    split at h
    · rename_i hc; simp at h; exact absurd h.2 hc
    · rename_i hc
      have z : c = 0 := by simpa using hc
      subst z
      obtain ⟨p', e', hp, rfl, hd⟩ := getRow_fwd hr
      have : p' = p := by omega
      subst this
      obtain ⟨new, h1, h2, h3⟩ := rowsF_fwd l f e' _ rs h
      refine ⟨(⟨k.toArray⟩, v) :: new, by rw [h1]; simp, by simp [h2], ?_⟩
      rw [hd, h3]
      simp [rowsB]
theorem readRows_fwd {l : List UInt8} {rs : List (ByteArray × List UInt8)} (h : readRows l = (rs, 0)) : rowsL rs = l := by
  unfold readRows at h
  obtain ⟨a, b, c, hg⟩ : ∃ a b c, getNum l 0 = (a, b, c) := ⟨_, _, _, rfl⟩
  rw [hg] at h
  simp only [ne_eq] at h
  split at h
  · rename_i hc; simp at h; exact absurd h.2 hc
  · rename_i hc
    have z : c = 0 := by simpa using hc
    subst z
    split at h
    · simp at h
    · obtain ⟨p, e, n, hp, rfl, rfl, hd⟩ := getNum_fwd hg
      have : p = 0 := by omega
      subst this
      rw [Int.toNat_natCast] at h
      obtain ⟨new, h1, h2, h3⟩ := rowsF_fwd l n e _ rs h
      have h1' : rs = new := by simpa using h1
      subst h1'
      unfold rowsL
      rw [h2, ← h3, ← hd, List.drop_zero]
/-- The bytes of a change, and of changes. -/
def chgL (c : Chg) : List UInt8 := textL c.1.data.toList ++ if c.2.2 then [1] else 0 :: textL c.2.1
def chgsB (cs : List Chg) : List UInt8 := cs.flatMap chgL
def chgsL (cs : List Chg) : List UInt8 := numL cs.length ++ chgsB cs
theorem getChange_fwd {l k v : List UInt8} {g : Bool} {p e : Int} (h : getChange l p = (k, v, g, e, 0)) : ∃ p' e' : Nat, p = p' ∧ e = e' ∧ l.drop p' = (textL k ++ if g then [1] else 0 :: textL v) ++ l.drop e' := by
  unfold getChange at h
  obtain ⟨s1, e1, c1, h1⟩ : ∃ a b c, getText l p 30 = (a, b, c) := ⟨_, _, _, rfl⟩
  rw [h1] at h
  simp only [ne_eq] at h
  obtain ⟨s2, e2, c2, h2⟩ : ∃ a b c, getText l (e1 + 1) 150 = (a, b, c) := ⟨_, _, _, rfl⟩
  rw [h2] at h
  simp only at h
  split at h
  · rename_i hc; simp at h; exact absurd h.2.2.2.2 hc
  · rename_i hc
    have z1 : c1 = 0 := by simpa using hc
    subst z1
    obtain ⟨p', q', rfl, rfl, hd1⟩ := getText_fwd h1
    simp only [Int.toNat_natCast] at h
    split at h
    · simp at h
    · rename_i hlt
      have hq : q' < l.length := by omega
      have hdq := drop_at hq
      split at h
      · rename_i hone
        simp at h
        obtain ⟨rfl, rfl, rfl, rfl⟩ := h
        refine ⟨p', q' + 1, rfl, by omega, ?_⟩
        rw [hd1, hdq, hone]
        simp
      · split at h
        · simp at h
        · rename_i hz
          have hz' : l.getD q' 0 = 0 := by simpa using hz
          split at h
          · rename_i hc2; simp at h; exact absurd h.2.2.2.2 hc2
          · rename_i hc2
            have z2 : c2 = 0 := by simpa using hc2
            subst z2
            simp at h
            obtain ⟨rfl, rfl, rfl, rfl⟩ := h
            obtain ⟨p2, q2, hp2, rfl, hd2⟩ := getText_fwd h2
            have : p2 = q' + 1 := by omega
            subst this
            refine ⟨p', q2, rfl, rfl, ?_⟩
            rw [hd1, hdq, hz', hd2]
            simp
theorem chgsF_fwd (l : List UInt8) : ∀ (f p : Nat) (acc cs : List Chg), chgsF l f (p : Int) acc = (cs, 0) → ∃ new, cs = acc ++ new ∧ new.length = f ∧ l.drop p = chgsB new
  | 0, p, acc, rs, h => by
    unfold chgsF at h
    split at h
    · simp at h
    · rename_i h0
      simp at h
      exact ⟨[], by simp [h], rfl, by rw [List.drop_eq_nil_of_le (by omega)]; rfl⟩
  | f + 1, p, acc, rs, h => by
    unfold chgsF at h
    obtain ⟨k, v, g, e, c, hr⟩ : ∃ k v g e c, getChange l p = (k, v, g, e, c) := ⟨_, _, _, _, _, rfl⟩
    rw [hr] at h
    simp only [ne_eq] at h
    split at h
    · rename_i hc; simp at h; exact absurd h.2 hc
    · rename_i hc
      have z : c = 0 := by simpa using hc
      subst z
      obtain ⟨p', e', hp, rfl, hd⟩ := getChange_fwd hr
      have : p' = p := by omega
      subst this
      obtain ⟨new, h1, h2, h3⟩ := chgsF_fwd l f e' _ rs h
      refine ⟨(⟨k.toArray⟩, v, g) :: new, by rw [h1]; simp, by simp [h2], ?_⟩
      rw [hd, h3]
      simp [chgsB, chgL]
theorem readChgs_fwd {l : List UInt8} {cs : List Chg} (h : readChgs l = (cs, 0)) : chgsL cs = l := by
  unfold readChgs at h
  obtain ⟨a, b, c, hg⟩ : ∃ a b c, getNum l 0 = (a, b, c) := ⟨_, _, _, rfl⟩
  rw [hg] at h
  simp only [ne_eq] at h
  split at h
  · rename_i hc; simp at h; exact absurd h.2 hc
  · rename_i hc
    have z : c = 0 := by simpa using hc
    subst z
    split at h
    · simp at h
    · obtain ⟨p, e, n, hp, rfl, rfl, hd⟩ := getNum_fwd hg
      have : p = 0 := by omega
      subst this
      rw [Int.toNat_natCast] at h
      obtain ⟨new, h1, h2, h3⟩ := chgsF_fwd l n e _ cs h
      have h1' : cs = new := by simpa using h1
      subst h1'
      unfold chgsL
      rw [h2, ← h3, ← hd, List.drop_zero]
end Go.Proofs.Ytomkbgghljcbfaa
