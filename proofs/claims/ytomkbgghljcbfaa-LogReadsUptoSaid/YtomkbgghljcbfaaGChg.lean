/-
  More plain facts on bytes.
-/
import Derived.Test.YtomkbgghljcbfaaMath
import Derived.Test.YtomkbgghljcbfaaGPure
set_option linter.unusedVariables false

namespace Go.Rst
theorem or128_u8 (c : UInt8) : bits .or .u8 (c.toNat : Int) 128 = ((c ||| 128).toNat : Int) := by
  have h : ∀ m : Nat, m < 256 → bits .or .u8 (m : Int) 128 = ((UInt8.ofNat m ||| 128).toNat : Int) := by decide +kernel
  have := h c.toNat c.toNat_lt
  rwa [UInt8.ofNat_toNat] at this
theorem bvs_setLast {L : List UInt8} (h : 0 < L.length) (d : UInt8) : (bvs L).set (L.length - 1) (bv d) = bvs (L.dropLast ++ [d]) := by
  have hne : L ≠ [] := by intro e; subst e; simp at h
  obtain ⟨M, x, rfl⟩ : ∃ M x, L = M ++ [x] := ⟨L.dropLast, L.getLast hne, (List.dropLast_concat_getLast hne).symm⟩
  simp [bvs]
theorem src_oneg {P : Program} (w : World) {g : Nat} (hg : w.heap.size = g) {tx e' : TypeId} (hk : P.underlying tx = some (.slice e')) (e : TypeId) (u : Value) (h1 : u.oneCell' = true) : Src P 1 tx (.slice (some ⟨g, 0, none⟩) 1 1) 1 [u] (w.alloc (.cells #[u] e)) := by
  subst hg
  exact src_one w hk e u h1
end Go.Rst

/-
  Words on slices of changes (key, value, gone), over any program: how they read, and changes of the call's own.
-/
namespace Go.Rst
open Go.RowKit

abbrev Chg := ByteArray × List UInt8 × Bool
/-- A slice of changes as it reads: three cells each; each value reads as bytes. -/
def RC (w : World) (v : Value) (rs : List Chg) : Prop :=
  ∃ A c, v = .slice A rs.length c ∧ rs.length ≤ c ∧ c ≤ maxLen ∧ (rs = [] ∨ ∃ b off, A = some ⟨b, off, none⟩ ∧ b < w.heap.size ∧
    ∀ j (h : j < rs.length), w.cell? ⟨b, off + j * 3, none⟩ = some (.string rs[j].1) ∧ (∃ u, w.cell? ⟨b, off + j * 3 + 1, none⟩ = some u ∧ RB w u rs[j].2.1) ∧ w.cell? ⟨b, off + j * 3 + 2, none⟩ = some (.bool rs[j].2.2))
/-- The cells of changes, three by three. -/
def chCells (us : List (Chg × Value)) : List Value := us.flatMap fun x => [.string x.1.1, x.2, .bool x.1.2.2]
theorem chCells_get : ∀ (us : List (Chg × Value)) (j : Nat) (h : j < us.length), (chCells us)[j * 3]? = some (.string us[j].1.1) ∧ (chCells us)[j * 3 + 1]? = some us[j].2 ∧ (chCells us)[j * 3 + 2]? = some (.bool us[j].1.2.2)
  | x :: us, 0, _ => by simp [chCells]
  | x :: us, j + 1, h => by
    have ih := chCells_get us j (by simpa using h)
    have e : chCells (x :: us) = .string x.1.1 :: x.2 :: .bool x.1.2.2 :: chCells us := by simp [chCells]
    rw [e, show (j + 1) * 3 = j * 3 + 1 + 1 + 1 from by omega, show j * 3 + 1 + 1 + 1 + 1 = (j * 3 + 1) + 1 + 1 + 1 from rfl, show j * 3 + 1 + 1 + 1 + 2 = (j * 3 + 2) + 1 + 1 + 1 from rfl]
    simpa using ih
/-- Changes of the call's own, each value in a block of its own. -/
def OC (e eR : TypeId) (w : World) (base : Nat) (v : Value) (rs : List Chg) : Prop :=
  ∃ us : List (Chg × Value), us.map (·.1) = rs ∧ w.ownsRow base eR 3 v us.length (chCells us) ∧ ∀ x ∈ us, FB e w base x.2 x.1.2.1
theorem OC.nil_ (e eR : TypeId) (w : World) (base : Nat) : OC e eR w base (.slice none 0 0) [] := ⟨[], rfl, World.ownsRow_nil _ _ _ _, fun _ h => by cases h⟩
theorem OC.rc {e eR : TypeId} {w : World} {base : Nat} {v : Value} {rs : List Chg} (h : OC e eR w base v rs) : RC w v rs := by
  obtain ⟨us, rfl, ho, hf⟩ := h
  rcases ho.2 with ⟨rfl, h0⟩ | ⟨g, cap, cur, rfl, hb, hg, hnc, hcm, hcs, ht⟩
  · have : us = [] := List.eq_nil_of_length_eq_zero h0
    subst this
    exact ⟨none, 0, rfl, Nat.le_refl _, Nat.zero_le _, .inl rfl⟩
  · refine ⟨some ⟨g, 0, none⟩, cap, by rw [List.length_map], by rw [List.length_map]; exact hnc, hcm, .inr ⟨g, 0, rfl, (Array.getElem?_eq_some_iff.1 hg).1, fun j hj => ?_⟩⟩
    rw [List.length_map] at hj
    have hc := chCells_get us j hj
    have h1 := ho.cells (g := g) rfl _ _ hc.1
    have h2 := ho.cells (g := g) rfl _ _ hc.2.1
    have h3 := ho.cells (g := g) rfl _ _ hc.2.2
    rw [Addr.add_lit] at h1 h2 h3
    refine ⟨by simpa using h1, ⟨us[j].2, by simpa [Nat.add_assoc] using h2, ?_⟩, by simpa [Nat.add_assoc] using h3⟩
    have := (hf us[j] (List.getElem_mem hj)).rb
    simpa using this
theorem OC.below {e eR : TypeId} {w w' : World} {base : Nat} {v : Value} {rs : List Chg} (h : OC e eR w base v rs) (hb : Below w.heap.size w w') : OC e eR w' base v rs := by
  obtain ⟨us, h1, ho, hf⟩ := h
  exact ⟨us, h1, own_below ho hb, fun x hx => (hf x hx).below hb⟩
theorem OC.base_ {e eR : TypeId} {w : World} {base base' : Nat} {v : Value} {rs : List Chg} (h : OC e eR w base v rs) (hb : base' ≤ base) : OC e eR w base' v rs := by
  obtain ⟨us, h1, ho, hf⟩ := h
  exact ⟨us, h1, own_base ho hb, fun x hx => (hf x hx).base_ hb⟩
theorem OC.setCell {e eR : TypeId} {w : World} {base : Nat} {v : Value} {rs : List Chg} (h : OC e eR w base v rs) {p : Addr} (hp : p.block < base) (u : Value) : OC e eR (w.setCell p u) base v rs := by
  obtain ⟨us, h1, ho, hf⟩ := h
  exact ⟨us, h1, ownsRow_setCell_below ho hp u, fun x hx => (hf x hx).setCell hp u⟩
theorem OC.alloc {e eR : TypeId} {w : World} {base : Nat} {v : Value} {rs : List Chg} (h : OC e eR w base v rs) (o : Obj) : OC e eR (w.alloc o) base v rs :=
  h.below ((Below.refl _ _).alloc (Nat.le_refl _) o)
/-- One change more. -/
theorem OC.push {e eR : TypeId} {w w' : World} {base : Nat} {v v' u : Value} {us : List (Chg × Value)} {k : ByteArray} {l : List UInt8} {b : Bool} (hne : e ≠ eR)
    (ho : w.ownsRow base eR 3 v us.length (chCells us)) (hf : ∀ x ∈ us, FB e w base x.2 x.1.2.1) (hu : FB e w base u l)
    (ho' : w'.ownsRow base eR 3 v' (us.length + 1) (chCells us ++ [.string k, u, .bool b])) (hg : w.grownBy w' v.ownBlock) : OC e eR w' base v' (us.map (·.1) ++ [(k, l, b)]) := by
  refine ⟨us ++ [((k, l, b), u)], by simp, by unfold chCells at ho' ⊢; rw [List.length_append, List.flatMap_append]; exact ho', fun x hx => ?_⟩
  rcases List.mem_append.1 hx with hx | hx
  · exact (hf x hx).grown ho hne hg
  · simp at hx
    subst hx
    exact hu.grown ho hne hg
end Go.Rst

/-
  Plain mathematics: what changes make of rows; where a key stands among rising rows; what differs. No program.
-/
namespace Go.Pg
open Go.Rst Go.Crc
theorem ba_loop (bs : ByteArray) : ∀ (n i : Nat) (r : List UInt8), bs.size - i = n → ByteArray.toList.loop bs i r = r.reverse ++ bs.data.toList.drop i := by
  intro n
  induction n with
  | zero =>
    intro i r h
    unfold ByteArray.toList.loop
    have hs : bs.size = bs.data.toList.length := by rw [Array.length_toList]; rfl
    rw [if_neg (by omega), List.drop_eq_nil_of_le (by omega)]
    simp
  | succ n ih =>
    intro i r h
    unfold ByteArray.toList.loop
    have hs : bs.size = bs.data.toList.length := by rw [Array.length_toList]; rfl
    have hi : i < bs.data.toList.length := by omega
    rw [if_pos (by omega), ih (i+1) _ (by omega), List.drop_eq_getElem_cons hi]
    have hg : bs.get! i = bs.data.toList[i] := by
      show bs.data[i]! = _
      have : i < bs.data.size := by simpa using hi
      rw [getElem!_pos bs.data i this]
      simp
    simp [hg]
theorem ba_toList (bs : ByteArray) : bs.toList = bs.data.toList := by
  unfold ByteArray.toList
  rw [ba_loop bs _ 0 [] rfl]
  simp
theorem ba_ext {a b : ByteArray} (h : a.toList = b.toList) : a = b := by
  rw [ba_toList, ba_toList] at h
  cases a; cases b
  congr
  simpa using h
theorem row_ext {x : Rw} {k : ByteArray} {v : List UInt8} (h : kl x = k.toList) (hv : x.2 = v) : x = (k, v) := by
  obtain ⟨a, b⟩ := x
  have := ba_ext h
  simp only at this hv
  rw [this, hv]
theorem bl_asymm {a b : List UInt8} (h : Op.bytesLess a b = true) : Op.bytesLess b a = false := by
  cases h2 : Op.bytesLess b a
  · rfl
  · have := bl_trans _ _ _ h h2
    rw [bl_irrefl] at this
    cases this
theorem bl_ne {a b : List UInt8} (h : Op.bytesLess a b = true) : a ≠ b := by
  rintro rfl
  rw [bl_irrefl] at h
  cases h
/-- Rows behind one change. -/
def outL (k : ByteArray) (rs : List Rw) : List Rw := rs.filter (fun x => !(x.1.toList == k.toList))
def stepL (rs : List Rw) (c : Chg) : List Rw := if c.2.2 = true then outL c.1 rs else layF (c.1, c.2.1) rs false
def applyL (rs : List Rw) (cs : List Chg) : List Rw := cs.foldl stepL rs
/-- Where a key stands: how many rows are ahead of it. -/
def posL (k : ByteArray) : List Rw → Nat
  | [] => 0
  | x :: xs => if Op.bytesLess x.1.toList k.toList = true then posL k xs + 1 else 0
theorem posL_le (k : ByteArray) : ∀ l : List Rw, posL k l ≤ l.length
  | [] => Nat.le_refl _
  | x :: xs => by
    have := posL_le k xs
    unfold posL
    split <;> simp only [List.length_cons] <;> omega
theorem posL_of {k : ByteArray} : ∀ {l : List Rw} {i : Nat}, i ≤ l.length → (∀ t (h : t < l.length), t < i → Op.bytesLess l[t].1.toList k.toList = true) → (∀ h : i < l.length, Op.bytesLess l[i].1.toList k.toList = false) → posL k l = i
  | [], i, hi, _, _ => by simp at hi; subst hi; rfl
  | x :: xs, 0, _, _, h2 => by
    have := h2 (by simp)
    simp only [List.getElem_cons_zero] at this
    unfold posL
    rw [this]
    simp
  | x :: xs, i + 1, hi, h1, h2 => by
    have h0 := h1 0 (by simp) (by omega)
    simp only [List.getElem_cons_zero] at h0
    unfold posL
    rw [if_pos h0, posL_of (l := xs) (i := i) (by simpa using hi) (fun t h ht => by have := h1 (t + 1) (by simpa using h) (by omega); simpa using this) (fun h => by have := h2 (by simpa using h); simpa using this)]
/-- Does the key stand there? -/
def hasL (k : ByteArray) (l : List Rw) : Bool := match l[posL k l]? with | some x => x.1.toList == k.toList | none => false
theorem layF_same {r : Rw} : ∀ {l : List Rw}, (∀ y ∈ l, (y.1.toList == r.1.toList) = false) → layF r l true = l
  | [], _ => by simp [layF]
  | x :: xs, h => by
    unfold layF
    rw [if_neg (by rw [h x List.mem_cons_self]; decide), if_neg (by simp), layF_same (fun y hy => h y (List.mem_cons_of_mem _ hy))]
theorem lt_beq {a b : Rw} (h : lt a b) : (b.1.toList == a.1.toList) = false := by
  rw [beq_eq_false_iff_ne]
  exact fun e => bl_ne h e.symm
theorem lt_beq' {a b : Rw} (h : lt a b) : (a.1.toList == b.1.toList) = false := by
  rw [beq_eq_false_iff_ne]
  exact fun e => bl_ne h e
theorem layF_front {r : Rw} : ∀ {l : List Rw}, (∀ y ∈ l, lt r y) → layF r l false = r :: l
  | [], _ => by simp [layF]
  | x :: xs, h => by
    have hx := h x List.mem_cons_self
    unfold layF
    rw [if_neg (by rw [lt_beq hx]; decide), if_pos ⟨rfl, sle_not hx⟩, layF_same (fun y hy => lt_beq (h y (List.mem_cons_of_mem _ hy)))]
theorem outL_same {k : ByteArray} {l : List Rw} (h : ∀ y ∈ l, (y.1.toList == k.toList) = false) : outL k l = l := by
  unfold outL
  rw [List.filter_eq_self.2]
  intro y hy
  rw [h y hy]
  rfl
theorem outL_cons (k : ByteArray) (x : Rw) (xs : List Rw) : outL k (x :: xs) = if (x.1.toList == k.toList) = true then outL k xs else x :: outL k xs := by
  unfold outL
  rw [List.filter_cons]
  cases x.1.toList == k.toList <;> rfl
theorem lay_pos {r : Rw} : ∀ {l : List Rw}, Sorted l → layF r l false = if hasL r.1 l = true then l.set (posL r.1 l) r else l.take (posL r.1 l) ++ r :: l.drop (posL r.1 l)
  | [], _ => by simp [layF, hasL, posL]
  | x :: xs, h => by
    obtain ⟨h1, h2⟩ := sorted_cons.1 h
    by_cases hlt : Op.bytesLess x.1.toList r.1.toList = true
    · have hp : posL r.1 (x :: xs) = posL r.1 xs + 1 := by rw [posL, if_pos hlt]
      have hh : hasL r.1 (x :: xs) = hasL r.1 xs := by unfold hasL; rw [hp]; simp
      have hne : (x.1.toList == r.1.toList) = false := by rw [beq_eq_false_iff_ne]; exact bl_ne hlt
      rw [hp, hh, layF, if_neg (by rw [hne]; decide), if_neg (by rintro ⟨_, hs⟩; rw [sle_of_lt hlt] at hs; cases hs), lay_pos h2]
      split <;> simp
    · have hlt' : Op.bytesLess x.1.toList r.1.toList = false := by simpa using hlt
      have hp : posL r.1 (x :: xs) = 0 := by rw [posL, if_neg hlt]
      by_cases he : x.1.toList = r.1.toList
      · have hh : hasL r.1 (x :: xs) = true := by unfold hasL; rw [hp]; simp [he]
        rw [hp, hh, if_pos rfl, layF, if_pos (by simp [he]), layF_front (fun y hy => by have := h1 y hy; unfold lt kl at this ⊢; rw [← he]; exact this)]
        rfl
      · have hrx : lt r x := bl_total _ _ hlt' he
        have hh : hasL r.1 (x :: xs) = false := by unfold hasL; rw [hp]; simp [he]
        rw [hp, hh, if_neg (by decide), layF_front (l := x :: xs) (fun y hy => by
          rcases List.mem_cons.1 hy with rfl | hy
          · exact hrx
          · exact bl_trans _ _ _ hrx (h1 y hy))]
        simp
theorem out_pos {k : ByteArray} : ∀ {l : List Rw}, Sorted l → outL k l = if hasL k l = true then l.take (posL k l) ++ l.drop (posL k l + 1) else l
  | [], _ => by simp [outL]
  | x :: xs, h => by
    obtain ⟨h1, h2⟩ := sorted_cons.1 h
    by_cases hlt : Op.bytesLess x.1.toList k.toList = true
    · have hp : posL k (x :: xs) = posL k xs + 1 := by rw [posL, if_pos hlt]
      have hh : hasL k (x :: xs) = hasL k xs := by unfold hasL; rw [hp]; simp
      have hne : (x.1.toList == k.toList) = false := by rw [beq_eq_false_iff_ne]; exact bl_ne hlt
      rw [hp, hh, outL_cons, if_neg (by rw [hne]; decide), out_pos h2]
      split <;> simp
    · have hlt' : Op.bytesLess x.1.toList k.toList = false := by simpa using hlt
      have hp : posL k (x :: xs) = 0 := by rw [posL, if_neg hlt]
      by_cases he : x.1.toList = k.toList
      · have hh : hasL k (x :: xs) = true := by unfold hasL; rw [hp]; simp [he]
        rw [hp, hh, if_pos rfl, outL_cons, if_pos (by simp [he]), outL_same (fun y hy => by have := h1 y hy; unfold lt kl at this; rw [beq_eq_false_iff_ne]; rw [← he]; exact (bl_ne this).symm)]
        simp
      · have hh : hasL k (x :: xs) = false := by unfold hasL; rw [hp]; simp [he]
        rw [hh, if_neg (by decide)]
        have hrx : Op.bytesLess k.toList x.1.toList = true := bl_total _ _ hlt' he
        exact outL_same (fun y hy => by
          rw [beq_eq_false_iff_ne]
          rcases List.mem_cons.1 hy with rfl | hy
          · exact he
          · exact (bl_ne (bl_trans _ _ _ hrx (h1 y hy))).symm)
theorem outL_sorted {k : ByteArray} {l : List Rw} (h : Sorted l) : Sorted (outL k l) := List.Pairwise.filter _ h
theorem stepL_sorted {l : List Rw} {c : Chg} (h : Sorted l) : Sorted (stepL l c) := by
  unfold stepL
  split
  · exact outL_sorted h
  · exact layF_sorted h
theorem applyL_sorted : ∀ {cs : List Chg} {l : List Rw}, Sorted l → Sorted (applyL l cs)
  | [], _, h => h
  | c :: cs, _, h => applyL_sorted (cs := cs) (stepL_sorted (c := c) h)
theorem stepL_len (l : List Rw) (c : Chg) : (stepL l c).length ≤ l.length + 1 := by
  unfold stepL
  split
  · exact Nat.le_trans (List.length_filter_le _ _) (Nat.le_succ _)
  · exact layF_len _ _ _
theorem applyL_snoc (l : List Rw) (cs : List Chg) (c : Chg) : applyL l (cs ++ [c]) = stepL (applyL l cs) c := by unfold applyL; rw [List.foldl_append]; rfl
theorem applyL_take {l : List Rw} {cs : List Chg} {k : Nat} (h : k < cs.length) : applyL l (cs.take (k + 1)) = stepL (applyL l (cs.take k)) cs[k] := by
  rw [List.take_succ_eq_append_getElem h, applyL_snoc]
theorem applyL_len (l : List Rw) : ∀ (cs : List Chg), (applyL l cs).length ≤ l.length + cs.length := by
  intro cs
  induction cs generalizing l with
  | nil => exact Nat.le_refl _
  | cons c cs ih =>
    have h1 := ih (stepL l c)
    have h2 := stepL_len l c
    show (applyL (stepL l c) cs).length ≤ _
    rw [List.length_cons]
    omega
theorem applyL_append (l : List Rw) (a b : List Chg) : applyL l (a ++ b) = applyL (applyL l a) b := by unfold applyL; rw [List.foldl_append]
/-- What a key has. -/
def lk : List Rw → List UInt8 → Option (List UInt8)
  | [], _ => none
  | x :: xs, k => if kl x = k then some x.2 else lk xs k
theorem lk_none {k : List UInt8} : ∀ {l : List Rw}, (∀ y ∈ l, kl y ≠ k) → lk l k = none
  | [], _ => rfl
  | x :: xs, h => by rw [lk, if_neg (h x List.mem_cons_self)]; exact lk_none (fun y hy => h y (List.mem_cons_of_mem _ hy))
theorem lk_mem {k v : List UInt8} : ∀ {l : List Rw}, lk l k = some v → ∃ y ∈ l, kl y = k ∧ y.2 = v
  | [], h => by cases h
  | x :: xs, h => by
    unfold lk at h
    split at h
    · rename_i he
      exact ⟨x, List.mem_cons_self, he, by injection h⟩
    · obtain ⟨y, hy, h2⟩ := lk_mem h
      exact ⟨y, List.mem_cons_of_mem _ hy, h2⟩
theorem lk_tail {x : Rw} {xs : List Rw} (h : Sorted (x :: xs)) : lk xs (kl x) = none :=
  lk_none fun y hy => (bl_ne ((sorted_cons.1 h).1 y hy)).symm
theorem lk_above {x : Rw} {xs : List Rw} {k : List UInt8} (h : Sorted (x :: xs)) (hk : Op.bytesLess k (kl x) = true) : lk (x :: xs) k = none :=
  lk_none fun y hy => by
    rcases List.mem_cons.1 hy with rfl | hy
    · exact (bl_ne hk).symm
    · exact (bl_ne (bl_trans _ _ _ hk ((sorted_cons.1 h).1 y hy))).symm
theorem sorted_ext : ∀ {a b : List Rw}, Sorted a → Sorted b → (∀ k, lk a k = lk b k) → a = b
  | [], [], _, _, _ => rfl
  | [], y :: ys, _, _, h => by have := h (kl y); simp [lk] at this
  | x :: xs, [], _, _, h => by have := h (kl x); simp [lk] at this
  | x :: xs, y :: ys, ha, hb, h => by
    have he : kl x = kl y := by
      rcases Bool.eq_false_or_eq_true (Op.bytesLess (kl x) (kl y)) with h1 | h1
      · have := h (kl x)
        rw [lk_above hb h1] at this
        simp [lk] at this
      · rcases Bool.eq_false_or_eq_true (Op.bytesLess (kl y) (kl x)) with h2 | h2
        · have := h (kl y)
          rw [lk_above ha h2] at this
          simp [lk] at this
        · by_cases e : kl x = kl y
          · exact e
          · have := bl_total _ _ h1 e
            rw [h2] at this
            cases this
    have hv : x.2 = y.2 := by
      have := h (kl x)
      rw [lk, lk, if_pos rfl, if_pos he.symm] at this
      injection this
    have hxy : x = y := row_ext (x := x) (k := y.1) (v := y.2) he hv
    subst hxy
    rw [sorted_ext (sorted_cons.1 ha).2 (sorted_cons.1 hb).2 (fun k => by
      by_cases e : kl x = k
      · subst e
        rw [lk_tail ha, lk_tail hb]
      · have := h k
        rw [lk, lk, if_neg e, if_neg e] at this
        exact this)]
theorem lk_lay {r : Rw} {k : List UInt8} : ∀ (l : List Rw), lk (layF r l false) k = if kl r = k then some r.2 else lk l k
  | [] => by simp [layF, lk]
  | x :: xs => by
    have ih := lk_lay (r := r) (k := k) xs
    have iht : kl r ≠ k → lk (layF r xs true) k = lk xs k := by
      intro hk
      have : ∀ (l : List Rw), lk (layF r l true) k = lk l k := by
        intro l
        induction l with
        | nil => simp [layF]
        | cons y ys ih2 =>
          unfold layF
          split
          · rename_i he
            rw [ih2, lk, if_neg (by unfold kl; intro e; apply hk; unfold kl; rw [← e]; exact (eq_of_beq he).symm)]
          · rw [if_neg (by simp), lk, lk, ih2]
      exact this xs
    unfold layF
    split
    · rename_i he
      rw [ih]
      split
      · rfl
      · rename_i hk
        rw [lk, if_neg (by unfold kl; intro e; apply hk; unfold kl; rw [← e]; exact (eq_of_beq he).symm)]
    · rename_i he
      split
      · split
        · rename_i hk
          rw [lk, if_pos hk]
        · rename_i hk
          rw [lk, if_neg hk, lk, lk, iht hk]
      · rw [lk, ih, lk]
        by_cases hx : kl x = k
        · rw [if_pos hx, if_neg (by intro hr; apply he; rw [beq_iff_eq]; exact hx.trans hr.symm), if_pos hx]
        · rw [if_neg hx, if_neg hx]
theorem lk_out {c : ByteArray} {k : List UInt8} : ∀ (l : List Rw), lk (outL c l) k = if c.toList = k then none else lk l k
  | [] => by simp [outL, lk]
  | x :: xs => by
    have ih := lk_out (c := c) (k := k) xs
    rw [outL_cons]
    split
    · rename_i he
      rw [ih]
      split
      · rfl
      · rename_i hk
        rw [lk, if_neg (by unfold kl; intro e; apply hk; rw [← e]; exact (eq_of_beq he).symm)]
    · rename_i he
      rw [lk, ih, lk]
      by_cases hx : kl x = k
      · rw [if_pos hx, if_neg (by intro hr; apply he; rw [beq_iff_eq]; exact hx.trans hr.symm), if_pos hx]
      · rw [if_neg hx, if_neg hx]
def effL (c : Chg) : Option (List UInt8) := if c.2.2 = true then none else some c.2.1
theorem lk_step (l : List Rw) (c : Chg) (k : List UInt8) : lk (stepL l c) k = if c.1.toList = k then effL c else lk l k := by
  unfold stepL effL
  split
  · rw [lk_out]
  · rw [lk_lay]; rfl
/-- The last change of a key. -/
def lc : List Chg → List UInt8 → Option Chg
  | [], _ => none
  | c :: cs, k => match lc cs k with | some d => some d | none => if c.1.toList = k then some c else none
theorem lk_apply (k : List UInt8) : ∀ (cs : List Chg) (l : List Rw), lk (applyL l cs) k = match lc cs k with | some c => effL c | none => lk l k
  | [], _ => rfl
  | c :: cs, l => by
    show lk (applyL (stepL l c) cs) k = _
    rw [lk_apply k cs (stepL l c), lc]
    cases lc cs k with
    | some d => rfl
    | none =>
      simp only
      rw [lk_step]
      split <;> rfl
theorem lc_none {k : List UInt8} : ∀ {cs : List Chg}, (∀ c ∈ cs, c.1.toList ≠ k) → lc cs k = none
  | [], _ => rfl
  | c :: cs, h => by
    rw [lc, lc_none (fun d hd => h d (List.mem_cons_of_mem _ hd))]
    simp only
    rw [if_neg (h c List.mem_cons_self)]
/-- Changes made twice. -/
theorem apply_twice {l : List Rw} (hl : Sorted l) (cs : List Chg) : applyL (applyL l cs) cs = applyL l cs := by
  refine sorted_ext (applyL_sorted (applyL_sorted hl)) (applyL_sorted hl) (fun k => ?_)
  rw [lk_apply, lk_apply]
  cases lc cs k <;> rfl
/-- What differs, by rising keys. -/
def goneL (x : Rw) : Chg := (x.1, [], true)
def putL (x : Rw) : Chg := (x.1, x.2, false)
def diffL : List Rw → List Rw → List Chg
  | [], b => b.map putL
  | x :: a, [] => goneL x :: diffL a []
  | x :: a, y :: b => if x.1.toList = y.1.toList then (if x.2 = y.2 then diffL a b else putL y :: diffL a b)
    else if Op.bytesLess x.1.toList y.1.toList = true then goneL x :: diffL a (y :: b) else putL y :: diffL (x :: a) b
termination_by a b => a.length + b.length
theorem diff_nil (a : List Rw) : diffL a [] = a.map goneL := by
  induction a with
  | nil => simp [diffL]
  | cons x a ih => rw [diffL, ih]; rfl
theorem diff_self : ∀ a : List Rw, diffL a a = []
  | [] => by simp [diffL]
  | x :: a => by rw [diffL, if_pos rfl, if_pos rfl, diff_self a]
def Above (k : List UInt8) (l : List Rw) : Prop := ∀ y ∈ l, Op.bytesLess k (kl y) = true
theorem diff_above {k : List UInt8} : ∀ (a b : List Rw), Above k a → Above k b → ∀ c ∈ diffL a b, Op.bytesLess k c.1.toList = true
  | [], b, _, hb, c, hc => by
    rw [diffL] at hc
    obtain ⟨y, hy, rfl⟩ := List.mem_map.1 hc
    exact hb y hy
  | x :: a, [], ha, hb, c, hc => by
    rw [diff_nil] at hc
    obtain ⟨y, hy, rfl⟩ := List.mem_map.1 hc
    exact ha y hy
  | x :: a, y :: b, ha, hb, c, hc => by
    have ha' : Above k a := fun z hz => ha z (List.mem_cons_of_mem _ hz)
    have hb' : Above k b := fun z hz => hb z (List.mem_cons_of_mem _ hz)
    rw [diffL] at hc
    split at hc
    · split at hc
      · exact diff_above a b ha' hb' c hc
      · rcases List.mem_cons.1 hc with rfl | hc
        · exact hb y List.mem_cons_self
        · exact diff_above a b ha' hb' c hc
    · split at hc
      · rcases List.mem_cons.1 hc with rfl | hc
        · exact ha x List.mem_cons_self
        · exact diff_above a (y :: b) ha' hb c hc
      · rcases List.mem_cons.1 hc with rfl | hc
        · exact hb y List.mem_cons_self
        · exact diff_above (x :: a) b ha hb' c hc
termination_by a b => a.length + b.length
def cl (c d : Chg) : Prop := Op.bytesLess c.1.toList d.1.toList = true
theorem above_of {x : Rw} {l : List Rw} (h : Sorted (x :: l)) : Above (kl x) l := (sorted_cons.1 h).1
theorem above_lt {k : List UInt8} {x : Rw} {l : List Rw} (h : Sorted (x :: l)) (hk : Op.bytesLess k (kl x) = true) : Above k (x :: l) := fun y hy => by
  rcases List.mem_cons.1 hy with rfl | hy
  · exact hk
  · exact bl_trans _ _ _ hk (above_of h y hy)
theorem diff_sorted : ∀ (a b : List Rw), Sorted a → Sorted b → (diffL a b).Pairwise cl
  | [], b, _, hb => by
    rw [diffL, List.pairwise_map]
    exact hb
  | x :: a, [], ha, _ => by
    rw [diff_nil, List.pairwise_map]
    exact ha
  | x :: a, y :: b, ha, hb => by
    obtain ⟨h1, h2⟩ := sorted_cons.1 ha
    obtain ⟨h3, h4⟩ := sorted_cons.1 hb
    rw [diffL]
    split
    · rename_i he
      split
      · exact diff_sorted a b h2 h4
      · refine List.pairwise_cons.2 ⟨fun c hc => ?_, diff_sorted a b h2 h4⟩
        exact diff_above a b (k := kl y) (fun z hz => by have := h1 z hz; unfold lt at this; unfold kl at this ⊢; rw [← he]; exact this) h3 c hc
    · rename_i he
      split
      · rename_i hlt
        exact List.pairwise_cons.2 ⟨fun c hc => diff_above a (y :: b) (k := kl x) h1 (above_lt hb hlt) c hc, diff_sorted a (y :: b) h2 hb⟩
      · rename_i hlt
        have hyx : Op.bytesLess (kl y) (kl x) = true := bl_total _ _ (Bool.eq_false_iff.2 hlt) he
        exact List.pairwise_cons.2 ⟨fun c hc => diff_above (x :: a) b (k := kl y) (above_lt ha hyx) h3 c hc, diff_sorted (x :: a) b ha h4⟩
termination_by a b => a.length + b.length
theorem lc_above {k : List UInt8} {cs : List Chg} (h : ∀ c ∈ cs, Op.bytesLess k c.1.toList = true) : lc cs k = none := lc_none fun c hc => (bl_ne (h c hc)).symm
theorem lc_cons {c : Chg} {cs : List Chg} {k : List UInt8} (h : ∀ d ∈ cs, cl c d) : lc (c :: cs) k = if c.1.toList = k then some c else lc cs k := by
  rw [lc]
  split
  · rename_i d hd
    rw [if_neg, hd]
    rintro rfl
    rw [lc_above h] at hd
    cases hd
  · rename_i hd
    split
    · rfl
    · exact hd.symm
theorem lc_put {y : Rw} {cs : List Chg} {k : List UInt8} (h : ∀ d ∈ cs, cl (putL y) d) : lc (putL y :: cs) k = if kl y = k then some (putL y) else lc cs k := lc_cons h
theorem lc_gone {y : Rw} {cs : List Chg} {k : List UInt8} (h : ∀ d ∈ cs, cl (goneL y) d) : lc (goneL y :: cs) k = if kl y = k then some (goneL y) else lc cs k := lc_cons h
/-- What a change from some rows to others is for. -/
def forL (u v : Option (List UInt8)) (c : Option Chg) : Prop := match c with | none => u = v | some c => effL c = v ∧ u ≠ v
theorem lk_cons {x : Rw} {l : List Rw} {k : List UInt8} : lk (x :: l) k = if kl x = k then some x.2 else lk l k := rfl
theorem diff_for : ∀ (a b : List Rw), Sorted a → Sorted b → ∀ k, forL (lk a k) (lk b k) (lc (diffL a b) k)
  | [], [], _, _, k => by rw [diffL]; exact rfl
  | [], y :: b, ha, hb, k => by
    have hs := diff_sorted [] (y :: b) ha hb
    have ih := diff_for [] b ha (sorted_cons.1 hb).2 k
    rw [show diffL [] (y :: b) = putL y :: diffL [] b by rw [diffL, diffL]; rfl] at hs ⊢
    rw [lc_put (List.pairwise_cons.1 hs).1, lk_cons]
    by_cases he : kl y = k
    · rw [if_pos he, if_pos he]
      exact ⟨rfl, by simp [lk]⟩
    · rw [if_neg he, if_neg he]
      exact ih
  | x :: a, [], ha, hb, k => by
    have hs := diff_sorted (x :: a) [] ha hb
    have ih := diff_for a [] (sorted_cons.1 ha).2 hb k
    rw [show diffL (x :: a) [] = goneL x :: diffL a [] by rw [diffL]] at hs ⊢
    rw [lc_gone (List.pairwise_cons.1 hs).1, lk_cons]
    by_cases he : kl x = k
    · rw [if_pos he, if_pos he]
      exact ⟨rfl, by simp [lk]⟩
    · rw [if_neg he, if_neg he]
      exact ih
  | x :: a, y :: b, ha, hb, k => by
    have hs := diff_sorted (x :: a) (y :: b) ha hb
    obtain ⟨h1, h2⟩ := sorted_cons.1 ha
    obtain ⟨h3, h4⟩ := sorted_cons.1 hb
    rw [diffL] at hs ⊢
    split at hs
    · rename_i he
      have he' : kl x = kl y := he
      rw [if_pos he]
      have ih := diff_for a b h2 h4 k
      split at hs
      · rename_i hv
        rw [if_pos hv, lk_cons, lk_cons]
        by_cases hk : kl x = k
        · rw [if_pos hk, if_pos (he'.symm.trans hk), lc_above (fun c hc => by
            have := diff_above a b (k := kl x) h1 (fun z hz => by have := h3 z hz; unfold lt at this; rw [he']; exact this) c hc
            rw [hk] at this
            exact this)]
          exact congrArg some hv
        · rw [if_neg hk, if_neg (fun e => hk (he'.trans e))]
          exact ih
      · rename_i hv
        rw [if_neg hv, lc_put (List.pairwise_cons.1 hs).1, lk_cons, lk_cons]
        by_cases hk : kl y = k
        · rw [if_pos (he'.trans hk), if_pos hk, if_pos hk]
          exact ⟨rfl, fun e => hv (by injection e)⟩
        · rw [if_neg (fun e => hk (he'.symm.trans e)), if_neg hk, if_neg hk]
          exact ih
    · rename_i he
      rw [if_neg he]
      split at hs
      · rename_i hlt
        rw [if_pos hlt, lc_gone (List.pairwise_cons.1 hs).1, lk_cons]
        have ih := diff_for a (y :: b) h2 hb k
        by_cases hk : kl x = k
        · rw [if_pos hk, if_pos hk, lk_above hb (by rw [← hk]; exact hlt)]
          exact ⟨rfl, by simp⟩
        · rw [if_neg hk, if_neg hk]
          exact ih
      · rename_i hlt
        have hyx : Op.bytesLess (kl y) (kl x) = true := bl_total _ _ (Bool.eq_false_iff.2 hlt) he
        rw [if_neg hlt, lc_put (List.pairwise_cons.1 hs).1, lk_cons (x := y)]
        have ih := diff_for (x :: a) b ha h4 k
        by_cases hk : kl y = k
        · rw [if_pos hk, if_pos hk, lk_above ha (by rw [← hk]; exact hyx)]
          exact ⟨rfl, by simp⟩
        · rw [if_neg hk, if_neg hk]
          exact ih
termination_by a b => a.length + b.length
/-- Rows behind the changes from them to others are these. -/
theorem apply_diff {a b : List Rw} (ha : Sorted a) (hb : Sorted b) : applyL a (diffL a b) = b := by
  refine sorted_ext (applyL_sorted ha) hb (fun k => ?_)
  rw [lk_apply]
  have := diff_for a b ha hb k
  cases h : lc (diffL a b) k with
  | none => rw [h] at this; exact this
  | some c => rw [h] at this; exact this.1
theorem lc_last {cs : List Chg} (h : cs.Pairwise cl) : ∀ {i : Nat} (hi : i < cs.length), lc cs cs[i].1.toList = some cs[i] ∧ lc (cs.take i ++ cs.drop (i + 1)) cs[i].1.toList = none := by
  induction cs with
  | nil => intro i hi; simp at hi
  | cons c cs ih =>
    obtain ⟨h1, h2⟩ := List.pairwise_cons.1 h
    intro i hi
    match i, hi with
    | 0, _ =>
      simp only [List.getElem_cons_zero, List.take_zero, List.nil_append, Nat.zero_add, List.drop_succ_cons, List.drop_zero]
      rw [lc_cons h1, if_pos rfl]
      exact ⟨rfl, lc_above h1⟩
    | i + 1, hi =>
      have hi' : i < cs.length := by simpa using hi
      obtain ⟨h3, h4⟩ := ih h2 hi'
      simp only [List.getElem_cons_succ, List.take_succ_cons, List.drop_succ_cons, List.cons_append]
      have hne : ¬ c.1.toList = cs[i].1.toList := bl_ne (h1 cs[i] (List.getElem_mem hi'))
      rw [lc_cons h1, if_neg hne]
      refine ⟨h3, ?_⟩
      rw [lc, h4]
      simp only
      rw [if_neg hne]
/-- No change is for nothing. -/
theorem apply_less {a b : List Rw} (ha : Sorted a) (hb : Sorted b) {i : Nat} (hi : i < (diffL a b).length) : applyL a ((diffL a b).take i ++ (diffL a b).drop (i + 1)) ≠ b := by
  obtain ⟨h1, h2⟩ := lc_last (diff_sorted a b ha hb) hi
  have h3 := diff_for a b ha hb (diffL a b)[i].1.toList
  rw [h1] at h3
  intro e
  have h4 := lk_apply (diffL a b)[i].1.toList ((diffL a b).take i ++ (diffL a b).drop (i + 1)) a
  rw [h2, e] at h4
  exact h3.2 h4.symm
/-- The document's find. -/
def findR (l : List Rw) (key : ByteArray) : Option Rw := l.find? (fun x => x.1.toList == key.toList)
theorem findR_none {l : List Rw} {key : ByteArray} (h : ∀ y ∈ l, kl y ≠ key.toList) : findR l key = none := by
  unfold findR
  rw [List.find?_eq_none]
  intro y hy
  rw [beq_iff_eq]
  exact h y hy
theorem diff_len : ∀ (a b : List Rw), (diffL a b).length ≤ a.length + b.length
  | [], b => by rw [diffL, List.length_map]; simp
  | x :: a, [] => by rw [diff_nil, List.length_map]; simp
  | x :: a, y :: b => by
    rw [diffL]
    have h1 := diff_len a b
    have h2 := diff_len a (y :: b)
    have h3 := diff_len (x :: a) b
    simp only [List.length_cons] at h2 h3 ⊢
    split
    · split
      · omega
      · rw [List.length_cons]; omega
    · split
      · rw [List.length_cons]; omega
      · rw [List.length_cons]; omega
termination_by a b => a.length + b.length
end Go.Pg
