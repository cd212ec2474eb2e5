/-
 The contract of the document's own Encode: a page of any rows at any level, or none.; The contract of the document's own level of a tree.; The contract of the document's own Build of a tree.; Plain mathematics of trees: the groups in which the program tells rows. No program.; Plain mathematics of trees: what is found in them. No program.
-/
import Derived.Deep.QuietTactic
import Derived.BigQuiet
import Derived.Test.YtmbkaedhllfoeaaKVA
import Derived.Test.YtmbkaedhllfoeaaKVB
import Derived.Test.YtmbkaedhllfoeaaKVD
import Derived.Test.YtmbkaedhllfoeaaKVCH
set_option linter.unusedVariables false
namespace Go.Proofs.Ytmbkaedhllfoeaa
open Go.RowKit Go.Rst Go.Pg Go.Crc
def PR (w : World) (g : Nat) (P : List UInt8) : Prop := P.length = 252 ∧ Blk w g 5 (bvs P).toArray
theorem PR.lt {w : World} {g : Nat} {P : List UInt8} (h : PR w g P) : g < w.heap.size := h.2.lt
theorem PR.start {w : World} {lev n : UInt8} {Z : List Value} (hZ : Z = bvs (List.replicate 252 0)) :
  PR (w.alloc (.cells ((Z.toArray.setIfInBounds 0 (bv lev)).setIfInBounds 1 (bv n)) 5)) w.heap.size (pageA lev n [] []) := by
 subst hZ
 refine ⟨by rw [pageA_length (by simp)], ?_⟩
 have e2 : bvs (List.replicate 252 (0 : UInt8)) = bv 0 :: bv 0 :: bvs (List.replicate 250 0) := by
  rw [show (252 : Nat) = 250 + 1 + 1 from rfl, List.replicate_succ, List.replicate_succ]
  rfl
 have e : (((bvs (List.replicate 252 0)).toArray.setIfInBounds 0 (bv lev)).setIfInBounds 1 (bv n)) = (bvs (pageA lev n [] [])).toArray := by
  rw [pageA_nil, e2, List.setIfInBounds_toArray, List.setIfInBounds_toArray, List.set_cons_zero, List.set_cons_succ, List.set_cons_zero]
  rfl
 rw [e]
 exact heap_alloc_new w _
theorem PR.below {B : Nat} {w w' : World} {g : Nat} {P : List UInt8} (h : PR w g P) (hb : Below B w w') (hg : g < B) : PR w' g P := ⟨h.1, h.2.below hb hg⟩
theorem PR.rb {w : World} {g : Nat} {P : List UInt8} (h : PR w g P) : RB w (.slice (some ⟨g, 0, none⟩) 252 252) P := by
 refine ⟨_, 252, by rw [h.1], by rw [h.1]; decide, by decide, .inr ⟨g, 0, rfl, h.2.lt, fun j hj => ?_⟩⟩
 rw [Nat.zero_add, h.2.cell, bva_get hj]
theorem PR.set_ {w : World} {g : Nat} {P : List UInt8} (h : PR w g P) (k : Nat) (c : UInt8) : PR (w.setCell ⟨g, k, none⟩ (bv c)) g (P.set k c) := by
 refine ⟨by rw [List.length_set, h.1], ?_⟩
 have := h.2.set_ k (bv c)
 have e : (bvs P).toArray.setIfInBounds k (bv c) = (bvs (P.set k c)).toArray := by
  rw [List.setIfInBounds_toArray]
  unfold bvs
  rw [← List.map_set]
 rw [e] at this
 exact this
theorem PR.any {w : World} {g : Nat} {P : List UInt8} (h : PR w g P) {k : Nat} (hk : k < 252) : ∃ x : UInt8, w.cell? ⟨g, k, none⟩ = some (bv x) :=
 ⟨_, (h.2.cell k).trans (bva_get (by rw [h.1]; exact hk))⟩
end Go.Proofs.Ytmbkaedhllfoeaa
namespace Go.Pg
theorem ok_fit {lev : Int} (h0 : 0 ≤ lev) (h4 : lev ≤ 4) (rs : List Rw) : pageOk lev (rs.take (fitN rs)) = true := by
 have := fitN_fit rs
 unfold pageOk
 simp only [decide_eq_true_eq]
 exact ⟨h0, h4, this⟩
theorem chunk_end (f : Nat) {cs : List (List Rw)} (h : cs ≠ []) : chunkF f cs [] = some cs := by
 cases f with
 | zero => rfl
 | succ f => rw [chunkF, if_pos ⟨rfl, h⟩]
theorem chunk_none {f : Nat} {cs : List (List Rw)} {l : List Rw} (hl : l ≠ []) (h0 : fitN l = 0) : chunkF (f + 1) cs l = none := by
 rw [chunkF, if_neg (fun h => hl h.1), if_pos ⟨h0, hl⟩]
theorem chunk_more {f : Nat} {cs : List (List Rw)} {l : List Rw} (hl : l ≠ []) (h0 : 0 < fitN l) : chunkF (f + 1) cs l = chunkF f (cs ++ [l.take (fitN l)]) (l.drop (fitN l)) := by
 rw [chunkF, if_neg (fun h => hl h.1), if_neg (fun h => by omega)]
theorem chunk_first (f : Nat) : chunkF (f + 1) [] [] = some [[]] := by
 rw [chunkF, if_neg (fun h => h.2 rfl), if_neg (fun h => h.2 rfl)]
 exact chunk_end f (by simp)
end Go.Pg
namespace Go.Proofs.Ytmbkaedhllfoeaa
open Go.RowKit Go.Rst Go.Pg Go.Crc
def vlen (v : Value) : Nat := match v with
 | .slice _ n _ => n
 | _ => 0
def GivesLv (w : World) (r : Option (List (List UInt8) × List Rw)) (e : Ending) (w' : World) : Prop :=
 ∃ p a, e = .returned (.tuple #[p, a, .bool r.isSome]) ∧ OP 5 22 w' w.heap.size p ((r.map (·.1)).getD []) ∧ OR 5 47 w' w.heap.size a ((r.map (·.2)).getD []) ∧ Below w.heap.size w w'
theorem GivesLv.none_ {w w' : World} {r : Option (List (List UInt8) × List Rw)} (h : r = none) (hb : Below w.heap.size w w') : GivesLv w r (.returned (.tuple #[.slice none 0 0, .slice none 0 0, .bool false])) w' := by
 subst h
 exact ⟨_, _, rfl, OP.nil_ _ _ _ _, OR.nil_ _ _ _ _, hb⟩
theorem GivesLv.some_ {w w' : World} {r : Option (List (List UInt8) × List Rw)} {ps : List (List UInt8)} {rs : List Rw} {p a : Value} (h : r = some (ps, rs)) (hp : OP 5 22 w' w.heap.size p ps) (ha : OR 5 47 w' w.heap.size a rs) (hb : Below w.heap.size w w') :
  GivesLv w r (.returned (.tuple #[p, a, .bool true])) w' := by
 subst h
 exact ⟨_, _, rfl, hp, ha, hb⟩
theorem rr_drop {w : World} {b off m c : Nat} {rs : List Rw} (h : RR w (.slice (some ⟨b, off, none⟩) m c) rs) {k : Nat} (hk : k ≤ rs.length) : RR w (.slice (some ⟨b, off + k * 2, none⟩) (m - k) (c - k)) (rs.drop k) := by
 obtain ⟨A', c', he, h1, h2, h3⟩ := h
 injection he with e1 e2 e3
 subst e1
 subst e2
 subst e3
 refine ⟨some ⟨b, off + k * 2, none⟩, c - k, by rw [List.length_drop], by rw [List.length_drop]; omega, by omega, ?_⟩
 rcases h3 with rfl | ⟨b', off', he, hb, hc⟩
 ·exact .inl (by simp)
 ·injection he with he
  injection he with e1 e2 _
  subst e1
  subst e2
  refine .inr ⟨b, off + k * 2, rfl, hb, fun j hj => ?_⟩
  rw [List.length_drop] at hj
  have := hc (k + j) (by omega)
  rw [List.getElem_drop, show off + k * 2 + j * 2 = off + (k + j) * 2 from by omega]
  exact this
theorem rr_empty {w : World} (A : Option Addr) (c : Nat) (h : c ≤ maxLen) : RR w (.slice A 0 c) [] := ⟨A, c, rfl, Nat.zero_le _, h, .inl rfl⟩
end Go.Proofs.Ytmbkaedhllfoeaa
namespace Go.Pg
theorem build_step (f n : Nat) (all : List (List UInt8)) (l : List Rw) : buildF (f + 1) n all l = match levelL n all.length l with
  | none => none
  | some (p, a) => if p.length = 1 then some (all ++ p) else buildF f (n + 1) (all ++ p) a := by
 rw [buildF]
 rfl
end Go.Pg
namespace Go.Proofs.Ytmbkaedhllfoeaa
open Go.RowKit Go.Rst Go.Pg Go.Crc
def GivesBd (w : World) (r : Option (List (List UInt8))) (e : Ending) (w' : World) : Prop :=
 ∃ p, e = .returned (.tuple #[p, .bool r.isSome]) ∧ OP 5 22 w' w.heap.size p (r.getD []) ∧ Below w.heap.size w w'
theorem GivesBd.none_ {w w' : World} {r : Option (List (List UInt8))} (h : r = none) (hb : Below w.heap.size w w') : GivesBd w r (.returned (.tuple #[.slice none 0 0, .bool false])) w' := by
 subst h
 exact ⟨_, rfl, OP.nil_ _ _ _ _, hb⟩
theorem GivesBd.some_ {w w' : World} {r : Option (List (List UInt8))} {ps : List (List UInt8)} {p : Value} (h : r = some ps) (hp : OP 5 22 w' w.heap.size p ps) (hb : Below w.heap.size w w') :
  GivesBd w r (.returned (.tuple #[p, .bool true])) w' := by
 subst h
 exact ⟨_, rfl, hp, hb⟩
def Either (w wr : World) (v : Value) (rs : List Rw) : Prop := RR w v rs ∨ OR 5 47 wr w.heap.size v rs
theorem Either.rr {w wr : World} {v : Value} {rs : List Rw} (h : Either w wr v rs) (hb : Below w.heap.size w wr) : RR wr v rs := by
 rcases h with h | h
 ·exact rr_below h hb (Nat.le_refl _)
 ·exact h.rr
end Go.Proofs.Ytmbkaedhllfoeaa
namespace Go.Pg
open Go.Rst Go.Crc
def gsize (l : List Rw) : Nat := min (max (fitN l) 1) l.length
def groupsF : Nat → List Rw → List (List Rw)
 | 0, _ => []
 | f + 1, l => l.take (gsize l) :: (if l.length ≤ gsize l then [] else groupsF f (l.drop (gsize l)))
def groupsL (l : List Rw) : List (List Rw) := groupsF (l.length + 1) l
theorem gsize_le (l : List Rw) : gsize l ≤ l.length := Nat.min_le_right _ _
theorem gsize_pos {l : List Rw} (h : l ≠ []) : 0 < gsize l := by
 have := List.length_pos_iff.2 h
 unfold gsize
 omega
theorem groupsF_more : ∀ (f g : Nat) (l : List Rw), l.length < f → f ≤ g → groupsF g l = groupsF f l
 | 0, _, _, h, _ => by omega
 | f + 1, 0, _, _, h => by omega
 | f + 1, g + 1, l, h, hg => by
  unfold groupsF
  split
  ·rfl
  ·rename_i hl
   have h1 := gsize_le l
   have h2 : 0 < gsize l := gsize_pos (fun e => by subst e; simp at hl)
   rw [groupsF_more f g (l.drop (gsize l)) (by rw [List.length_drop]; omega) (by omega)]
theorem groupsL_end {l : List Rw} (h : l.length ≤ gsize l) : groupsL l = [l.take (gsize l)] := by
 unfold groupsL groupsF
 rw [if_pos h]
theorem groupsL_more {l : List Rw} (h : ¬ l.length ≤ gsize l) : groupsL l = l.take (gsize l) :: groupsL (l.drop (gsize l)) := by
 have h1 := gsize_le l
 have h2 : 0 < gsize l := gsize_pos (fun e => by subst e; simp at h)
 unfold groupsL
 rw [groupsF, if_neg h, groupsF_more ((l.drop (gsize l)).length + 1) l.length (l.drop (gsize l)) (by omega) (by rw [List.length_drop]; omega)]
theorem groupsF_len : ∀ (f : Nat) (l : List Rw), (groupsF f l).length ≤ f
 | 0, _ => Nat.le_refl _
 | f + 1, l => by
  unfold groupsF
  split
  ·simp
  ·have := groupsF_len f (l.drop (gsize l))
   simp only [List.length_cons]
   omega
theorem groupsL_len (l : List Rw) : (groupsL l).length ≤ l.length + 1 := groupsF_len _ _
theorem ok_none {lev : Int} {l : List Rw} (hl : l ≠ []) (h0 : fitN l = 0) : pageOk lev (l.take 1) = false := by
 have h1 := fitN_take l 1
 rw [h0] at h1
 have h2 := List.length_pos_iff.2 hl
 unfold pageOk
 rw [decide_eq_false_iff_not]
 rintro ⟨_, _, h⟩
 rw [h1, List.length_take] at h
 omega
theorem chunk_groups {lev : Int} (h0 : 0 ≤ lev) (h4 : lev ≤ 4) : ∀ (f : Nat) (cs : List (List Rw)) (l : List Rw), l.length < f → (cs = [] ∨ l ≠ []) →
  chunkF f cs l = if (groupsL l).all (pageOk lev) then some (cs ++ groupsL l) else none
 | 0, _, _, h, _ => by omega
 | f + 1, cs, l, h, hc => by
  by_cases hl : l = []
  ·subst hl
   have hcs : cs = [] := by
    rcases hc with hc | hc
    ·exact hc
    ·exact (hc rfl).elim
   subst hcs
   have hok : pageOk lev [] = true := by have := ok_fit h0 h4 []; simpa using this
   rw [chunk_first, groupsL_end (by simp)]
   simp [hok]
  ·have hlp := List.length_pos_iff.2 hl
   by_cases hf : fitN l = 0
   ·rw [chunk_none hl hf]
    have hg : gsize l = 1 := by unfold gsize; omega
    have hno : (groupsL l).all (pageOk lev) = false := by
     by_cases he : l.length ≤ gsize l
     ·rw [groupsL_end he, hg]; simp [ok_none hl hf]
     ·rw [groupsL_more he, hg]; simp [ok_none hl hf]
    rw [hno]
    rfl
   ·have hfp : 0 < fitN l := by omega
    have hfl := fitN_le l
    have hg : gsize l = fitN l := by unfold gsize; omega
    rw [chunk_more hl hfp]
    have hok := ok_fit h0 h4 l
    by_cases he : l.length ≤ gsize l
    ·rw [groupsL_end he, hg, List.drop_eq_nil_of_le (by omega), chunk_end _ (by simp)]
     simp [hok]
    ·rw [groupsL_more he, hg, chunk_groups h0 h4 f _ (l.drop (fitN l)) (by rw [List.length_drop]; omega) (.inr (by
      intro e
      have := congrArg List.length e
      rw [List.length_drop, List.length_nil] at this
      omega))]
     simp [hok]
theorem level_groups {n : Nat} (hn : n ≤ 4) (from_ : Nat) (l : List Rw) :
  levelL n from_ l = if (groupsL l).all (pageOk n) then some (pagesF n (groupsL l), aboveF from_ (groupsL l)) else none := by
 unfold levelL chunks
 rw [chunk_groups (lev := (n : Int)) (by omega) (by omega) _ _ _ (Nat.lt_succ_self _) (.inl rfl)]
 split <;> simp
theorem groupsF_ne : ∀ (f : Nat) (l : List Rw), l ≠ [] → ∀ c ∈ groupsF f l, c ≠ []
 | 0, _, _, c, h => by cases h
 | f + 1, l, hl, c, h => by
  have h1 := gsize_pos hl
  have h2 := List.length_pos_iff.2 hl
  unfold groupsF at h
  rcases List.mem_cons.1 h with rfl | h
  ·intro e
   have := congrArg List.length e
   rw [List.length_take, List.length_nil] at this
   omega
  ·split at h
   ·cases h
   ·rename_i hn
    refine groupsF_ne f _ (fun e => ?_) c h
    have := congrArg List.length e
    rw [List.length_drop, List.length_nil] at this
    omega
theorem groups_ne {l : List Rw} (hl : l ≠ []) : ∀ c ∈ groupsL l, c ≠ [] := groupsF_ne _ l hl
theorem groups_nil : groupsL [] = [[]] := rfl
theorem groups_pos (l : List Rw) : 1 ≤ (groupsL l).length := by unfold groupsL groupsF; simp
end Go.Pg
namespace Go.Pg
open Go.Rst Go.Crc
def rowsFT : List (List UInt8) → List Rw → List Rw × Nat
 | [], acc => (acc, 0)
 | p :: ps, acc => if (decR p).2.2 ≠ 0 then ([], (decR p).2.2) else rowsFT ps (if (decR p).1 = 0 ∧ acc.length ≤ 5000 then acc ++ (decR p).2.1 else acc)
def rowsT (ps : List (List UInt8)) : List Rw × Nat :=
 if (rowsFT ps []).2 ≠ 0 then ([], (rowsFT ps []).2) else if buildL (rowsFT ps []).1 = some ps then ((rowsFT ps []).1, 0) else ([], 11)
theorem decR_len (p : List UInt8) : (decR p).2.1.length ≤ 250 := by
 have hf : ∀ l : List Rw, pageOk ((p.getD 0 0).toNat : Int) l = true → l.length ≤ 250 := by
  intro l h
  unfold pageOk at h
  simp only [decide_eq_true_eq] at h
  have hx : ∀ (rs : List Rw) (left : Nat), fitF rs left ≤ left := by
   intro rs
   induction rs with
   | nil => intro left; exact Nat.zero_le _
   | cons r rs ih =>
    intro left
    unfold fitF
    have h1 := ih (left - rsz r)
    have h2 : 1 ≤ rsz r := by unfold rsz; omega
    split
    ·omega
    ·split
     ·omega
     ·omega
  have := hx l 250
  unfold fitN at h
  omega
 unfold decR
 split
 ·simp
 ·split
  ·simp
  ·split
   ·simp
   ·split
    ·rename_i h; exact hf _ h.1
    ·simp
end Go.Pg
