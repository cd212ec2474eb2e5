/-
  Plain mathematics of trees: the groups in which the program tells rows. No program.
-/
import Derived.Test.YtbacdeogggcbfaaRefBuild
namespace Go.Pg
open Go.Rst Go.Crc
def gsize (l : List Rw) : Nat := min (max (fitN l) 1) l.length
def groupsF : Nat → List Rw → List (List Rw)
  | 0, _ => []
  | f + 1, l => l.take (gsize l) :: (if l.length ≤ gsize l then [] else groupsF f (l.drop (gsize l)))
def groupsL (l : List Rw) : List (List Rw) := groupsF (l.length + 1) l
theorem gsize_le (l : List Rw) : gsize l ≤ l.length := Nat.min_le_right _ _
theorem gsize_pos {l : List Rw} (h : l ≠ []) : 0 < gsize l := by
  have := List.length_pos_iff.2 h
  unfold gsize
  omega
theorem groupsF_more : ∀ (f g : Nat) (l : List Rw), l.length < f → f ≤ g → groupsF g l = groupsF f l
  | 0, _, _, h, _ => by omega
  | f + 1, 0, _, _, h => by omega
  | f + 1, g + 1, l, h, hg => by
    unfold groupsF
    split
    · rfl
    · rename_i hl
      have h1 := gsize_le l
      have h2 : 0 < gsize l := gsize_pos (fun e => by subst e; simp at hl)
      rw [groupsF_more f g (l.drop (gsize l)) (by rw [List.length_drop]; omega) (by omega)]
theorem groupsL_end {l : List Rw} (h : l.length ≤ gsize l) : groupsL l = [l.take (gsize l)] := by
  unfold groupsL groupsF
  rw [if_pos h]
theorem groupsL_more {l : List Rw} (h : ¬ l.length ≤ gsize l) : groupsL l = l.take (gsize l) :: groupsL (l.drop (gsize l)) := by
  have h1 := gsize_le l
  have h2 : 0 < gsize l := gsize_pos (fun e => by subst e; simp at h)
  unfold groupsL
  rw [groupsF, if_neg h, groupsF_more ((l.drop (gsize l)).length + 1) l.length (l.drop (gsize l)) (by omega) (by rw [List.length_drop]; omega)]
theorem groupsF_len : ∀ (f : Nat) (l : List Rw), (groupsF f l).length ≤ f
  | 0, _ => Nat.le_refl _
  | f + 1, l => by
    unfold groupsF
    split
    · simp
    · have := groupsF_len f (l.drop (gsize l))
      simp only [List.length_cons]
      omega
theorem groupsL_len (l : List Rw) : (groupsL l).length ≤ l.length + 1 := groupsF_len _ _
theorem ok_none {lev : Int} {l : List Rw} (hl : l ≠ []) (h0 : fitN l = 0) : pageOk lev (l.take 1) = false := by
  have h1 := fitN_take l 1
  rw [h0] at h1
  have h2 := List.length_pos_iff.2 hl
  unfold pageOk
  rw [decide_eq_false_iff_not]
  rintro ⟨_, _, h⟩
  rw [h1, List.length_take] at h
  omega
theorem chunk_groups {lev : Int} (h0 : 0 ≤ lev) (h4 : lev ≤ 4) : ∀ (f : Nat) (cs : List (List Rw)) (l : List Rw), l.length < f → (cs = [] ∨ l ≠ []) →
    chunkF f cs l = if (groupsL l).all (pageOk lev) then some (cs ++ groupsL l) else none
  | 0, _, _, h, _ => by omega
  | f + 1, cs, l, h, hc => by
    by_cases hl : l = []
    · subst hl
      have hcs : cs = [] := by
        rcases hc with hc | hc
        · exact hc
        · exact (hc rfl).elim
      subst hcs
      have hok : pageOk lev [] = true := by have := ok_fit h0 h4 []; simpa using this
      rw [chunk_first, groupsL_end (by simp)]
      simp [hok]
    · have hlp := List.length_pos_iff.2 hl
      by_cases hf : fitN l = 0
      · rw [chunk_none hl hf]
        have hg : gsize l = 1 := by unfold gsize; omega
        have hno : (groupsL l).all (pageOk lev) = false := by
          by_cases he : l.length ≤ gsize l
          · rw [groupsL_end he, hg]; simp [ok_none hl hf]
          · rw [groupsL_more he, hg]; simp [ok_none hl hf]
        rw [hno]
        rfl
      · have hfp : 0 < fitN l := by omega
        have hfl := fitN_le l
        have hg : gsize l = fitN l := by unfold gsize; omega
        rw [chunk_more hl hfp]
        have hok := ok_fit h0 h4 l
        by_cases he : l.length ≤ gsize l
        · rw [groupsL_end he, hg, List.drop_eq_nil_of_le (by omega), chunk_end _ (by simp)]
          simp [hok]
        · rw [groupsL_more he, hg, chunk_groups h0 h4 f _ (l.drop (fitN l)) (by rw [List.length_drop]; omega) (.inr (by
            intro e
            have := congrArg List.length e
            rw [List.length_drop, List.length_nil] at this
            omega))]
          simp [hok]
/-- A level, as groups tell it. -/
theorem level_groups {n : Nat} (hn : n ≤ 4) (from_ : Nat) (l : List Rw) :
    levelL n from_ l = if (groupsL l).all (pageOk n) then some (pagesF n (groupsL l), aboveF from_ (groupsL l)) else none := by
  unfold levelL chunks
  rw [chunk_groups (lev := (n : Int)) (by omega) (by omega) _ _ _ (Nat.lt_succ_self _) (.inl rfl)]
  split <;> simp
theorem groupsF_ne : ∀ (f : Nat) (l : List Rw), l ≠ [] → ∀ c ∈ groupsF f l, c ≠ []
  | 0, _, _, c, h => by cases h
  | f + 1, l, hl, c, h => by
    have h1 := gsize_pos hl
    have h2 := List.length_pos_iff.2 hl
    unfold groupsF at h
    rcases List.mem_cons.1 h with rfl | h
    · intro e
      have := congrArg List.length e
      rw [List.length_take, List.length_nil] at this
      omega
    · split at h
      · cases h
      · rename_i hn
        refine groupsF_ne f _ (fun e => ?_) c h
        have := congrArg List.length e
        rw [List.length_drop, List.length_nil] at this
        omega
theorem groups_ne {l : List Rw} (hl : l ≠ []) : ∀ c ∈ groupsL l, c ≠ [] := groupsF_ne _ l hl
theorem groups_nil : groupsL [] = [[]] := rfl
theorem groups_pos (l : List Rw) : 1 ≤ (groupsL l).length := by unfold groupsL groupsF; simp
end Go.Pg
