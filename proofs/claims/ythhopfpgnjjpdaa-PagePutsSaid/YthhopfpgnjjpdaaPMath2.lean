/-
  Plain mathematics of pages: the way back, by slots, told twice. No program.
-/
import Derived.Test.YthhopfpgnjjpdaaPMath
namespace Go.Pg
open Go.Rst Go.Crc
set_option linter.unusedSectionVars false

theorem body_split (m : Nat) (rs : List Rw) : body rs = body (rs.drop m) ++ body (rs.take m) := by
  induction m generalizing rs with
  | zero => simp [body]
  | succ m ih =>
    cases rs with
    | nil => simp [body]
    | cons r rs => rw [List.drop_succ_cons, List.take_succ_cons, body, body, ih rs, List.append_assoc]
theorem body_len (m : Nat) (rs : List Rw) : (body (rs.take m)).length ≤ (body rs).length := by
  rw [body_split m rs, List.length_append]; omega
theorem pageA_drop {lev n : UInt8} {ss x bd : List UInt8} (h : ss.length + (x.length + bd.length) ≤ 250) : (pageA lev n ss (x ++ bd)).drop (252 - bd.length) = bd := by
  have hl : (pageA lev n ss (x ++ bd)).length = 252 := pageA_length (by rw [List.length_append]; exact h)
  have e : pageA lev n ss (x ++ bd) = (lev :: n :: (ss ++ (List.replicate (250 - ss.length - (x ++ bd).length) 0 ++ x))) ++ bd := by
    unfold pageA
    simp only [List.cons_append, List.append_assoc]
  have h1 := congrArg List.length e
  rw [hl, List.length_append] at h1
  rw [e, show 252 - bd.length = (lev :: n :: (ss ++ (List.replicate (250 - ss.length - (x ++ bd).length) 0 ++ x))).length from by omega, List.drop_left]
theorem pageB_length {lev : Nat} {rs : List Rw} (h : used rs ≤ 250) : (pageB lev rs).length = 252 := pageA_length (by rw [slots_length]; exact h)
theorem pageB_drop {lev : Nat} {rs : List Rw} (h : used rs ≤ 250) (m : Nat) : (pageB lev rs).drop (252 - (body (rs.take m)).length) = body (rs.take m) := by
  unfold pageB
  rw [body_split m rs]
  apply pageA_drop
  have h1 := body_split m rs
  have h2 := congrArg List.length h1
  rw [List.length_append] at h2
  unfold used at h
  rw [slots_length]
  omega
theorem slot_val {rs : List Rw} (_h : used rs ≤ 250) (m : Nat) : (slot (rs.take m)).toNat = 252 - (body (rs.take m)).length := by
  unfold slot
  rw [UInt8.toNat_ofNat']
  omega
theorem getD_append {l m : List UInt8} {i : Nat} (h : i < l.length) : (l ++ m).getD i 0 = l.getD i 0 := by
  rw [List.getD_eq_getElem?_getD, List.getD_eq_getElem?_getD, List.getElem?_append_left h]
theorem pageB_slot {lev : Nat} {rs : List Rw} {i : Nat} (hi : i < rs.length) : (pageB lev rs).getD (2 + i) 0 = slot (rs.take (i + 1)) := by
  unfold pageB pageA
  rw [show 2 + i = i + 1 + 1 from by omega, List.getD_cons_succ, List.getD_cons_succ, getD_append (by rw [slots_length]; exact hi), List.getD_eq_getElem?_getD]
  unfold slots
  simp [hi]

/-- The row at a place. -/
def slotRow (b : List UInt8) (s : Nat) : Option Rw :=
  if (getText b s 30).2.2 ≠ 0 then none else
  if (getText b (getText b s 30).2.1 150).2.2 ≠ 0 then none else some (⟨(getText b s 30).1.toArray⟩, (getText b (getText b s 30).2.1 150).1)
def slotsF (b : List UInt8) : Nat → Nat → List Rw → Option (List Rw)
  | 0, _, acc => some acc
  | f + 1, i, acc => match slotRow b (b.getD (2 + i) 0).toNat with
    | none => none
    | some r => slotsF b f (i + 1) (acc ++ [r])
def slotted (b : List UInt8) : Option (List Rw) := if 250 < (b.getD 1 0).toNat then none else slotsF b (b.getD 1 0).toNat 0 []
/-- The row that ends at a place, and where it begins. -/
def refRow (b : List UInt8) (i e : Nat) : Option (Rw × Nat) :=
  if e ≤ 2 + i then none else if e ≤ (b.getD (2 + i) 0).toNat then none else
  if (getText (b.take e) (b.getD (2 + i) 0).toNat 30).2.2 ≠ 0 then none else
  if (getText (b.take e) (getText (b.take e) (b.getD (2 + i) 0).toNat 30).2.1 150).2.2 = 0 ∧ (getText (b.take e) (getText (b.take e) (b.getD (2 + i) 0).toNat 30).2.1 150).2.1 = e
  then some ((⟨(getText (b.take e) (b.getD (2 + i) 0).toNat 30).1.toArray⟩, (getText (b.take e) (getText (b.take e) (b.getD (2 + i) 0).toNat 30).2.1 150).1), (b.getD (2 + i) 0).toNat) else none
def refG (b : List UInt8) : Nat → Nat → Nat → List Rw → Option (List Rw)
  | 0, _, _, acc => some acc
  | f + 1, i, e, acc => match refRow b i e with
    | none => none
    | some (r, s) => refG b f (i + 1) s (acc ++ [r])
def refRows (b : List UInt8) : Option (List Rw) := refG b (b.getD 1 0).toNat 0 252 []

/-- Is there a page of these rows? -/
def pageOk (lev : Int) (rs : List Rw) : Bool := decide (0 ≤ lev ∧ lev ≤ 4 ∧ fitN rs = rs.length)
def encL (lev : Int) (rs : List Rw) : List UInt8 := if pageOk lev rs then sealL (pageB lev.toNat rs) else []
def decR (b : List UInt8) : Nat × List Rw × Nat :=
  if b.length ≠ 256 then (0, [], 11) else if rightL b = false then (0, [], 12) else match slotted b with
  | none => (0, [], 11)
  | some l => if pageOk ((b.getD 0 0).toNat : Int) l = true ∧ encL ((b.getD 0 0).toNat : Int) l = b then ((b.getD 0 0).toNat, l, 0) else (0, [], 11)
def refDec (b : List UInt8) : Nat × List Rw × Nat :=
  if b.length ≠ 256 then (0, [], 11) else if rightL b = false then (0, [], 12) else match refRows b with
  | none => (0, [], 11)
  | some l => if pageOk ((b.getD 0 0).toNat : Int) l = true ∧ encL ((b.getD 0 0).toNat : Int) l = b then ((b.getD 0 0).toNat, l, 0) else (0, [], 11)

section
variable {lev : Nat} {rs : List Rw} (hu : used rs ≤ 250) (hr : ∀ r ∈ rs, r.1.size ≤ 30 ∧ r.2.length ≤ 150)
include hu hr
theorem row_at {i : Nat} (hi : i < rs.length) {L post : List UInt8} {q : Nat} (h : L.drop q = rowB rs[i] ++ post) :
    (getText L (q : Int) 30) = (rs[i].1.data.toList, ((q + (textL rs[i].1.data.toList).length : Nat) : Int), 0) ∧
    (getText L ((q + (textL rs[i].1.data.toList).length : Nat) : Int) 150) = (rs[i].2, ((q + (rowB rs[i]).length : Nat) : Int), 0) := by
  have h1 := hr rs[i] (List.getElem_mem hi)
  have hs : rs[i].1.data.toList.length = rs[i].1.size := by rw [Array.length_toList]; rfl
  have h2 : L.drop q = textL rs[i].1.data.toList ++ (textL rs[i].2 ++ post) := by rw [h]; unfold rowB rowL; rw [List.append_assoc]
  have e1 := getText_back h2 (by omega) 30
  rw [if_neg (by omega)] at e1
  have h3 : L.drop (q + (textL rs[i].1.data.toList).length) = textL rs[i].2 ++ post := by rw [← List.drop_drop, h2, List.drop_left]
  have e2 := getText_back h3 (by omega) 150
  rw [if_neg (by omega)] at e2
  refine ⟨e1, ?_⟩
  rw [e2]
  unfold rowB rowL
  rw [List.length_append, Nat.add_assoc]
theorem page_row (i : Nat) (hi : i < rs.length) : slotRow (sealL (pageB lev rs)) (slot (rs.take (i + 1))).toNat = some rs[i] := by
  have hd := pageB_drop (lev := lev) hu (i + 1)
  have hl := pageB_length (lev := lev) hu
  rw [slot_val hu]
  have hb := body_len (i + 1) rs
  have hd2 : (sealL (pageB lev rs)).drop (252 - (body (rs.take (i + 1))).length) = rowB rs[i] ++ (body (rs.take i) ++ tailL (csum (pageB lev rs))) := by
    unfold sealL
    rw [List.drop_append_of_le_length (by rw [hl]; omega), hd, body_take hi, List.append_assoc]
  obtain ⟨e1, e2⟩ := row_at hu hr hi hd2
  unfold slotRow
  rw [e1]
  simp only [ne_eq, not_true_eq_false, if_false]
  rw [e2]
  simp
theorem page_refRow (i : Nat) (hi : i < rs.length) : refRow (sealL (pageB lev rs)) i (252 - (body (rs.take i)).length) = some (rs[i], 252 - (body (rs.take (i + 1))).length) := by
  have hd := pageB_drop (lev := lev) hu (i + 1)
  have hl := pageB_length (lev := lev) hu
  have hb := body_len (i + 1) rs
  have hbt := congrArg List.length (body_take hi)
  rw [List.length_append] at hbt
  have hp := rowB_pos rs[i]
  have hu2 : rs.length + (body rs).length ≤ 250 := hu
  have hs : ((sealL (pageB lev rs)).getD (2 + i) 0).toNat = 252 - (body (rs.take (i + 1))).length := by
    unfold sealL
    rw [getD_append (by rw [hl]; omega), pageB_slot hi, slot_val hu]
  have hd2 : ((sealL (pageB lev rs)).take (252 - (body (rs.take i)).length)).drop (252 - (body (rs.take (i + 1))).length) = rowB rs[i] ++ [] := by
    unfold sealL
    rw [List.take_append_of_le_length (by rw [hl]; omega), List.drop_take, hd, body_take hi, List.append_nil]
    rw [show 252 - (body (rs.take i)).length - (252 - (rowB rs[i] ++ body (rs.take i)).length) = (rowB rs[i]).length from by rw [List.length_append]; omega, List.take_left]
  obtain ⟨e1, e2⟩ := row_at hu hr hi hd2
  unfold refRow
  rw [hs, if_neg (by omega), if_neg (by omega), e1]
  simp only [ne_eq, not_true_eq_false, if_false]
  rw [e2]
  simp only [true_and]
  rw [if_pos (by omega)]
theorem page_slots : ∀ (f i : Nat) (acc : List Rw), f + i = rs.length → acc = rs.take i → slotsF (sealL (pageB lev rs)) f i acc = some rs
  | 0, i, acc, h, ha => by
    rw [slotsF, ha, List.take_of_length_le (by omega)]
  | f + 1, i, acc, h, ha => by
    have hi : i < rs.length := by omega
    have hl := pageB_length (lev := lev) hu
    have hu2 : rs.length + (body rs).length ≤ 250 := hu
    have hs : (sealL (pageB lev rs)).getD (2 + i) 0 = slot (rs.take (i + 1)) := by
      unfold sealL
      rw [getD_append (by rw [hl]; omega), pageB_slot hi]
    rw [slotsF, hs, page_row hu hr i hi]
    exact page_slots f (i + 1) _ (by omega) (by rw [ha, List.take_succ_eq_append_getElem hi])
theorem page_refs : ∀ (f i : Nat) (acc : List Rw), f + i = rs.length → acc = rs.take i → refG (sealL (pageB lev rs)) f i (252 - (body (rs.take i)).length) acc = some rs
  | 0, i, acc, h, ha => by
    rw [refG, ha, List.take_of_length_le (by omega)]
  | f + 1, i, acc, h, ha => by
    have hi : i < rs.length := by omega
    rw [refG, page_refRow hu hr i hi]
    exact page_refs f (i + 1) _ (by omega) (by rw [ha, List.take_succ_eq_append_getElem hi])
theorem page_count : ((sealL (pageB lev rs)).getD 1 0).toNat = rs.length := by
  have hu2 : rs.length + (body rs).length ≤ 250 := hu
  unfold sealL pageB pageA
  simp only [List.cons_append, List.getD_cons_succ, List.getD_cons_zero, UInt8.toNat_ofNat']
  omega
end
theorem page_level (lev : Nat) (h : lev ≤ 4) (rs : List Rw) : ((sealL (pageB lev rs)).getD 0 0).toNat = lev := by
  unfold sealL pageB pageA
  simp only [List.cons_append, List.getD_cons_zero, UInt8.toNat_ofNat']
  omega
theorem slotted_back {lev : Nat} {rs : List Rw} (hf : fitN rs = rs.length) : slotted (sealL (pageB lev rs)) = some rs := by
  obtain ⟨hu, hr⟩ := (fitN_all rs).1 hf
  have hu2 : rs.length + (body rs).length ≤ 250 := hu
  unfold slotted
  rw [page_count hu hr, if_neg (by omega)]
  exact page_slots hu hr _ 0 [] (by omega) rfl
theorem refRows_back {lev : Nat} {rs : List Rw} (hf : fitN rs = rs.length) : refRows (sealL (pageB lev rs)) = some rs := by
  obtain ⟨hu, hr⟩ := (fitN_all rs).1 hf
  unfold refRows
  rw [page_count hu hr]
  have := page_refs (lev := lev) hu hr rs.length 0 [] (by omega) rfl
  simpa [body] using this
theorem encL_length {lev : Int} {rs : List Rw} (h : pageOk lev rs = true) : (encL lev rs).length = 256 := by
  unfold encL
  rw [if_pos h]
  unfold pageOk at h
  simp only [decide_eq_true_eq] at h
  have := pageB_length (lev := lev.toNat) ((fitN_all rs).1 h.2.2).1
  unfold sealL tailL
  rw [List.length_append, this]
  rfl
theorem right_seal (l : List UInt8) : rightL (sealL l) = true := rightL_seal l
/-- There and back. -/
theorem dec_enc {lev : Int} {rs : List Rw} (h : pageOk lev rs = true) : decR (encL lev rs) = (lev.toNat, rs, 0) := by
  have hl := encL_length h
  have he : encL lev rs = sealL (pageB lev.toNat rs) := by unfold encL; rw [if_pos h]
  have h' := h
  unfold pageOk at h'
  simp only [decide_eq_true_eq] at h'
  have hlev := page_level lev.toNat (by omega) rs
  have hb := slotted_back (lev := lev.toNat) h'.2.2
  have hi : ((lev.toNat : Nat) : Int) = lev := by omega
  rw [← he] at hlev hb
  unfold decR
  rw [if_neg (by simp [hl]), hb, hlev, he, right_seal]
  simp only [Bool.true_eq_false, if_false]
  rw [hi, if_pos ⟨h, by rw [he]⟩]
theorem dec_same (b : List UInt8) : decR b = refDec b := by
  unfold decR refDec
  by_cases h1 : b.length ≠ 256
  · rw [if_pos h1, if_pos h1]
  · rw [if_neg h1, if_neg h1]
    by_cases h2 : rightL b = false
    · rw [if_pos h2, if_pos h2]
    · rw [if_neg h2, if_neg h2]
      have key : ∀ l, (pageOk ((b.getD 0 0).toNat : Int) l = true ∧ encL ((b.getD 0 0).toNat : Int) l = b) → slotted b = some l ∧ refRows b = some l := by
        intro l ⟨h, he⟩
        have h' := h
        unfold pageOk at h'
        simp only [decide_eq_true_eq] at h'
        have he' : sealL (pageB (b.getD 0 0).toNat l) = b := by
          have e := he
          unfold encL at e
          rw [if_pos h, Int.toNat_natCast] at e
          exact e
        have a1 := slotted_back (lev := (b.getD 0 0).toNat) h'.2.2
        have a2 := refRows_back (lev := (b.getD 0 0).toNat) h'.2.2
        rw [he'] at a1 a2
        exact ⟨a1, a2⟩
      cases hs : slotted b with
      | none =>
        cases hr : refRows b with
        | none => rfl
        | some l =>
          simp only []
          by_cases hk : pageOk ((b.getD 0 0).toNat : Int) l = true ∧ encL ((b.getD 0 0).toNat : Int) l = b
          · have := (key l hk).1; rw [hs] at this; cases this
          · rw [if_neg hk]
      | some l =>
        simp only []
        by_cases hk : pageOk ((b.getD 0 0).toNat : Int) l = true ∧ encL ((b.getD 0 0).toNat : Int) l = b
        · have := (key l hk).2
          rw [if_pos hk, this]
          simp only []
          rw [if_pos hk]
        · rw [if_neg hk]
          cases hr : refRows b with
          | none => rfl
          | some m =>
            simp only []
            by_cases hm : pageOk ((b.getD 0 0).toNat : Int) m = true ∧ encL ((b.getD 0 0).toNat : Int) m = b
            · have := (key m hm).1
              rw [hs] at this
              injection this with this
              subst this
              exact (hk hm).elim
            · rw [if_neg hm]
end Go.Pg
