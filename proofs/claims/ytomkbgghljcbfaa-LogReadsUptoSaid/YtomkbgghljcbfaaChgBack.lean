/-
  Plain mathematics: the bytes of changes are read as these changes. No program.
-/
import Derived.Test.YtomkbgghljcbfaaGBack
import Derived.Test.YtomkbgghljcbfaaGCl
import Derived.Test.YtomkbgghljcbfaaGKnown
namespace Go.Proofs.Ytomkbgghljcbfaa
open Go.RowKit Go.Rst
theorem drop_first {l t : List UInt8} {p : Nat} {b : UInt8} (h : l.drop p = b :: t) : p < l.length ∧ l.getD p 0 = b := by
  have hp : p < l.length := by
    rcases Nat.lt_or_ge p l.length with hp | hp
    · exact hp
    · rw [List.drop_eq_nil_of_le hp] at h; cases h
  refine ⟨hp, ?_⟩
  rw [List.drop_eq_getElem_cons hp] at h
  injection h with h1 _
  simp [List.getD, List.getElem?_eq_getElem hp, h1]
theorem getChange_back {l post : List UInt8} {k : ByteArray} {v : List UInt8} {g : Bool} {q : Nat} (h : l.drop q = chgL (k, v, g) ++ post) (hk : k.data.toList.length ≤ 30) (hv : v.length ≤ 150) (hg : g = true → v = []) :
    getChange l (q : Int) = (k.data.toList, v, g, ((q + (chgL (k, v, g)).length : Nat) : Int), 0) := by
  have e : chgL (k, v, g) = textL k.data.toList ++ if g then [1] else 0 :: textL v := rfl
  rw [e, List.append_assoc] at h
  have h1 := getText_back h (by omega) 30
  rw [if_neg (by omega)] at h1
  have h2 : l.drop (q + (textL k.data.toList).length) = (if g then [1] else 0 :: textL v) ++ post := by rw [← List.drop_drop, h, List.drop_left]
  generalize hP : q + (textL k.data.toList).length = P at *
  cases g with
  | true =>
    obtain rfl := hg rfl
    rw [if_pos rfl, List.cons_append] at h2
    obtain ⟨hp, hb⟩ := drop_first h2
    unfold getChange
    rw [h1]
    simp only [ne_eq, not_true_eq_false, if_false, Int.toNat_natCast]
    rw [if_neg (by omega), hb, if_pos rfl, e]
    simp only [if_true, List.length_append, List.length_singleton]
    congr 4
    omega
  | false =>
    rw [if_neg (by decide), List.cons_append] at h2
    obtain ⟨hp, hb⟩ := drop_first h2
    have h3 : l.drop (P + 1) = textL v ++ post := by rw [← List.drop_drop, h2]; rfl
    have h4 := getText_back h3 (by omega) 150
    rw [if_neg (by omega)] at h4
    have ei : ((P : Nat) : Int) + 1 = ((P + 1 : Nat) : Int) := by omega
    unfold getChange
    rw [h1]
    simp only [ne_eq, not_true_eq_false, if_false, Int.toNat_natCast, ei]
    rw [if_neg (by omega), hb, if_neg (by decide), if_neg (by decide), h4, e]
    simp only [not_true_eq_false, if_false, Bool.false_eq_true, List.length_append, List.length_cons]
    congr 4
    omega
/-- Changes that are written and read back. -/
def ShortC (cs : List Chg) : Prop := ∀ c ∈ cs, c.1.data.toList.length ≤ 30 ∧ c.2.1.length ≤ 150 ∧ (c.2.2 = true → c.2.1 = [])
theorem chgsF_back (l : List UInt8) : ∀ (cs : List Chg) (q : Nat) (acc : List Chg), l.drop q = chgsB cs → ShortC cs → chgsF l cs.length (q : Int) acc = (acc ++ cs, 0)
  | [], q, acc, h, _ => by
    have h0 : l.length ≤ q := by simpa [chgsB] using h
    rw [List.length_nil, chgsF, if_neg (by omega), List.append_nil]
  | (k, v, g) :: cs, q, acc, h, hs => by
    have e : chgsB ((k, v, g) :: cs) = chgL (k, v, g) ++ chgsB cs := by unfold chgsB; rw [List.flatMap_cons]
    rw [e] at h
    obtain ⟨a1, a2, a3⟩ := hs _ (List.mem_cons_self ..)
    have hg := getChange_back h a1 a2 a3
    rw [List.length_cons, chgsF, hg]
    simp only [ne_eq, not_true_eq_false, if_false]
    have h2 : l.drop (q + (chgL (k, v, g)).length) = chgsB cs := by rw [← List.drop_drop, h, List.drop_left]
    rw [chgsF_back l cs _ _ h2 (fun x hx => hs x (List.mem_cons_of_mem _ hx)), ba_eq]
    simp
theorem readChgs_back (cs : List Chg) (hn : cs.length ≤ 5000) (hs : ShortC cs) : readChgs (chgsL cs) = (cs, 0) := by
  have hg : getNum (chgsL cs) 0 = _ := getNum_back (q := 0) (n := cs.length) (L := chgsL cs) (post := chgsB cs) rfl (by omega)
  unfold readChgs
  rw [hg]
  simp only [ne_eq, not_true_eq_false, if_false]
  rw [if_neg (by omega), Int.toNat_natCast, chgsF_back _ cs _ _ (by rw [Nat.zero_add]; unfold chgsL; rw [List.drop_left]) hs, List.nil_append]
theorem madeC_short (l : List UInt8) (k : Nat) : ShortC ((rowsAt l k).map chgOf) := by
  intro c hc
  obtain ⟨r, hr, rfl⟩ := List.mem_map.1 hc
  obtain ⟨h1, h2⟩ := rowsAt_short l k r hr
  unfold chgOf
  split
  · exact ⟨h1, Nat.zero_le _, fun _ => rfl⟩
  · exact ⟨h1, h2, fun h => by cases h⟩
end Go.Proofs.Ytomkbgghljcbfaa
