/-
  Words on slices of changes (key, value, gone), over any program: how they read, and changes of the call's own.
-/
import Derived.Test.YtjanggdjbieceaaMath2
namespace Go.Rst
open Go.RowKit

abbrev Chg := ByteArray × List UInt8 × Bool
/-- A slice of changes as it reads: three cells each; each value reads as bytes. -/
def RC (w : World) (v : Value) (rs : List Chg) : Prop :=
  ∃ A c, v = .slice A rs.length c ∧ rs.length ≤ c ∧ c ≤ maxLen ∧ (rs = [] ∨ ∃ b off, A = some ⟨b, off, none⟩ ∧ b < w.heap.size ∧
    ∀ j (h : j < rs.length), w.cell? ⟨b, off + j * 3, none⟩ = some (.string rs[j].1) ∧ (∃ u, w.cell? ⟨b, off + j * 3 + 1, none⟩ = some u ∧ RB w u rs[j].2.1) ∧ w.cell? ⟨b, off + j * 3 + 2, none⟩ = some (.bool rs[j].2.2))
/-- The cells of changes, three by three. -/
def chCells (us : List (Chg × Value)) : List Value := us.flatMap fun x => [.string x.1.1, x.2, .bool x.1.2.2]
theorem chCells_get : ∀ (us : List (Chg × Value)) (j : Nat) (h : j < us.length), (chCells us)[j * 3]? = some (.string us[j].1.1) ∧ (chCells us)[j * 3 + 1]? = some us[j].2 ∧ (chCells us)[j * 3 + 2]? = some (.bool us[j].1.2.2)
  | x :: us, 0, _ => by simp [chCells]
  | x :: us, j + 1, h => by
    have ih := chCells_get us j (by simpa using h)
    have e : chCells (x :: us) = .string x.1.1 :: x.2 :: .bool x.1.2.2 :: chCells us := by simp [chCells]
    rw [e, show (j + 1) * 3 = j * 3 + 1 + 1 + 1 from by omega, show j * 3 + 1 + 1 + 1 + 1 = (j * 3 + 1) + 1 + 1 + 1 from rfl, show j * 3 + 1 + 1 + 1 + 2 = (j * 3 + 2) + 1 + 1 + 1 from rfl]
    simpa using ih
/-- Changes of the call's own, each value in a block of its own. -/
def OC (e eR : TypeId) (w : World) (base : Nat) (v : Value) (rs : List Chg) : Prop :=
  ∃ us : List (Chg × Value), us.map (·.1) = rs ∧ w.ownsRow base eR 3 v us.length (chCells us) ∧ ∀ x ∈ us, FB e w base x.2 x.1.2.1
theorem OC.nil_ (e eR : TypeId) (w : World) (base : Nat) : OC e eR w base (.slice none 0 0) [] := ⟨[], rfl, World.ownsRow_nil _ _ _ _, fun _ h => by cases h⟩
theorem OC.rc {e eR : TypeId} {w : World} {base : Nat} {v : Value} {rs : List Chg} (h : OC e eR w base v rs) : RC w v rs := by
  obtain ⟨us, rfl, ho, hf⟩ := h
  rcases ho.2 with ⟨rfl, h0⟩ | ⟨g, cap, cur, rfl, hb, hg, hnc, hcm, hcs, ht⟩
  · have : us = [] := List.eq_nil_of_length_eq_zero h0
    subst this
    exact ⟨none, 0, rfl, Nat.le_refl _, Nat.zero_le _, .inl rfl⟩
  · refine ⟨some ⟨g, 0, none⟩, cap, by rw [List.length_map], by rw [List.length_map]; exact hnc, hcm, .inr ⟨g, 0, rfl, (Array.getElem?_eq_some_iff.1 hg).1, fun j hj => ?_⟩⟩
    rw [List.length_map] at hj
    have hc := chCells_get us j hj
    have h1 := ho.cells (g := g) rfl _ _ hc.1
    have h2 := ho.cells (g := g) rfl _ _ hc.2.1
    have h3 := ho.cells (g := g) rfl _ _ hc.2.2
    rw [Addr.add_lit] at h1 h2 h3
    refine ⟨by simpa using h1, ⟨us[j].2, by simpa [Nat.add_assoc] using h2, ?_⟩, by simpa [Nat.add_assoc] using h3⟩
    have := (hf us[j] (List.getElem_mem hj)).rb
    simpa using this
theorem OC.below {e eR : TypeId} {w w' : World} {base : Nat} {v : Value} {rs : List Chg} (h : OC e eR w base v rs) (hb : Below w.heap.size w w') : OC e eR w' base v rs := by
  obtain ⟨us, h1, ho, hf⟩ := h
  exact ⟨us, h1, own_below ho hb, fun x hx => (hf x hx).below hb⟩
theorem OC.base_ {e eR : TypeId} {w : World} {base base' : Nat} {v : Value} {rs : List Chg} (h : OC e eR w base v rs) (hb : base' ≤ base) : OC e eR w base' v rs := by
  obtain ⟨us, h1, ho, hf⟩ := h
  exact ⟨us, h1, own_base ho hb, fun x hx => (hf x hx).base_ hb⟩
theorem OC.setCell {e eR : TypeId} {w : World} {base : Nat} {v : Value} {rs : List Chg} (h : OC e eR w base v rs) {p : Addr} (hp : p.block < base) (u : Value) : OC e eR (w.setCell p u) base v rs := by
  obtain ⟨us, h1, ho, hf⟩ := h
  exact ⟨us, h1, ownsRow_setCell_below ho hp u, fun x hx => (hf x hx).setCell hp u⟩
theorem OC.alloc {e eR : TypeId} {w : World} {base : Nat} {v : Value} {rs : List Chg} (h : OC e eR w base v rs) (o : Obj) : OC e eR (w.alloc o) base v rs :=
  h.below ((Below.refl _ _).alloc (Nat.le_refl _) o)
/-- One change more. -/
theorem OC.push {e eR : TypeId} {w w' : World} {base : Nat} {v v' u : Value} {us : List (Chg × Value)} {k : ByteArray} {l : List UInt8} {b : Bool} (hne : e ≠ eR)
    (ho : w.ownsRow base eR 3 v us.length (chCells us)) (hf : ∀ x ∈ us, FB e w base x.2 x.1.2.1) (hu : FB e w base u l)
    (ho' : w'.ownsRow base eR 3 v' (us.length + 1) (chCells us ++ [.string k, u, .bool b])) (hg : w.grownBy w' v.ownBlock) : OC e eR w' base v' (us.map (·.1) ++ [(k, l, b)]) := by
  refine ⟨us ++ [((k, l, b), u)], by simp, by unfold chCells at ho' ⊢; rw [List.length_append, List.flatMap_append]; exact ho', fun x hx => ?_⟩
  rcases List.mem_append.1 hx with hx | hx
  · exact (hf x hx).grown ho hne hg
  · simp at hx
    subst hx
    exact hu.grown ho hne hg
end Go.Rst
