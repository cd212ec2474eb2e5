/-
  Words on pages that lie in memory: a slice of slices of bytes. No program but the seat's types.
-/
import Derived.Test.YtomkbgghljcbfaaGWords
import Derived.Test.YtomkbgghljcbfaaGPure
import Derived.Test.YtomkbgghljcbfaaBase
import Derived.Deep.RegionHeld3
set_option linter.unusedVariables false

namespace Go.Proofs.Ytomkbgghljcbfaa
open Go.RowKit Go.Rst
theorem info23 : (Try.prog.info? 23).map (fun i => (i.zero, i.size, i.bytes)) = some (some (.slice none 0 0), 1, 24) := by kernel_rfl

/-- A slice that reads as pages. -/
def RP (w : World) (v : Value) (ps : List (List UInt8)) : Prop :=
  ∃ A c, v = .slice A ps.length c ∧ ps.length ≤ c ∧ c ≤ maxLen ∧ (ps = [] ∨ ∃ b off, A = some ⟨b, off, none⟩ ∧ b < w.heap.size ∧ ∀ j (h : j < ps.length), ∃ u, w.cell? ⟨b, off + j, none⟩ = some u ∧ RB w u ps[j])
/-- Pages of the call's own, each in a block of its own. -/
def OP (e eP : TypeId) (w : World) (base : Nat) (v : Value) (ps : List (List UInt8)) : Prop :=
  ∃ us : List (List UInt8 × Value), us.map (·.1) = ps ∧ w.ownsRow base eP 1 v us.length (us.map (·.2)) ∧ ∀ x ∈ us, FB e w base x.2 x.1
theorem rp_nil (w : World) : RP w (.slice none 0 0) [] := ⟨none, 0, rfl, Nat.le_refl _, Nat.zero_le _, .inl rfl⟩
theorem rp_below {w w' : World} {B : Nat} {v : Value} {ps : List (List UInt8)} (h : RP w v ps) (hb : Below B w w') (hB : w.heap.size ≤ B) : RP w' v ps := by
  obtain ⟨A, c, rfl, h1, h2, h3⟩ := h
  refine ⟨A, c, rfl, h1, h2, ?_⟩
  rcases h3 with rfl | ⟨b, off, rfl, hb0, hc⟩
  · exact .inl rfl
  · refine .inr ⟨b, off, rfl, Nat.lt_of_lt_of_le hb0 hb.size, fun j hj => ?_⟩
    obtain ⟨u, a2, a3⟩ := hc j hj
    exact ⟨u, (hb.cell (p := ⟨b, off + j, none⟩) (by show b < B; omega)).trans a2, a3.below (hb.mono hB)⟩
theorem rp_at {w : World} {A : Option Addr} {n c : Nat} {ps : List (List UInt8)} (h : RP w (.slice A n c) ps) {k : Nat} (hk : k < ps.length) :
    ∃ b off u, A = some ⟨b, off, none⟩ ∧ b < w.heap.size ∧ w.cell? ⟨b, off + k, none⟩ = some u ∧ RB w u ps[k] := by
  obtain ⟨A', c', he, _, _, h3⟩ := h
  injection he with e1 _ _
  subst e1
  rcases h3 with rfl | ⟨b, off, rfl, hb, hc⟩
  · simp at hk
  · obtain ⟨u, h1, h2⟩ := hc k hk
    exact ⟨b, off, u, rfl, hb, h1, h2⟩
theorem OP.nil_ (e eP : TypeId) (w : World) (base : Nat) : OP e eP w base (.slice none 0 0) [] := ⟨[], rfl, World.ownsRow_nil _ _ _ _, fun _ h => by cases h⟩
theorem OP.rp {e eP : TypeId} {w : World} {base : Nat} {v : Value} {ps : List (List UInt8)} (h : OP e eP w base v ps) : RP w v ps := by
  obtain ⟨us, rfl, ho, hf⟩ := h
  rcases ho.2 with ⟨rfl, h0⟩ | ⟨g, cap, cur, rfl, hb, hg, hnc, hcm, hcs, ht⟩
  · have : us = [] := List.eq_nil_of_length_eq_zero h0
    subst this
    exact rp_nil w
  · refine ⟨some ⟨g, 0, none⟩, cap, by rw [List.length_map], by rw [List.length_map]; exact hnc, hcm, .inr ⟨g, 0, rfl, (Array.getElem?_eq_some_iff.1 hg).1, fun j hj => ?_⟩⟩
    rw [List.length_map] at hj
    have hc := ho.cells (g := g) rfl j us[j].2 (by simp [hj])
    rw [Addr.add_lit] at hc
    refine ⟨us[j].2, hc, ?_⟩
    have := (hf us[j] (List.getElem_mem hj)).rb
    simpa using this
theorem OP.shape {e eP : TypeId} {w : World} {base : Nat} {v : Value} {ps : List (List UInt8)} (h : OP e eP w base v ps) : ∃ A c, v = .slice A ps.length c ∧ (c : Int) ≤ 9223372036854775807 ∧ ps.length ≤ c := by
  obtain ⟨A, c, h, h1, h2, _⟩ := h.rp
  refine ⟨A, c, h, ?_, h1⟩
  unfold maxLen at h2; omega
theorem OP.below {e eP : TypeId} {w w' : World} {base : Nat} {v : Value} {ps : List (List UInt8)} (h : OP e eP w base v ps) (hb : Below w.heap.size w w') : OP e eP w' base v ps := by
  obtain ⟨us, h1, ho, hf⟩ := h
  exact ⟨us, h1, own_below ho hb, fun x hx => (hf x hx).below hb⟩
theorem OP.base_ {e eP : TypeId} {w : World} {base base' : Nat} {v : Value} {ps : List (List UInt8)} (h : OP e eP w base v ps) (hb : base' ≤ base) : OP e eP w base' v ps := by
  obtain ⟨us, h1, ho, hf⟩ := h
  exact ⟨us, h1, own_base ho hb, fun x hx => (hf x hx).base_ hb⟩
theorem OP.alloc {e eP : TypeId} {w : World} {base : Nat} {v : Value} {ps : List (List UInt8)} (h : OP e eP w base v ps) (o : Obj) : OP e eP (w.alloc o) base v ps :=
  h.below ((Below.refl _ _).alloc (Nat.le_refl _) o)
/-- A row of the call's own outlasts an append onto a row of another element type. -/
theorem own_grown {w w' : World} {base base' size size' n m : Nat} {e e' : TypeId} {v r : Value} {xs ys : List Value} (h : w.ownsRow base e size v n xs) (hr : w.ownsRow base' e' size' r m ys) (hne : e ≠ e')
    (hg : w.grownBy w' r.ownBlock) : w'.ownsRow base e size v n xs := by
  refine ⟨h.1, ?_⟩
  rcases h.2 with h0 | ⟨g, cap, cur, rfl, hbg, hh, rest⟩
  · exact .inl h0
  · refine .inr ⟨g, cap, cur, rfl, hbg, (hg.block g (Array.getElem?_eq_some_iff.1 hh).1 (fun he => ?_)).trans hh, rest⟩
    rcases hr.2 with ⟨rfl, _⟩ | ⟨g', cap', cur', rfl, _, hg', _⟩
    · simp [Value.ownBlock] at he
    · simp [Value.ownBlock] at he
      subst he
      rw [hh] at hg'
      injection hg' with hg'
      injection hg' with _ h2 _
      exact hne h2
theorem OP.grown {e eP e' : TypeId} {w w' : World} {base base' size m : Nat} {v r : Value} {ps : List (List UInt8)} {ys : List Value} (h : OP e eP w base v ps) (hr : w.ownsRow base' e' size r m ys) (h1 : e ≠ e') (h2 : eP ≠ e')
    (hg : w.grownBy w' r.ownBlock) : OP e eP w' base v ps := by
  obtain ⟨us, hu, ho, hf⟩ := h
  exact ⟨us, hu, own_grown ho hr h2 hg, fun x hx => (hf x hx).grown hr h1 hg⟩
theorem or_grown {e eR e' : TypeId} {w w' : World} {base base' size m : Nat} {v r : Value} {rs : List (ByteArray × List UInt8)} {ys : List Value} (h : OR e eR w base v rs) (hr : w.ownsRow base' e' size r m ys) (h1 : e ≠ e') (h2 : eR ≠ e')
    (hg : w.grownBy w' r.ownBlock) : OR e eR w' base v rs := by
  obtain ⟨us, hu, ho, hf⟩ := h
  exact ⟨us, hu, own_grown ho hr h2 hg, fun x hx => (hf x hx).grown hr h1 hg⟩
/-- One page more. -/
theorem OP.push {e eP : TypeId} {w w' : World} {base : Nat} {v v' u : Value} {us : List (List UInt8 × Value)} {l : List UInt8} (hne : e ≠ eP)
    (ho : w.ownsRow base eP 1 v us.length (us.map (·.2))) (hf : ∀ x ∈ us, FB e w base x.2 x.1) (hu : FB e w base u l)
    (ho' : w'.ownsRow base eP 1 v' (us.length + 1) (us.map (·.2) ++ [u])) (hg : w.grownBy w' v.ownBlock) : OP e eP w' base v' (us.map (·.1) ++ [l]) := by
  refine ⟨us ++ [(l, u)], by simp, by rw [List.map_append, List.length_append]; exact ho', fun x hx => ?_⟩
  rcases List.mem_append.1 hx with hx | hx
  · exact (hf x hx).grown ho hne hg
  · simp at hx
    subst hx
    exact hu.grown ho hne hg
/-- Pages behind others. -/
theorem OP.join {e eP : TypeId} {w w' : World} {base : Nat} {v v' : Value} {us us2 : List (List UInt8 × Value)} (hne : e ≠ eP)
    (ho : w.ownsRow base eP 1 v us.length (us.map (·.2))) (hf : ∀ x ∈ us, FB e w base x.2 x.1) (hf2 : ∀ x ∈ us2, FB e w base x.2 x.1)
    (ho' : w'.ownsRow base eP 1 v' (us.length + us2.length) (us.map (·.2) ++ us2.map (·.2))) (hg : w.grownBy w' v.ownBlock) : OP e eP w' base v' (us.map (·.1) ++ us2.map (·.1)) := by
  refine ⟨us ++ us2, by simp, by rw [List.map_append, List.length_append]; exact ho', fun x hx => ?_⟩
  rcases List.mem_append.1 hx with hx | hx
  · exact (hf x hx).grown ho hne hg
  · exact (hf2 x hx).grown ho hne hg
/-- The source of an append of pages. -/
theorem OP.src {eP : TypeId} {w : World} {base : Nat} {v : Value} {us : List (List UInt8 × Value)} {tx e' : TypeId} (ho : w.ownsRow base eP 1 v us.length (us.map (·.2))) (hk : Try.prog.underlying tx = some (.slice e')) (h1 : ∀ x ∈ us, x.2.oneCell' = true) :
    Src Try.prog 1 tx v us.length (us.map (·.2)) w := by
  rcases ho.2 with ⟨rfl, h0⟩ | ⟨g, cap, cur, rfl, hb, hg, hnc, hcm, hcs, ht⟩
  · have : us = [] := List.eq_nil_of_length_eq_zero h0
    subst this
    exact Src.ofNil _ hk 0
  · refine Src.ofSlice _ hk ⟨g, 0, none⟩ _ _ _ (by simp) (fun j x hj => ho.cells (g := g) rfl j x hj) (fun x hx => ?_)
    obtain ⟨y, hy, rfl⟩ := List.mem_map.1 hx
    exact h1 y hy
theorem fb_one {e : TypeId} {w : World} {base : Nat} {v : Value} {l : List UInt8} (h : FB e w base v l) : v.oneCell' = true := by
  obtain ⟨A, c, rfl⟩ := h.shape
  rfl
end Go.Proofs.Ytomkbgghljcbfaa

/-
  Words on rows of the call's own: joined, as a source, cell by cell.
-/
namespace Go.Proofs.Ytomkbgghljcbfaa
open Go.RowKit Go.Rst Go.Pg Go.Crc
theorem rr_shape {w : World} {v : Value} {rs : List Rw} (h : RR w v rs) : ∃ A c, v = .slice A rs.length c ∧ rs.length ≤ c ∧ (c : Int) ≤ 9223372036854775807 := by
  obtain ⟨A, c, h, h1, h2, _⟩ := h
  refine ⟨A, c, h, h1, ?_⟩
  unfold maxLen at h2; omega
theorem rowCells_append (a b : List (ByteArray × List UInt8 × Value)) : rowCells (a ++ b) = rowCells a ++ rowCells b := by unfold rowCells; rw [List.flatMap_append]
/-- Rows behind others. -/
theorem OR.join {e eR : TypeId} {w w' : World} {base : Nat} {v v' : Value} {us us2 : List (ByteArray × List UInt8 × Value)} (hne : e ≠ eR)
    (ho : w.ownsRow base eR 2 v us.length (rowCells us)) (hf : ∀ x ∈ us, FB e w base x.2.2 x.2.1) (hf2 : ∀ x ∈ us2, FB e w base x.2.2 x.2.1)
    (ho' : w'.ownsRow base eR 2 v' (us.length + us2.length) (rowCells us ++ rowCells us2)) (hg : w.grownBy w' v.ownBlock) : OR e eR w' base v' (us.map (fun x => (x.1, x.2.1)) ++ us2.map (fun x => (x.1, x.2.1))) := by
  refine ⟨us ++ us2, by simp, by rw [List.length_append, rowCells_append]; exact ho', fun x hx => ?_⟩
  rcases List.mem_append.1 hx with hx | hx
  · exact (hf x hx).grown ho hne hg
  · exact (hf2 x hx).grown ho hne hg
/-- The source of an append of rows. -/
theorem OR.src {e eR : TypeId} {w : World} {base base' : Nat} {v : Value} {us : List (ByteArray × List UInt8 × Value)} {tx e' : TypeId} (ho : w.ownsRow base eR 2 v us.length (rowCells us)) (hf : ∀ x ∈ us, FB e w base' x.2.2 x.2.1) (hk : Try.prog.underlying tx = some (.slice e')) :
    Src Try.prog 2 tx v us.length (rowCells us) w := by
  rcases ho.2 with ⟨rfl, h0⟩ | ⟨g, cap, cur, rfl, hb, hg, hnc, hcm, hcs, ht⟩
  · have : us = [] := List.eq_nil_of_length_eq_zero h0
    subst this
    exact Src.ofNil _ hk 0
  · refine Src.ofSlice _ hk ⟨g, 0, none⟩ _ _ _ (rowCells_length us) (fun j x hj => ho.cells (g := g) rfl j x hj) (fun x hx => ?_)
    unfold rowCells at hx
    obtain ⟨y, hy, hx⟩ := List.mem_flatMap.1 hx
    simp only [List.mem_cons, List.not_mem_nil, or_false] at hx
    rcases hx with rfl | rfl
    · rfl
    · exact fb_one (hf y hy)
theorem or_row {e eR : TypeId} {w : World} {base : Nat} {v : Value} {rs : List Rw} (h : OR e eR w base v rs) {j : Nat} (hj : j < rs.length) :
    ∃ g cap u, v = .slice (some ⟨g, 0, none⟩) rs.length cap ∧ g < w.heap.size ∧ w.cell? ⟨g, j * 2, none⟩ = some (.string rs[j].1) ∧ w.cell? ⟨g, j * 2 + 1, none⟩ = some u ∧ FB e w base u rs[j].2 := by
  obtain ⟨us, rfl, ho, hf⟩ := h
  have hj' : j < us.length := by simpa using hj
  rcases ho.2 with ⟨_, h0⟩ | ⟨g, cap, cur, rfl, hb, hg, hnc, hcm, hcs, ht⟩
  · omega
  · have h1 := rowCells_get us j hj'
    have hcell : ∀ i, i < us.length * 2 → w.cell? ⟨g, i, none⟩ = (rowCells us)[i]? := by
      intro i hi
      rw [cell_of_row _ g i cur eR (0, 0) hg, ← ht, List.getElem?_take, if_pos (by omega), Array.getElem?_toList]
    refine ⟨g, cap, us[j].2.2, by simp, (Array.getElem?_eq_some_iff.1 hg).1, ?_, ?_, ?_⟩
    · rw [hcell _ (by omega), h1.1]; simp
    · rw [hcell _ (by omega), h1.2]
    · have := hf us[j] (List.getElem_mem hj')
      simpa using this

end Go.Proofs.Ytomkbgghljcbfaa

/-
  Words for a region that draws its order and holds calls that make memory: what lay below each world that was met is kept. No program, no condition.
-/
namespace Go.Rst
open Go.RowKit
/-- What was there in each of these worlds is there still. -/
def SB (ws : List World) (W : World) : Prop := ∀ x ∈ ws, Below x.heap.size x W
theorem SB.start (w : World) : SB [w] w.drew := fun x hx => by
  obtain rfl : x = w := by simpa using hx
  exact (Below.refl _ _).drew
theorem SB.step {ws : List World} {y z : World} (h : SB ws y) (hb : Below y.heap.size y z) : SB ws z := fun x hx => (h x hx).trans (hb.mono (h x hx).size)
theorem SB.more {ws : List World} {z : World} (h : SB ws z) : SB (z :: ws) z := fun x hx => by
  rcases List.mem_cons.1 hx with rfl | hx
  · exact Below.refl _ _
  · exact h x hx
theorem SB.less {ws : List World} {z : World} (W : World) (h : SB (z :: ws) W) : SB ws W := fun x hx => h x (List.mem_cons_of_mem _ hx)
theorem SB.same {ws : List World} {y z : World} (h : SB ws y) (e : y = z) : SB ws z := e ▸ h
section
variable {a b c d e f g i j k l m : World} {ws : List World} {W : World}
theorem SB.b0 (h : SB (a :: ws) W) : Below a.heap.size a W := h _ (by simp)
theorem SB.b1 (h : SB (a :: b :: ws) W) : Below b.heap.size b W := h _ (by simp)
theorem SB.b2 (h : SB (a :: b :: c :: ws) W) : Below c.heap.size c W := h _ (by simp)
theorem SB.b3 (h : SB (a :: b :: c :: d :: ws) W) : Below d.heap.size d W := h _ (by simp)
theorem SB.b4 (h : SB (a :: b :: c :: d :: e :: ws) W) : Below e.heap.size e W := h _ (by simp)
theorem SB.b5 (h : SB (a :: b :: c :: d :: e :: f :: ws) W) : Below f.heap.size f W := h _ (by simp)
theorem SB.b6 (h : SB (a :: b :: c :: d :: e :: f :: g :: ws) W) : Below g.heap.size g W := h _ (by simp)
theorem SB.b7 (h : SB (a :: b :: c :: d :: e :: f :: g :: i :: ws) W) : Below i.heap.size i W := h _ (by simp)
theorem SB.b8 (h : SB (a :: b :: c :: d :: e :: f :: g :: i :: j :: ws) W) : Below j.heap.size j W := h _ (by simp)
theorem SB.b9 (h : SB (a :: b :: c :: d :: e :: f :: g :: i :: j :: k :: ws) W) : Below k.heap.size k W := h _ (by simp)
theorem SB.b10 (h : SB (a :: b :: c :: d :: e :: f :: g :: i :: j :: k :: l :: ws) W) : Below l.heap.size l W := h _ (by simp)
theorem SB.b11 (h : SB (a :: b :: c :: d :: e :: f :: g :: i :: j :: k :: l :: m :: ws) W) : Below m.heap.size m W := h _ (by simp)
end
/-- What holds in a region may be made to say more on the way. -/
theorem wpAnyH_more {P : Program} {md : Region.Mode} {ops : Array Oper} {Q : Exit → Act → World → Prop} {S S' : World → Prop} (himp : ∀ W, S' W → S W) :
    ∀ (fuel : Nat) (listed : Array Bool) (a : Act) (w : World), wpAnyH P md ops Q S' fuel listed a w → wpAnyH P md ops Q S fuel listed a w
  | 0, _, _, _, h => h
  | fuel + 1, _, _, _, h => ⟨h.1, fun i hi => wpOp_mono (fun a' w' h' => ⟨himp w' h'.1, wpAnyH_more himp fuel _ a' w' h'.2⟩) (h.2 i hi)⟩
end Go.Rst
