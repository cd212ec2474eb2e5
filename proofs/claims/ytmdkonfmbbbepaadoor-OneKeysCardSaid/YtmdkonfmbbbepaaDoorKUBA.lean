/-
  Words for a region that draws its order and holds calls that make memory: what lay below each world that was met is kept. No program, no condition.; Short names for the moves of a walk through a drawn region: each finds its operation, its side conditions and the state's plain form by itself. No condition.
-/
import Derived.Deep.RegionHeld3
import Derived.Test.YtmdkonfmbbbepaaDoorKUA
set_option linter.unusedVariables false
namespace Go.Rst
open Go.RowKit
def SB (ws : List World) (W : World) : Prop := ∀ x ∈ ws, Below x.heap.size x W
theorem SB.start (w : World) : SB [w] w.drew := fun x hx => by
  obtain rfl : x = w := by simpa using hx
  exact (Below.refl _ _).drew
theorem SB.step {ws : List World} {y z : World} (h : SB ws y) (hb : Below y.heap.size y z) : SB ws z := fun x hx => (h x hx).trans (hb.mono (h x hx).size)
theorem SB.more {ws : List World} {z : World} (h : SB ws z) : SB (z :: ws) z := fun x hx => by
  rcases List.mem_cons.1 hx with rfl | hx
  · exact Below.refl _ _
  · exact h x hx
theorem SB.less {ws : List World} {z : World} (W : World) (h : SB (z :: ws) W) : SB ws W := fun x hx => h x (List.mem_cons_of_mem _ hx)
theorem SB.same {ws : List World} {y z : World} (h : SB ws y) (e : y = z) : SB ws z := e ▸ h
section
variable {a b c d e f g i j k l m : World} {ws : List World} {W : World}
theorem SB.b0 (h : SB (a :: ws) W) : Below a.heap.size a W := h _ (by simp)
theorem SB.b1 (h : SB (a :: b :: ws) W) : Below b.heap.size b W := h _ (by simp)
theorem SB.b2 (h : SB (a :: b :: c :: ws) W) : Below c.heap.size c W := h _ (by simp)
theorem SB.b3 (h : SB (a :: b :: c :: d :: ws) W) : Below d.heap.size d W := h _ (by simp)
theorem SB.b4 (h : SB (a :: b :: c :: d :: e :: ws) W) : Below e.heap.size e W := h _ (by simp)
theorem SB.b5 (h : SB (a :: b :: c :: d :: e :: f :: ws) W) : Below f.heap.size f W := h _ (by simp)
theorem SB.b8 (h : SB (a :: b :: c :: d :: e :: f :: g :: i :: j :: ws) W) : Below j.heap.size j W := h _ (by simp)
theorem SB.b9 (h : SB (a :: b :: c :: d :: e :: f :: g :: i :: j :: k :: ws) W) : Below k.heap.size k W := h _ (by simp)
theorem SB.b11 (h : SB (a :: b :: c :: d :: e :: f :: g :: i :: j :: k :: l :: m :: ws) W) : Below m.heap.size m W := h _ (by simp)
end
theorem wpAnyH_more {P : Program} {md : Region.Mode} {ops : Array Oper} {Q : Exit → Act → World → Prop} {S S' : World → Prop} (himp : ∀ W, S' W → S W) :
    ∀ (fuel : Nat) (listed : Array Bool) (a : Act) (w : World), wpAnyH P md ops Q S' fuel listed a w → wpAnyH P md ops Q S fuel listed a w
  | 0, _, _, _, h => h
  | fuel + 1, _, _, _, h => ⟨h.1, fun i hi => wpOp_mono (fun a' w' h' => ⟨himp w' h'.1, wpAnyH_more himp fuel _ a' w' h'.2⟩) (h.2 i hi)⟩
end Go.Rst
set_option linter.unusedVariables false
namespace Go.Proofs.YtmdkonfmbbbepaaDoor
open Go
theorem zA {α : Type} (l : List α) (i : Nat) (a : α) : l.toArray.setIfInBounds i a = (l.set i a).toArray := List.setIfInBounds_toArray ..
theorem zB {α : Type} (x a : α) (l : List α) : (x :: l).set 0 a = a :: l := rfl
theorem zC {α : Type} (x a : α) (l : List α) (n : Nat) : (x :: l).set (n + 1) a = x :: l.set n a := rfl
theorem zD {α : Type} (l : List α) (i : Nat) : l.toArray[i]? = l[i]? := List.getElem?_toArray ..
theorem zE {α : Type} (a : α) (l : List α) : (a :: l)[0]? = some a := rfl
theorem zF {α : Type} (a : α) (l : List α) (i : Nat) : (a :: l)[i + 1]? = l[i]? := rfl
section
variable {P : Program} {ops : Array Oper} {Q : Exit → Act → World → Prop} {md : Region.Mode} {S : World → Prop}
theorem tkA (i : Nat) {oi : Oper} {v : Value} {fuel : Nat} {listed : Array Bool} {a : Act} {w : World} (hy : ∀ w, S w → (execOp a.eval oi).run P w = .ok (.value v) w)
    (h : wpAnyH P md ops Q S fuel (listed.setIfInBounds i true) (a.put oi.dst v) w) (hi : ops[i]? = some oi := by (simp only [zD, zE, zF]; rfl))
    (hs : Region.noSelect ops = true := by kernel_rfl) (hf : Region.free md ops listed i = true := by kernel_rfl) (hr : (Region.ready md ops listed).contains i = true := by kernel_rfl)
    (hQ : ∀ c a w, Q (.panic c) (a.put oi.dst v) w → Q (.panic c) a w := by exact fun _ _ _ h => h) (hg : Region.wanted oi (yielded ops a.tmps) = true := by rfl) (hS : S w := by assumption) : wpAnyH P md ops Q S (fuel + 1) listed a w :=
  wpAnyH_take hi hs hf hr hQ (Or.inl ⟨hg, hy⟩) hS h
theorem tkC (i : Nat) {oi : Oper} {v : Value} {fuel : Nat} {listed : Array Bool} {a a' : Act} {l' : Array Bool} {w : World}
    (h : wpAnyH P md ops Q S fuel l' a' w) (hi : ops[i]? = some oi := by (simp only [zD, zE, zF]; rfl))
    (hs : Region.noSelect ops = true := by kernel_rfl) (hf : Region.free md ops listed i = true := by kernel_rfl) (hr : (Region.ready md ops listed).contains i = true := by kernel_rfl)
    (hQ : ∀ c a w, Q (.panic c) (a.put oi.dst v) w → Q (.panic c) a w := by exact fun _ _ _ h => h) (hg : Region.wanted oi (yielded ops a.tmps) = true := by rfl)
    (hy : ∀ w, S w → (execOp a.eval oi).run P w = .ok (.value v) w := by (intro W hSw; go_simp; try (with_reducible rfl))) (hp : a.put oi.dst v = a' := by (first | (simp only [Act.put, zA, zB, zC]; done) | (simp only [Act.put, zA, zB, zC]; rfl) | rfl)) (hl : listed.setIfInBounds i true = l' := by (first | (simp only [zA, zB, zC]; done) | (simp only [zA, zB, zC]; rfl) | rfl)) (hS : S w := by assumption) : wpAnyH P md ops Q S (fuel + 1) listed a w :=
  wpAnyH_take hi hs hf hr hQ (Or.inl ⟨hg, hy⟩) hS (by rw [hp, hl]; exact h)
theorem tkB (i : Nat) {oi : Oper} {fuel : Nat} {listed : Array Bool} {a a' : Act} {l' : Array Bool} {w : World}
    (h : wpAnyH P md ops Q S fuel l' a' w) (hi : ops[i]? = some oi := by (simp only [zD, zE, zF]; rfl))
    (hs : Region.noSelect ops = true := by kernel_rfl) (hf : Region.free md ops listed i = true := by kernel_rfl) (hr : (Region.ready md ops listed).contains i = true := by kernel_rfl)
    (hQ : ∀ c a w, Q (.panic c) (a.put oi.dst undef) w → Q (.panic c) a w := by exact fun _ _ _ h => h) (hg : Region.wanted oi (yielded ops a.tmps) = false := by rfl) (hp : a.put oi.dst undef = a' := by (first | (simp only [Act.put, zA, zB, zC]; done) | (simp only [Act.put, zA, zB, zC]; rfl) | rfl)) (hl : listed.setIfInBounds i true = l' := by (first | (simp only [zA, zB, zC]; done) | (simp only [zA, zB, zC]; rfl) | rfl)) (hS : S w := by assumption) : wpAnyH P md ops Q S (fuel + 1) listed a w :=
  wpAnyH_take hi hs hf hr hQ (Or.inr ⟨hg, rfl⟩) hS (by rw [hp, hl]; exact h)
theorem arC {fuel : Nat} {listed : Array Bool} {a : Act} {w : World} {i : Nat} {o : Oper}
    (h : ∀ K' : Act → World → Prop, Shut (∀ a w, S w → (S w → wpAnyH P md ops Q S fuel (listed.setIfInBounds i true) a w) → K' a w) → if Region.wanted o (yielded ops a.tmps) = true then Oper.wp P o a w K' Q else K' (a.put o.dst undef) w)
    (ho : ops[i]? = some o := by (simp only [zD, zE, zF]; rfl)) : AllReadyH P md ops Q S fuel listed a w [i] := AllReadyH.cons ho h AllReadyH.nil
theorem rdA {rs : List Nat} {fuel : Nat} {listed : Array Bool} {a : Act} {w : World} (h : AllReadyH P md ops Q S fuel listed a w rs) (hr : Region.ready md ops listed = rs := by kernel_rfl) (hne : rs ≠ [] := by simp) : wpAnyH P md ops Q S (fuel + 1) listed a w := wpAnyH_ready hr hne h
end
end Go.Proofs.YtmdkonfmbbbepaaDoor
