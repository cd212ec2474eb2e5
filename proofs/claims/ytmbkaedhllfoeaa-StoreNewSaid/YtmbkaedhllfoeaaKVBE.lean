/-
 The contract of the reference's Parts.; Words on frames that lie in memory: a slice of slices of changes; the mathematics of reading on. No program but the seat's types.
-/
import Derived.RangeFuncBox
import Derived.Test.YtmbkaedhllfoeaaKVA
import Derived.Test.YtmbkaedhllfoeaaKVB
import Derived.Test.YtmbkaedhllfoeaaKVD
import Derived.Test.YtmbkaedhllfoeaaKVI
set_option linter.unusedVariables false
namespace Go.Proofs.Ytmbkaedhllfoeaa
open Go.RowKit Go.Rst Go.Crc
def GivesPt (w : World) (r : List (List UInt8) × Bool) (e : Ending) (w' : World) : Prop :=
 ∃ u, e = .returned (.tuple #[u, .bool r.2]) ∧ OP 5 22 w' w.heap.size u r.1 ∧ Below w.heap.size w w'
theorem GivesPt.none {w w' : World} {r : List (List UInt8) × Bool} (h : r = ([], false)) (hb : Below w.heap.size w w') : GivesPt w r (.returned (.tuple #[.slice none 0 0, .bool false])) w' := by
 subst h
 exact ⟨_, rfl, OP.nil_ _ _ _ _, hb⟩
theorem chgsL_pos (cs : List Chg) : 0 < (chgsL cs).length := by
 have := numL_pos cs.length
 unfold chgsL
 rw [List.length_append]
 omega
end Go.Proofs.Ytmbkaedhllfoeaa
namespace Go.Proofs.Ytmbkaedhllfoeaa
open Go.RowKit Go.Rst Go.Crc
theorem info34 : (Try.prog.info? 34).map (fun i => (i.zero, i.size, i.bytes)) = some (some (.slice none 0 0), 1, 24) := by kernel_rfl
def RF (w : World) (v : Value) (fs : List (List Chg)) : Prop :=
 ∃ A c, v = .slice A fs.length c ∧ fs.length ≤ c ∧ c ≤ maxLen ∧ (fs = [] ∨ ∃ b off, A = some ⟨b, off, none⟩ ∧ b < w.heap.size ∧ ∀ j (h : j < fs.length), ∃ u, w.cell? ⟨b, off + j, none⟩ = some u ∧ RC w u fs[j])
def OF (w : World) (base : Nat) (v : Value) (fs : List (List Chg)) : Prop :=
 ∃ us : List (List Chg × Value), us.map (·.1) = fs ∧ w.ownsRow base 34 1 v us.length (us.map (·.2)) ∧ ∀ x ∈ us, OC 5 33 w base x.2 x.1
theorem OF.nil_ (w : World) (base : Nat) : OF w base (.slice none 0 0) [] := ⟨[], rfl, World.ownsRow_nil _ _ _ _, fun _ h => by cases h⟩
theorem OF.rf {w : World} {base : Nat} {v : Value} {fs : List (List Chg)} (h : OF w base v fs) : RF w v fs := by
 obtain ⟨us, rfl, ho, hf⟩ := h
 rcases ho.2 with ⟨rfl, h0⟩ | ⟨g, cap, cur, rfl, hb, hg, hnc, hcm, hcs, ht⟩
 ·have : us = [] := List.eq_nil_of_length_eq_zero h0
  subst this
  exact ⟨none, 0, rfl, Nat.le_refl _, Nat.zero_le _, .inl rfl⟩
 ·refine ⟨some ⟨g, 0, none⟩, cap, by rw [List.length_map], by rw [List.length_map]; exact hnc, hcm, .inr ⟨g, 0, rfl, (Array.getElem?_eq_some_iff.1 hg).1, fun j hj => ?_⟩⟩
  rw [List.length_map] at hj
  have hc := ho.cells (g := g) rfl j us[j].2 (by simp [hj])
  rw [Addr.add_lit] at hc
  refine ⟨us[j].2, hc, ?_⟩
  have := (hf us[j] (List.getElem_mem hj)).rc
  simpa using this
theorem OF.shape {w : World} {base : Nat} {v : Value} {fs : List (List Chg)} (h : OF w base v fs) : ∃ A c, v = .slice A fs.length c ∧ (c : Int) ≤ 9223372036854775807 ∧ fs.length ≤ c := by
 obtain ⟨A, c, h, h1, h2, _⟩ := h.rf
 refine ⟨A, c, h, ?_, h1⟩
 unfold maxLen at h2; omega
theorem OF.below {w w' : World} {base : Nat} {v : Value} {fs : List (List Chg)} (h : OF w base v fs) (hb : Below w.heap.size w w') : OF w' base v fs := by
 obtain ⟨us, h1, ho, hf⟩ := h
 exact ⟨us, h1, own_below ho hb, fun x hx => (hf x hx).below hb⟩
theorem OF.base_ {w : World} {base base' : Nat} {v : Value} {fs : List (List Chg)} (h : OF w base v fs) (hb : base' ≤ base) : OF w base' v fs := by
 obtain ⟨us, h1, ho, hf⟩ := h
 exact ⟨us, h1, own_base ho hb, fun x hx => (hf x hx).base_ hb⟩
theorem oc_grown {e eR e' : TypeId} {w w' : World} {base base' size m : Nat} {v r : Value} {cs : List Chg} {ys : List Value} (h : OC e eR w base v cs) (hr : w.ownsRow base' e' size r m ys) (h1 : e ≠ e') (h2 : eR ≠ e')
  (hg : w.grownBy w' r.ownBlock) : OC e eR w' base v cs := by
 obtain ⟨us, hu, ho, hf⟩ := h
 exact ⟨us, hu, own_grown ho hr h2 hg, fun x hx => (hf x hx).grown hr h1 hg⟩
theorem OF.push {w w' : World} {base : Nat} {v v' u : Value} {us : List (List Chg × Value)} {l : List Chg}
  (ho : w.ownsRow base 34 1 v us.length (us.map (·.2))) (hf : ∀ x ∈ us, OC 5 33 w base x.2 x.1) (hu : OC 5 33 w base u l)
  (ho' : w'.ownsRow base 34 1 v' (us.length + 1) (us.map (·.2) ++ [u])) (hg : w.grownBy w' v.ownBlock) : OF w' base v' (us.map (·.1) ++ [l]) := by
 refine ⟨us ++ [(l, u)], by simp, by rw [List.map_append, List.length_append]; exact ho', fun x hx => ?_⟩
 rcases List.mem_append.1 hx with hx | hx
 ·exact oc_grown (hf x hx) ho (by decide) (by decide) hg
 ·simp at hx
  subst hx
  exact oc_grown hu ho (by decide) (by decide) hg
theorem rp_cut {X : World} {A : Option Addr} {n c : Nat} {ps : List (List UInt8)} (h : RP X (.slice A n c) ps) {K : Nat} (hK : K ≤ n) :
  RP X (.slice (if c = K then A else Option.map (fun x => x.add K) A) (n - K) (c - K)) (ps.drop K) := by
 obtain ⟨A', c', he, h1, h2, h3⟩ := h
 injection he with e1 e2 e3
 subst e1
 subst e3
 subst e2
 have hl : (ps.drop K).length = ps.length - K := List.length_drop
 by_cases hd : ps.length ≤ K
 ·rw [List.drop_eq_nil_of_le hd]
  exact ⟨_, _, by rw [show ps.length - K = 0 from by omega]; rfl, Nat.zero_le _, by omega, .inl rfl⟩
 ·have hck : ¬ c = K := by omega
  rw [if_neg hck]
  rcases h3 with rfl | ⟨b, off, rfl, hb, hc⟩
  ·simp at hd
  ·refine ⟨some ⟨b, off + K, none⟩, c - K, by rw [hl]; simp only [Option.map_some, Addr.add_lit], by rw [hl]; omega, by omega, .inr ⟨b, off + K, rfl, hb, fun j hj => ?_⟩⟩
   rw [hl] at hj
   obtain ⟨u, h4, h5⟩ := hc (K + j) (by omega)
   exact ⟨u, by rw [Nat.add_assoc]; exact h4, by rw [List.getElem_drop]; exact h5⟩
def Left (ep : Int) (ss : List (List UInt8)) (R : List (List Chg) × Nat) (fs : List (List Chg)) (at_ : Nat) : Prop :=
 at_ ≤ ss.length ∧ ∃ f, ss.length - at_ < f ∧ R = (fs ++ (readF f ep (ss.drop at_) fs.length).1, at_ + (readF f ep (ss.drop at_) fs.length).2)
theorem Left.start (ep : Int) (ss : List (List UInt8)) : Left ep ss (readS ep ss) [] 0 := ⟨Nat.zero_le _, ss.length + 1, by omega, by unfold readS; simp⟩
theorem Left.stop {ep : Int} {ss : List (List UInt8)} {R : List (List Chg) × Nat} {fs : List (List Chg)} {at_ : Nat} (h : Left ep ss R fs at_) (h0 : (frameS ep fs.length (ss.drop at_)).2 = 0) : R = (fs, at_) := by
 obtain ⟨_, f, hf, hR⟩ := h
 obtain ⟨f, rfl⟩ : ∃ j, f = j + 1 := ⟨f - 1, by omega⟩
 rw [hR, readF, if_pos h0]
 simp
theorem Left.next {ep : Int} {ss : List (List UInt8)} {R : List (List Chg) × Nat} {fs : List (List Chg)} {at_ : Nat} (h : Left ep ss R fs at_) (h0 : (frameS ep fs.length (ss.drop at_)).2 ≠ 0) :
  Left ep ss R (fs ++ [(frameS ep fs.length (ss.drop at_)).1]) (at_ + (frameS ep fs.length (ss.drop at_)).2) := by
 obtain ⟨hle, f, hf, hR⟩ := h
 have hl := frame_le (epoch := ep) (num := fs.length) (ss := ss.drop at_)
 rw [List.length_drop] at hl
 obtain ⟨f, rfl⟩ : ∃ j, f = j + 1 := ⟨f - 1, by omega⟩
 refine ⟨by omega, f, by omega, ?_⟩
 rw [hR, readF, if_neg h0, List.drop_drop, List.length_append, List.length_singleton]
 simp only [List.append_assoc, List.cons_append, List.nil_append, Nat.add_assoc]
end Go.Proofs.Ytmbkaedhllfoeaa
