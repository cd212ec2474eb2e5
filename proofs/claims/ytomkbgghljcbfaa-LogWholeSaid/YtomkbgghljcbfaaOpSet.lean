/-
  Words on pages of the call's own: one page read, one page laid anew.
-/
import Derived.Test.YtomkbgghljcbfaaGPg
import Derived.Test.YtomkbgghljcbfaaGSet
import Derived.Test.YtomkbgghljcbfaaGRead
namespace Go.Proofs.Ytomkbgghljcbfaa
open Go.RowKit Go.Rst Go.Pg Go.Crc
theorem op_at {w : World} {base : Nat} {v : Value} {ps : List (List UInt8)} (h : OP 5 23 w base v ps) {j : Nat} (hj : j < ps.length) :
    ∃ g c u, v = .slice (some ⟨g, 0, none⟩) ps.length c ∧ base ≤ g ∧ g < w.heap.size ∧ w.cell? ⟨g, j, none⟩ = some u ∧ FB 5 w base u ps[j] := by
  obtain ⟨us, rfl, ho, hf⟩ := h
  have hj' : j < us.length := by simpa using hj
  rcases ho.2 with ⟨_, h0⟩ | ⟨g, cap, cur, rfl, hb, hg, hnc, hcm, hcs, ht⟩
  · omega
  · have hc := ho.cells (g := g) rfl j us[j].2 (by simp [hj'])
    rw [Addr.add_lit, Nat.zero_add] at hc
    refine ⟨g, cap, us[j].2, by rw [List.length_map], hb, (Array.getElem?_eq_some_iff.1 hg).1, hc, ?_⟩
    simpa using hf us[j] (List.getElem_mem hj')
theorem op_set {w : World} {base g n c i : Nat} {ps : List (List UInt8)} {u : Value} {l : List UInt8} (h : OP 5 23 w base (.slice (some ⟨g, 0, none⟩) n c) ps) (hi : i < ps.length) (hu : FB 5 w base u l) :
    OP 5 23 (w.setCell ⟨g, i, none⟩ u) base (.slice (some ⟨g, 0, none⟩) n c) (ps.set i l) := by
  obtain ⟨us, rfl, ho, hf⟩ := h
  have hn : n = us.length := by
    rcases ho.2 with ⟨he, _⟩ | ⟨g2, cap, cur2, he, _⟩
    · cases he
    · injection he
  subst hn
  refine ⟨us.set i (l, u), by rw [List.map_set], ?_, fun x hx => ?_⟩
  · rw [List.length_set, List.map_set]
    exact own_set ho _ _
  · refine fb_own ho (by decide) _ _ ?_
    rcases List.mem_or_eq_of_mem_set hx with hx | hx
    · exact hf x hx
    · subst hx; exact hu
theorem op_frozen {w : World} {base n c g : Nat} {ps : List (List UInt8)} (h : OP 5 23 w base (.slice (some ⟨g, 0, none⟩) n c) ps) (i : Nat) : w.frozen? ⟨g, i, none⟩ = false := by
  obtain ⟨us, _, ho, _⟩ := h
  rcases ho.2 with ⟨he, _⟩ | ⟨g2, cap, cur2, he, hb, hg2, _⟩
  · cases he
  · injection he with he _ _
    injection he with he
    injection he with e1 _ _
    subst e1
    exact Blk.frozen (t := 23) (cs := cur2) hg2 i
theorem OC.set_far {w : World} {base : Nat} {v : Value} {fs : List Chg} (h : OC 5 51 w base v fs) {p : Addr} (hp : p.block < base) (u : Value) : OC 5 51 (w.setCell p u) base v fs := h.setCell hp u
theorem OF.set_far {w : World} {base : Nat} {v : Value} {fs : List (List Chg)} (h : OF w base v fs) {p : Addr} (hp : p.block < base) (u : Value) : OF (w.setCell p u) base v fs := by
  obtain ⟨us, h1, ho, hf⟩ := h
  exact ⟨us, h1, ownsRow_setCell_below ho hp u, fun x hx => (hf x hx).setCell hp u⟩
end Go.Proofs.Ytomkbgghljcbfaa
