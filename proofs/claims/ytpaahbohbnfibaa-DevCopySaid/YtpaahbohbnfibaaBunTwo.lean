/-
  Two devices beside the document's own two, and blocks of the caller's.
-/
import Derived.Test.YtpaahbohbnfibaaCopy
namespace Go.Proofs.Ytpaahbohbnfibaa
open Go.RowKit Go.Rst Go.Dv
/-- Two devices, each beside the document's own, and blocks of the caller's: all of them new. -/
def Bun2 (H : Nat) (G : Nat → Prop) (w : World) (d t : Value) (s1 : Sim) (v tv : Value) (s : Sim) : Prop :=
  ∃ D1 D A : Nat → Prop, Dev D1 w d s1 ∧ TR A w t s1 ∧ Dev D w v s ∧ TR A w tv s ∧ (∀ k, D1 k → A k ∧ ¬ D k) ∧ (∀ k, D k → A k) ∧ (∀ k, A k → H ≤ k ∧ k < w.heap.size) ∧ (∀ k, G k → A k ∧ ¬ D1 k ∧ ¬ D k) ∧ H ≤ w.heap.size
section
variable {H : Nat} {G G' : Nat → Prop} {w w' : World} {d t v tv : Value} {s1 s : Sim}
theorem Bun2.mk {g : Value} (h : Bun H G w d t s1) (ho : Own w.heap.size w' g s1) (hb : Below w.heap.size w w') : Bun2 H G w' d t s1 g t s1 := by
  obtain ⟨D1, A, h1, h2, h3, h4, h5, h6⟩ := h
  obtain ⟨D, d1, d2, d3⟩ := ho
  refine ⟨D1, D, fun k => A k ∨ D k, h1.below hb, ?_, d1, ?_, fun k hk => ⟨.inl (h3 k hk), fun hd => ?_⟩, fun k hk => .inr hk, fun k hk => ?_, fun k hk => ⟨.inl (h5 k hk).1, (h5 k hk).2, fun hd => ?_⟩, Nat.le_trans h6 hb.size⟩
  · exact h2.fr (D := fun _ => False) (Fr.of_below hb) (fun _ h => h.elim) (fun k hk => hk.imp id (d2 k))
  · exact h2.fr (D := fun _ => False) (Fr.of_below hb) (fun _ h => h.elim) (fun k hk => hk.imp id (d2 k))
  · have := d2 k hd; have := h1.lt k hk; omega
  · rcases hk with hk | hk
    · exact ⟨(h4 k hk).1, Nat.lt_of_lt_of_le (h4 k hk).2 hb.size⟩
    · exact ⟨Nat.le_trans h6 (d2 k hk), d1.lt k hk⟩
  · have := d2 k hd; have := (h4 k (h5 k hk).1).2; omega
theorem Bun2.below (h : Bun2 H G w d t s1 v tv s) (hb : Below w.heap.size w w') : Bun2 H G w' d t s1 v tv s := by
  obtain ⟨D1, D, A, a1, a2, h1, h2, a3, h3, h4, h5, h6⟩ := h
  exact ⟨D1, D, A, a1.below hb, a2.below hb, h1.below hb, h2.below hb, a3, h3, fun k hk => ⟨(h4 k hk).1, Nat.lt_of_lt_of_le (h4 k hk).2 hb.size⟩, h5, Nat.le_trans h6 hb.size⟩
theorem Bun2.less (h : Bun2 H G w d t s1 v tv s) (hG : ∀ k, G' k → G k) : Bun2 H G' w d t s1 v tv s := by
  obtain ⟨D1, D, A, a1, a2, h1, h2, a3, h3, h4, h5, h6⟩ := h
  exact ⟨D1, D, A, a1, a2, h1, h2, a3, h3, h4, fun k hk => h5 k (hG k hk), h6⟩
theorem Bun2.grow (h : Bun2 H G w d t s1 v tv s) (hb : Below w.heap.size w w') (hl : w.heap.size < w'.heap.size) : Bun2 H (fun k => G k ∨ k = w.heap.size) w' d t s1 v tv s := by
  obtain ⟨D1, D, A, a1, a2, h1, h2, a3, h3, h4, h5, h6⟩ := h
  have hA : ∀ k, (A k ∨ k = w.heap.size) → A k ∨ w.heap.size ≤ k := fun k hk => hk.imp id (fun h => Nat.le_of_eq h.symm)
  refine ⟨D1, D, fun k => A k ∨ k = w.heap.size, a1.below hb, a2.fr (D := fun _ => False) (Fr.of_below hb) (fun _ h => h.elim) hA, h1.below hb, h2.fr (D := fun _ => False) (Fr.of_below hb) (fun _ h => h.elim) hA, fun k hk => ⟨.inl (a3 k hk).1, (a3 k hk).2⟩, fun k hk => .inl (h3 k hk), fun k hk => ?_, fun k hk => ?_, Nat.le_trans h6 hb.size⟩
  · rcases hk with hk | hk
    · exact ⟨(h4 k hk).1, Nat.lt_of_lt_of_le (h4 k hk).2 hb.size⟩
    · exact ⟨by omega, by omega⟩
  · rcases hk with hk | hk
    · exact ⟨.inl (h5 k hk).1, (h5 k hk).2⟩
    · exact ⟨.inr hk, fun hd => by have := a1.lt k hd; omega, fun hd => by have := h1.lt k hd; omega⟩
theorem Bun2.fr (h : Bun2 H G w d t s1 v tv s) {g : Nat} (hg : G g) (hf : Fr (fun k => k = g) w w') : Bun2 H G w' d t s1 v tv s := by
  obtain ⟨D1, D, A, a1, a2, h1, h2, a3, h3, h4, h5, h6⟩ := h
  exact ⟨D1, D, A, a1.fr hf (fun k hk hd => (h5 g hg).2.1 (hk ▸ hd)), a2.fr hf (fun k hk => hk ▸ (h5 g hg).1) (fun k hk => .inl hk), h1.fr hf (fun k hk hd => (h5 g hg).2.2 (hk ▸ hd)), h2.fr hf (fun k hk => hk ▸ (h5 g hg).1) (fun k hk => .inl hk), a3, h3, fun k hk => ⟨(h4 k hk).1, Nat.lt_of_lt_of_le (h4 k hk).2 hf.size⟩, h5, Nat.le_trans h6 hf.size⟩
theorem Bun2.ge (h : Bun2 H G w d t s1 v tv s) {g : Nat} (hg : G g) : H ≤ g ∧ g < w.heap.size := by
  obtain ⟨D1, D, A, a1, a2, h1, h2, a3, h3, h4, h5, h6⟩ := h
  exact h4 g (h5 g hg).1
theorem Bun2.size (h : Bun2 H G w d t s1 v tv s) : H ≤ w.heap.size := by
  obtain ⟨D1, D, A, a1, a2, h1, h2, a3, h3, h4, h5, h6⟩ := h
  exact h6
theorem Bun2.two (h : Bun2 H G w d t s1 v tv s) : Bun H G w v tv s := by
  obtain ⟨D1, D, A, a1, a2, h1, h2, a3, h3, h4, h5, h6⟩ := h
  exact ⟨D, A, h1, h2, h3, h4, fun k hk => ⟨(h5 k hk).1, (h5 k hk).2.2⟩, h6⟩
theorem Bun2.one (h : Bun2 H G w d t s1 v tv s) : Bun H G w d t s1 := by
  obtain ⟨D1, D, A, a1, a2, h1, h2, a3, h3, h4, h5, h6⟩ := h
  exact ⟨D1, A, a1, a2, fun k hk => (a3 k hk).1, h4, fun k hk => ⟨(h5 k hk).1, (h5 k hk).2.1⟩, h6⟩
/-- What step does to the second, told so. -/
def BunR2 (H : Nat) (G : Nat → Prop) (w : World) (d t : Value) (s1 : Sim) (v : Value) (s : Sim) (e : Ending) (w' : World) : Prop :=
  ∃ tv, e = .returned (.tuple #[tv, .bool true]) ∧ Bun2 H G w' d t s1 v tv s ∧ Below H w w' ∧ ∀ k, G k → w'.heap[k]? = w.heap[k]?
theorem bun2_step {W0 : World} {uB uK : Value} {b : List UInt8} {K : List Bool} (kd : Nat) (i : Int) (c : UInt8) (h : Bun2 W0.heap.size G w d t s1 v tv s) (hbel : Below W0.heap.size W0 w) (hb : RB W0 uB b) (hK : BK W0 uK K) (hw : s.nw < 299) (hf : s.nf < 299) :
    Calls Try.prog 18 #[v, tv, .agg #[.int .u8 (kd : Int), .int .i64 i, uB, uK, .int .u8 (c.toNat : Int)]] w (BunR2 W0.heap.size G w d t s1 v (done s (kd % 9) i b K c)) := by
  obtain ⟨D1, D, A, a1, a2, h1, h2, a3, h3, h4, h5, h6⟩ := h
  refine (step_any kd i c h1 h2 h3 (fun k hk => (h4 k hk).2) ⟨hb.below hbel, fun hl k hk ha => by have := RB.lt_ hb hl hk; have := (h4 k ha).1; omega⟩ ((hK.kb hbel).other (fun k _ hk => (h4 k hk).1)) hw hf).mono ?_
  rintro e w' ⟨tv', E, rfl, d1, d2, d3, d4⟩
  have hDH : ∀ k, D k → W0.heap.size ≤ k := fun k hk => (h4 k (h3 k hk)).1
  have hE : ∀ k, E k → A k ∨ w.heap.size ≤ k := fun k hk => (d4 k hk).imp (h3 k) id
  refine ⟨tv', rfl, ⟨D1, E, fun k => A k ∨ E k, a1.fr d3 (fun k hk hd => (a3 k hd).2 hk), a2.fr d3 h3 (fun k hk => hk.elim .inl (hE k)), d1, d2, fun k hk => ⟨.inl (a3 k hk).1, fun he => ?_⟩, fun k hk => .inr hk, fun k hk => ?_, fun k hk => ⟨.inl (h5 k hk).1, (h5 k hk).2.1, fun he => ?_⟩, Nat.le_trans h6 d3.size⟩, d3.below hDH h6, fun k hk => d3.block k (h4 k (h5 k hk).1).2 (h5 k hk).2.2⟩
  · rcases d4 k he with h | h
    · exact (a3 k hk).2 h
    · have := a1.lt k hk; omega
  · rcases hk with hk | hk
    · exact ⟨(h4 k hk).1, Nat.lt_of_lt_of_le (h4 k hk).2 d3.size⟩
    · refine ⟨?_, d1.lt k hk⟩
      rcases d4 k hk with h | h
      · exact hDH k h
      · omega
  · rcases d4 k he with h | h
    · exact (h5 k hk).2.2 h
    · have := (h4 k (h5 k hk).1).2; omega
theorem bun_copy (h : Bun H G w d t s) (hw : s.nw ≤ 100000) : Calls Try.prog 21 #[d] w fun e w' => ∃ g, e = .returned (.pointer (some ⟨g, 0, none⟩)) ∧ Bun2 H G w' d t s (.pointer (some ⟨g, 0, none⟩)) t s ∧ Below w.heap.size w w' := by
  obtain ⟨D, A, h1, h2⟩ := id h
  refine (copy_any h1 hw).mono ?_
  rintro e w' ⟨g, rfl, ho, hb⟩
  exact ⟨g, rfl, Bun2.mk h ho hb, hb⟩
end
end Go.Proofs.Ytpaahbohbnfibaa
