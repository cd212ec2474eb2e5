/-
  The contract of step, of any deed; and a device beside the document's own, and blocks of the caller's.
-/
import Derived.Test.YtpaahbohbnfibaaStepB
import Derived.Test.YtpaahbohbnfibaaStepD
import Derived.Test.YtpaahbohbnfibaaStepE
import Derived.Test.YtpaahbohbnfibaaLastsW
namespace Go.Proofs.Ytpaahbohbnfibaa
open Go.RowKit Go.Rst Go.Dv
/-- Which sector a deed speaks of. -/
def dj (i : Int) (c : UInt8) : Int := if 0 < c.toNat % 8 then ((c.toNat % 9 : Nat) : Int) else i
/-- What a deed makes of a device. -/
def done (s : Sim) (q : Nat) (i : Int) (b : List UInt8) (K : List Bool) (c : UInt8) : Sim :=
  match q with
  | 0 => s.write (dj i c) b
  | 1 => s.write (dj i c) b
  | 2 => s.write (dj i c) b
  | 3 => s.flush
  | 4 => s.flush
  | 5 => s.crash K
  | 6 => s.setFuse (((c.toNat % 12 : Nat) : Int) - 2)
  | 7 => s.spoil (dj i c) (((c.toNat % 70 : Nat) : Int) - 3) c
  | _ => s
theorem write_n (s : Sim) (i : Int) (b : List UInt8) : (s.write i b).nw ≤ s.nw + 1 ∧ (s.write i b).nf ≤ s.nf + 1 := by
  unfold Sim.write
  split
  · exact ⟨Nat.le_refl _, Nat.le_succ _⟩
  · exact ⟨Nat.le_succ _, Nat.le_succ _⟩
theorem flush_n (s : Sim) : s.flush.nw ≤ s.nw + 1 ∧ s.flush.nf ≤ s.nf + 1 := by
  unfold Sim.flush
  split
  · exact ⟨Nat.le_succ _, Nat.le_refl _⟩
  · exact ⟨Nat.le_succ _, Nat.le_succ _⟩
theorem setFuse_n (s : Sim) (n : Int) : (s.setFuse n).nw ≤ s.nw + 1 ∧ (s.setFuse n).nf ≤ s.nf + 1 := by
  unfold Sim.setFuse
  split
  · exact ⟨Nat.le_succ _, Nat.le_succ _⟩
  · exact ⟨Nat.le_succ _, Nat.le_succ _⟩
theorem spoil_n (s : Sim) (i a : Int) (c : UInt8) : (s.spoil i a c).nw ≤ s.nw + 1 ∧ (s.spoil i a c).nf ≤ s.nf + 1 := by
  unfold Sim.spoil
  split
  · exact ⟨Nat.le_succ _, Nat.le_succ _⟩
  · exact ⟨Nat.le_succ _, Nat.le_succ _⟩
theorem done_n (s : Sim) (q : Nat) (i : Int) (b : List UInt8) (K : List Bool) (c : UInt8) : (done s q i b K c).nw ≤ s.nw + 1 ∧ (done s q i b K c).nf ≤ s.nf + 1 := by
  unfold done
  split
  · exact write_n _ _ _
  · exact write_n _ _ _
  · exact write_n _ _ _
  · exact flush_n _
  · exact flush_n _
  · exact ⟨Nat.le_succ _, Nat.le_succ _⟩
  · exact setFuse_n _ _
  · exact spoil_n _ _ _ _
  · exact ⟨Nat.le_succ _, Nat.le_succ _⟩
theorem step_any {D A : Nat → Prop} {w : World} {v tv uB uK : Value} {s : Sim} {b : List UInt8} {K : List Bool} (kd : Nat) (i : Int) (c : UInt8) (hd : Dev D w v s) (ht : TR A w tv s) (hDA : ∀ k, D k → A k) (hA : ∀ k, A k → k < w.heap.size) (hb : RA A w uB b) (hK : KB A w uK K) (hw : s.nw < 299) (hf : s.nf < 299) :
    Calls Try.prog 18 #[v, tv, .agg #[.int .u8 (kd : Int), .int .i64 i, uB, uK, .int .u8 (c.toNat : Int)]] w (StepR D A w v (done s (kd % 9) i b K c)) := by
  have hlt : kd % 9 < 9 := Nat.mod_lt _ (by decide)
  generalize hq : kd % 9 = q at hlt
  by_cases hy : 0 < c.toNat % 8
  · have e : dj i c = ((c.toNat % 9 : Nat) : Int) := if_pos hy
    unfold done
    rw [e]
    match q, hq, hlt with
    | 0, hq, _ => exact step_0y kd i c hd ht hDA hA hb hK hw hf hq hy
    | 1, hq, _ => exact step_1y kd i c hd ht hDA hA hb hK hw hf hq hy
    | 2, hq, _ => exact step_2y kd i c hd ht hDA hA hb hK hw hf hq hy
    | 3, hq, _ => exact step_3y kd i c hd ht hDA hA hb hK hw hf hq hy
    | 4, hq, _ => exact step_4y kd i c hd ht hDA hA hb hK hw hf hq hy
    | 5, hq, _ => exact step_5y kd i c hd ht hDA hA hb hK hw hf hq hy
    | 6, hq, _ => exact step_6y kd i c hd ht hDA hA hb hK hw hf hq hy
    | 7, hq, _ => exact step_7y kd i c hd ht hDA hA hb hK hw hf hq hy
    | 8, hq, _ => exact step_8y kd i c hd ht hDA hA hb hK hw hf hq hy
  · have e : dj i c = i := if_neg hy
    unfold done
    rw [e]
    match q, hq, hlt with
    | 0, hq, _ => exact step_0n kd i c hd ht hDA hA hb hK hw hf hq (by omega)
    | 1, hq, _ => exact step_1n kd i c hd ht hDA hA hb hK hw hf hq (by omega)
    | 2, hq, _ => exact step_2n kd i c hd ht hDA hA hb hK hw hf hq (by omega)
    | 3, hq, _ => exact step_3n kd i c hd ht hDA hA hb hK hw hf hq (by omega)
    | 4, hq, _ => exact step_4n kd i c hd ht hDA hA hb hK hw hf hq (by omega)
    | 5, hq, _ => exact step_5n kd i c hd ht hDA hA hb hK hw hf hq (by omega)
    | 6, hq, _ => exact step_6n kd i c hd ht hDA hA hb hK hw hf hq (by omega)
    | 7, hq, _ => exact step_7n kd i c hd ht hDA hA hb hK hw hf hq (by omega)
    | 8, hq, _ => exact step_8n kd i c hd ht hDA hA hb hK hw hf hq (by omega)
/-- A device beside the document's own, and blocks of the caller's: all of them new. -/
def Bun (H : Nat) (G : Nat → Prop) (w : World) (v tv : Value) (s : Sim) : Prop :=
  ∃ D A : Nat → Prop, Dev D w v s ∧ TR A w tv s ∧ (∀ k, D k → A k) ∧ (∀ k, A k → H ≤ k ∧ k < w.heap.size) ∧ (∀ k, G k → A k ∧ ¬ D k) ∧ H ≤ w.heap.size
section
variable {H : Nat} {G G' : Nat → Prop} {w w' : World} {v tv : Value} {s : Sim}
theorem Bun.below (h : Bun H G w v tv s) (hb : Below w.heap.size w w') : Bun H G w' v tv s := by
  obtain ⟨D, A, h1, h2, h3, h4, h5, h6⟩ := h
  exact ⟨D, A, h1.below hb, h2.below hb, h3, fun k hk => ⟨(h4 k hk).1, Nat.lt_of_lt_of_le (h4 k hk).2 hb.size⟩, h5, Nat.le_trans h6 hb.size⟩
theorem Bun.less (h : Bun H G w v tv s) (hG : ∀ k, G' k → G k) : Bun H G' w v tv s := by
  obtain ⟨D, A, h1, h2, h3, h4, h5, h6⟩ := h
  exact ⟨D, A, h1, h2, h3, h4, fun k hk => h5 k (hG k hk), h6⟩
theorem Bun.grow (h : Bun H G w v tv s) (hb : Below w.heap.size w w') (hl : w.heap.size < w'.heap.size) : Bun H (fun k => G k ∨ k = w.heap.size) w' v tv s := by
  obtain ⟨D, A, h1, h2, h3, h4, h5, h6⟩ := h
  refine ⟨D, fun k => A k ∨ k = w.heap.size, h1.below hb, h2.fr (D := fun _ => False) (Fr.of_below hb) (fun _ h => h.elim) (fun k hk => ?_), fun k hk => .inl (h3 k hk), fun k hk => ?_, fun k hk => ?_, Nat.le_trans h6 hb.size⟩
  · rcases hk with hk | hk
    · exact .inl hk
    · exact .inr (Nat.le_of_eq hk.symm)
  · rcases hk with hk | hk
    · exact ⟨(h4 k hk).1, Nat.lt_of_lt_of_le (h4 k hk).2 hb.size⟩
    · exact ⟨by omega, by omega⟩
  · rcases hk with hk | hk
    · exact ⟨.inl (h5 k hk).1, (h5 k hk).2⟩
    · exact ⟨.inr hk, fun hd => by have := h1.lt k hd; omega⟩
theorem Bun.fr (h : Bun H G w v tv s) {g : Nat} (hg : G g) (hf : Fr (fun k => k = g) w w') : Bun H G w' v tv s := by
  obtain ⟨D, A, h1, h2, h3, h4, h5, h6⟩ := h
  exact ⟨D, A, h1.fr hf (fun k hk hd => (h5 g hg).2 (hk ▸ hd)), h2.fr hf (fun k hk => hk ▸ (h5 g hg).1) (fun k hk => .inl hk), h3, fun k hk => ⟨(h4 k hk).1, Nat.lt_of_lt_of_le (h4 k hk).2 hf.size⟩, h5, Nat.le_trans h6 hf.size⟩
theorem Bun.ge (h : Bun H G w v tv s) {g : Nat} (hg : G g) : H ≤ g ∧ g < w.heap.size := by
  obtain ⟨D, A, h1, h2, h3, h4, h5, h6⟩ := h
  exact h4 g (h5 g hg).1
theorem Bun.size (h : Bun H G w v tv s) : H ≤ w.heap.size := by
  obtain ⟨D, A, h1, h2, h3, h4, h5, h6⟩ := h
  exact h6
/-- What step does, told so. -/
def BunR (H : Nat) (G : Nat → Prop) (w : World) (v : Value) (s : Sim) (e : Ending) (w' : World) : Prop :=
  ∃ tv, e = .returned (.tuple #[tv, .bool true]) ∧ Bun H G w' v tv s ∧ Below H w w' ∧ ∀ k, G k → w'.heap[k]? = w.heap[k]?
theorem bun_step {W0 : World} {uB uK : Value} {b : List UInt8} {K : List Bool} (kd : Nat) (i : Int) (c : UInt8) (h : Bun W0.heap.size G w v tv s) (hbel : Below W0.heap.size W0 w) (hb : RB W0 uB b) (hK : BK W0 uK K) (hw : s.nw < 299) (hf : s.nf < 299) :
    Calls Try.prog 18 #[v, tv, .agg #[.int .u8 (kd : Int), .int .i64 i, uB, uK, .int .u8 (c.toNat : Int)]] w (BunR W0.heap.size G w v (done s (kd % 9) i b K c)) := by
  obtain ⟨D, A, h1, h2, h3, h4, h5, h6⟩ := h
  refine (step_any kd i c h1 h2 h3 (fun k hk => (h4 k hk).2) ⟨hb.below hbel, fun hl k hk ha => by have := RB.lt_ hb hl hk; have := (h4 k ha).1; omega⟩ ((hK.kb hbel).other (fun k _ hk => (h4 k hk).1)) hw hf).mono ?_
  rintro e w' ⟨tv', E, rfl, d1, d2, d3, d4⟩
  have hDH : ∀ k, D k → W0.heap.size ≤ k := fun k hk => (h4 k (h3 k hk)).1
  refine ⟨tv', rfl, ⟨E, fun k => A k ∨ E k, d1, d2, fun k hk => .inr hk, fun k hk => ?_, fun k hk => ⟨.inl (h5 k hk).1, fun he => ?_⟩, Nat.le_trans h6 d3.size⟩, d3.below hDH h6, fun k hk => d3.block k (h4 k (h5 k hk).1).2 (h5 k hk).2⟩
  · rcases hk with hk | hk
    · exact ⟨(h4 k hk).1, Nat.lt_of_lt_of_le (h4 k hk).2 d3.size⟩
    · refine ⟨?_, d1.lt k hk⟩
      rcases d4 k hk with h | h
      · exact hDH k h
      · omega
  · rcases d4 k he with h | h
    · exact (h5 k hk).2 h
    · have := (h4 k (h5 k hk).1).2; omega
theorem bun_same (h : Bun H G w v tv s) (hw : s.nw < 300) (hf : s.nf < 300) : Calls Try.prog 19 #[v, tv] w (Yes w) := by
  obtain ⟨D, A, h1, h2, _⟩ := h
  exact same_any h1 h2 hw hf
end
end Go.Proofs.Ytpaahbohbnfibaa
