/-
  Two devices in memory, apart from each other: what is done to one does nothing to the other.
-/
import Derived.Test.YtpaahbohbnfibaaOwn
namespace Go.Proofs.Ytpaahbohbnfibaa
open Go.RowKit Go.Rst Go.Dv
/-- Two devices apart, all of whose blocks are from B on. -/
def Two (B : Nat) (w : World) (vc : Value) (sc : Sim) (vd : Value) (sd : Sim) : Prop :=
  ∃ C D : Nat → Prop, Dev C w vc sc ∧ Dev D w vd sd ∧ (∀ k, C k → ¬ D k) ∧ (∀ k, C k → B ≤ k) ∧ (∀ k, D k → B ≤ k) ∧ B ≤ w.heap.size
section
variable {B : Nat} {w w' w2 : World} {vc vd : Value} {sc sd sc' : Sim}
theorem Two.swap (h : Two B w vc sc vd sd) : Two B w vd sd vc sc := by
  obtain ⟨C, D, h1, h2, h3, h4, h5, h6⟩ := h
  exact ⟨D, C, h2, h1, fun k hd hc => h3 k hc hd, h5, h4, h6⟩
theorem Two.below (h : Two B w vc sc vd sd) (hb : Below w.heap.size w w') : Two B w' vc sc vd sd := by
  obtain ⟨C, D, h1, h2, h3, h4, h5, h6⟩ := h
  exact ⟨C, D, h1.below hb, h2.below hb, h3, h4, h5, Nat.le_trans h6 hb.size⟩
theorem Two.own (h : Two B w vc sc vd sd) : Own B w vc sc := by
  obtain ⟨C, D, h1, h2, h3, h4, h5, h6⟩ := h
  exact ⟨C, h1, h4, h6⟩
theorem Two.mk {C D : Nat → Prop} (h2 : Dev D w vd sd) (h3 : ∀ k, C k → ¬ D k) (h4 : ∀ k, C k → B ≤ k) (h5 : ∀ k, D k → B ≤ k) (h6 : B ≤ w.heap.size) (h : Did C w vc sc' w') : Two B w' vc sc' vd sd ∧ Below B w w' := by
  obtain ⟨E, e1, e2, e3⟩ := h
  refine ⟨⟨E, D, e1, h2.fr e2 h3, fun k hk hd => ?_, fun k hk => ?_, h5, Nat.le_trans h6 e2.size⟩, e2.below h4 h6⟩
  · rcases e3 k hk with h | h
    · exact h3 k h hd
    · have := h2.lt k hd; omega
  · rcases e3 k hk with h | h
    · exact h4 k h
    · omega
theorem two_write (i : Int) (b : Value) (l : List UInt8) (h : Two B w vc sc vd sd) (hbel : Below w.heap.size w w2) (hb : RB w2 b l) (hn : l ≠ [] → ∀ j, b.ownBlock = some j → j < B ∨ w.heap.size ≤ j) (hw : sc.nw < 299) (hnf : sc.nf < 299) :
    Calls Try.prog 12 #[vc, .int .i64 i, b] w2 fun e w' => e = .returned (.int .u16 (sc.wrote i l)) ∧ Two B w' vc (sc.write i l) vd sd ∧ Below B w2 w' := by
  obtain ⟨C, D, h1, h2, h3, h4, h5, h6⟩ := h
  refine (write_any i b l (h1.below hbel) hb (fun hl j hj hk => by rcases hn hl j hj with g | g; have := h4 j hk; omega; have := h1.lt j hk; omega) hw hnf).mono ?_
  rintro e w' ⟨he, hdid⟩
  exact ⟨he, Two.mk (h2.below hbel) h3 h4 h5 (Nat.le_trans h6 hbel.size) hdid⟩
theorem two_flush (h : Two B w vc sc vd sd) (hw : sc.nw < 300) (hnf : sc.nf < 300) : Calls Try.prog 13 #[vc] w fun e w' => e = .returned (.tuple #[]) ∧ Two B w' vc sc.flush vd sd ∧ Below B w w' := by
  obtain ⟨C, D, h1, h2, h3, h4, h5, h6⟩ := h
  refine (flush_any h1 hw hnf).mono ?_
  rintro e w' ⟨he, hf, hd'⟩
  exact ⟨he, Two.mk h2 h3 h4 h5 h6 (Did.same hd' hf)⟩
theorem two_crash (kv : Value) (K : List Bool) (h : Two B w vc sc vd sd) (hbel : Below w.heap.size w w2) (hK : KB (fun k => B ≤ k ∧ k < w.heap.size) w2 kv K) (hw : sc.nw ≤ 100000) : Calls Try.prog 14 #[vc, kv] w2 fun e w' => e = .returned (.tuple #[]) ∧ Two B w' vc (sc.crash K) vd sd ∧ Below B w2 w' := by
  obtain ⟨C, D, h1, h2, h3, h4, h5, h6⟩ := h
  refine (crash_any kv K (h1.below hbel) (hK.other (fun k _ hk => ⟨h4 k hk, h1.lt k hk⟩)) hw).mono ?_
  rintro e w' ⟨he, hf, hd'⟩
  exact ⟨he, Two.mk (h2.below hbel) h3 h4 h5 (Nat.le_trans h6 hbel.size) (Did.same hd' hf)⟩
theorem two_fuse (n : Int) (hn : n ≤ 1000) (h : Two B w vc sc vd sd) : Calls Try.prog 23 #[vc, .int .i64 n] w fun e w' => e = .returned (.tuple #[]) ∧ Two B w' vc (sc.setFuse n) vd sd ∧ Below B w w' := by
  obtain ⟨C, D, h1, h2, h3, h4, h5, h6⟩ := h
  refine (fuse_any n hn h1).mono ?_
  rintro e w' ⟨he, hf, hd'⟩
  exact ⟨he, Two.mk h2 h3 h4 h5 h6 (Did.same hd' hf)⟩
theorem two_spoil (i a : Int) (b : UInt8) (h : Two B w vc sc vd sd) : Calls Try.prog 24 #[vc, .int .i64 i, .int .i64 a, bv b] w fun e w' => e = .returned (.bool (sc.can i a)) ∧ Two B w' vc (sc.spoil i a b) vd sd ∧ Below B w w' := by
  obtain ⟨C, D, h1, h2, h3, h4, h5, h6⟩ := h
  refine (spoil_any i a b h1).mono ?_
  rintro e w' ⟨he, hf, hd'⟩
  exact ⟨he, Two.mk h2 h3 h4 h5 h6 (Did.same hd' hf)⟩
/-- A second device beside the first. -/
theorem two_new (n : Nat) (h : Own B w vc sc) (hn : n ≤ 4096) : Calls Try.prog 11 #[.int .i64 (n : Int)] w fun e w' => ∃ g, e = .returned (.pointer (some ⟨g, 0, none⟩)) ∧ Two B w' vc sc (.pointer (some ⟨g, 0, none⟩)) (Sim.new n) ∧ Below w.heap.size w w' := by
  obtain ⟨C, h1, h2, h3⟩ := h
  refine (own_new (B := w.heap.size) n w hn (Nat.le_refl _)).mono ?_
  rintro e w' ⟨g, he, ⟨D, d1, d2, d3⟩, hb⟩
  exact ⟨g, he, ⟨C, D, h1.below hb, d1, fun k hc hd => by have := h1.lt k hc; have := d2 k hd; omega, h2, fun k hk => Nat.le_trans h3 (d2 k hk), Nat.le_trans h3 hb.size⟩, hb⟩
end
theorem str28 {w : World} {v : Value} {l : List UInt8} (h : RB w v l) : (convert 28 9 v).run Try.prog w = .ok (.string ⟨l.toArray⟩) w := h.str Try.underlying28 Try.underlying5 Try.underlying9
/-- What is firm behind all loose writes, or some. -/
theorem land_read (s : Sim) (K : List Bool) (k : Nat) : (s.land K).read k = (kept s.firm s.loose K s.loose.length).getD k [] := by simp [Sim.land, Sim.read, upTo]
end Go.Proofs.Ytpaahbohbnfibaa
