/-
  The device's contracts where all its blocks are new: what was there stays.
-/
import Derived.Test.YtpaahbohbnfibaaKnown
namespace Go.Proofs.Ytpaahbohbnfibaa
open Go.RowKit Go.Rst Go.Dv
section
variable {B : Nat} {w0 w : World} {v : Value} {s : Sim}
theorem own_write (i : Int) (b : Value) (l : List UInt8) (h : Own B w0 v s) (hbel : Below w0.heap.size w0 w) (hb : RB w b l) (hn : l ≠ [] → ∀ j, b.ownBlock = some j → j < B ∨ w0.heap.size ≤ j) (hw : s.nw < 299) (hnf : s.nf < 299) :
    Calls Try.prog 12 #[v, .int .i64 i, b] w fun e w' => e = .returned (.int .u16 (s.wrote i l)) ∧ Own B w' v (s.write i l) ∧ Below B w w' := by
  obtain ⟨D, hd, hD, hB⟩ := h
  refine (write_any i b l (hd.below hbel) hb (fun hl j hj hk => by rcases hn hl j hj with h1 | h1; have := hD j hk; omega; have := hd.lt j hk; omega) hw hnf).mono ?_
  rintro e w' ⟨he, hdid⟩
  exact ⟨he, Own.did hD (Nat.le_trans hB hbel.size) hdid⟩
theorem own_flush (h : Own B w v s) (hw : s.nw < 300) (hn : s.nf < 300) : Calls Try.prog 13 #[v] w fun e w' => e = .returned (.tuple #[]) ∧ Own B w' v s.flush ∧ Below B w w' := by
  obtain ⟨D, hd, hD, hB⟩ := h
  refine (flush_any hd hw hn).mono ?_
  rintro e w' ⟨he, hf, hd'⟩
  exact ⟨he, Own.did hD hB (Did.same hd' hf)⟩
theorem own_crash (kv : Value) (K : List Bool) (h : Own B w0 v s) (hbel : Below w0.heap.size w0 w) (hK : KB (fun k => B ≤ k ∧ k < w0.heap.size) w kv K) (hw : s.nw ≤ 100000) : Calls Try.prog 14 #[v, kv] w fun e w' => e = .returned (.tuple #[]) ∧ Own B w' v (s.crash K) ∧ Below B w w' := by
  obtain ⟨D, hd, hD, hB⟩ := h
  refine (crash_any kv K (hd.below hbel) (hK.other (fun k _ hk => ⟨hD k hk, hd.lt k hk⟩)) hw).mono ?_
  rintro e w' ⟨he, hf, hd'⟩
  exact ⟨he, Own.did hD (Nat.le_trans hB hbel.size) (Did.same hd' hf)⟩
theorem own_fuse (n : Int) (hn : n ≤ 1000) (h : Own B w v s) : Calls Try.prog 23 #[v, .int .i64 n] w fun e w' => e = .returned (.tuple #[]) ∧ Own B w' v (s.setFuse n) ∧ Below B w w' := by
  obtain ⟨D, hd, hD, hB⟩ := h
  refine (fuse_any n hn hd).mono ?_
  rintro e w' ⟨he, hf, hd'⟩
  exact ⟨he, Own.did hD hB (Did.same hd' hf)⟩
theorem own_spoil (i a : Int) (b : UInt8) (h : Own B w v s) : Calls Try.prog 24 #[v, .int .i64 i, .int .i64 a, bv b] w fun e w' => e = .returned (.bool (s.can i a)) ∧ Own B w' v (s.spoil i a b) ∧ Below B w w' := by
  obtain ⟨D, hd, hD, hB⟩ := h
  refine (spoil_any i a b hd).mono ?_
  rintro e w' ⟨he, hf, hd'⟩
  exact ⟨he, Own.did hD hB (Did.same hd' hf)⟩
theorem own_read (k : Nat) (h : Own B w v s) (hi : k < s.firm.length) (hw : s.nw ≤ 100000) : Calls Try.prog 15 #[v, .int .i64 (k : Int)] w (Told w (s.read k)) := by
  obtain ⟨D, hd, hD, hB⟩ := h
  exact read_any k hd hi hw
theorem own_read_no (i : Int) (h : Own B w v s) (hi : s.has i = false) : Calls Try.prog 15 #[v, .int .i64 i] w fun e w' => e = .returned (.tuple #[.slice none 0 0, .int .u16 20]) ∧ w = w' := by
  obtain ⟨D, hd, hD, hB⟩ := h
  exact read_no i hd hi
theorem own_traffic (h : Own B w v s) : Calls Try.prog 25 #[v] w fun e w' => e = .returned (.complex .f64 (fb s.nw) (fb s.nf)) ∧ w = w' := by
  obtain ⟨D, hd, hD, hB⟩ := h
  exact traffic_any hd
theorem own_len (h : Own B w v s) : Calls Try.prog 20 #[v] w fun e w' => e = .returned (.int .i64 (s.firm.length : Int)) ∧ w = w' := by
  obtain ⟨D, hd, hD, hB⟩ := h
  exact len_any hd
theorem own_loose (h : Own B w v s) (hw : s.nw ≤ 100000) : Calls Try.prog 22 #[v] w fun e w' => ∃ A c, e = .returned (.slice A s.loose.length c) ∧ Below w.heap.size w w' := by
  obtain ⟨D, hd, hD, hB⟩ := h
  refine (loose_any hd hw).mono ?_
  rintro e w' ⟨u, rfl, ⟨A, c, rfl, _⟩, _, hb⟩
  exact ⟨A, c, by rw [List.length_map], hb⟩
theorem own_ptr (h : Own B w v s) : ∃ g, v = .pointer (some ⟨g, 0, none⟩) := by
  obtain ⟨D, ⟨y, h1, _⟩, _⟩ := h
  exact ⟨y.g, h1⟩
theorem own_new (n : Nat) (w : World) (h : n ≤ 4096) (hB : B ≤ w.heap.size) : Calls Try.prog 11 #[.int .i64 (n : Int)] w fun e w' => ∃ g, e = .returned (.pointer (some ⟨g, 0, none⟩)) ∧ Own B w' (.pointer (some ⟨g, 0, none⟩)) (Sim.new n) ∧ Below B w w' := by
  refine (new_any n w h).mono ?_
  rintro e w' ⟨v, rfl, ho, hb⟩
  obtain ⟨g, rfl⟩ := own_ptr ho
  obtain ⟨D, h1, h2, h3⟩ := ho
  exact ⟨g, rfl, ⟨D, h1, fun k hk => Nat.le_trans hB (h2 k hk), Nat.le_trans hB h3⟩, hb.mono hB⟩
end
theorem new_read (n k : Nat) (h : k < n) : (Sim.new n).read k = List.replicate 64 0 := by simp [Sim.new, Sim.read, upTo, h]
theorem new_firm (n : Nat) : (Sim.new n).firm.length = n := by simp [Sim.new]
end Go.Proofs.Ytpaahbohbnfibaa
