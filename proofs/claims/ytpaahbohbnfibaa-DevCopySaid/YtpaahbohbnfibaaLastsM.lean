/-
  What lasts, as plain lists; a device beside a block of eight bytes. No condition beyond those that each theorem states.
-/
import Derived.Test.YtpaahbohbnfibaaOwn
namespace Go.Proofs.Ytpaahbohbnfibaa
open Go.RowKit Go.Rst Go.Dv
/-- A device behind k of L's writes. -/
def la (F : List (List UInt8)) (L : List Wr) (a b k : Nat) : Sim := ⟨F, L.take k, none, a + k, b⟩
theorem la_write {F : List (List UInt8)} {L : List Wr} {k i : Nat} {c : UInt8} (a b : Nat) (hk : k < L.length) (hw : wat L k = (i, pad [c])) (hi : i < F.length) :
    (la F L a b k).write (i : Int) [c] = la F L a b (k + 1) ∧ (la F L a b k).wrote (i : Int) [c] = 0 := by
  have hh : (la F L a b k).has (i : Int) = true := Sim.has_iff.2 ⟨by omega, by show (i : Int) < (F.length : Int); omega⟩
  refine ⟨?_, ?_⟩
  · unfold Sim.write
    rw [hh]
    have e : L.take (k + 1) = L.take k ++ [(i, pad [c])] := by
      rw [← hw, wat_in hk]
      exact (List.take_append_getElem hk).symm
    show Sim.mk F (L.take k ++ [((i : Int).toNat, pad [c])]) none (a + k + 1) b = Sim.mk F (L.take (k + 1)) none (a + (k + 1)) b
    rw [e, Int.toNat_natCast]
    rfl
  · unfold Sim.wrote
    rw [hh, if_pos rfl]
    rfl
theorem la_flush (F : List (List UInt8)) (L L' : List Wr) (a b m : Nat) (hm : m = L.length) : (la F L a b m).flush = la (kept F L (List.replicate m true) m) L' (a + m) (b + 1) 0 := by
  subst hm
  have e : (la F L a b L.length).flush = ⟨kept F (L.take L.length) (List.replicate (L.take L.length).length true) (L.take L.length).length, [], none, a + L.length, b + 1⟩ := rfl
  rw [e, List.take_length]
  rfl
theorem la_crash (F : List (List UInt8)) (L : List Wr) (K : List Bool) (a b m : Nat) (hm : m = L.length) : (la F L a b m).crash K = ⟨kept F L K m, [], none, a + m, b⟩ := by
  subst hm
  have e : (la F L a b L.length).crash K = ⟨kept F (L.take L.length) K (L.take L.length).length, [], none, a + L.length, b⟩ := rfl
  rw [e, List.take_length]
/-- The first bytes. -/
def hd (F : List (List UInt8)) : List Value := F.map fun x => bv (x.getD 0 0)
theorem hd_length (F : List (List UInt8)) : (hd F).length = F.length := by simp [hd]
theorem hd_get {F : List (List UInt8)} {i : Nat} (h : i < F.length) : (hd F)[i]? = some (bv ((F.getD i []).getD 0 0)) := by
  simp [hd, h]
theorem hd_step {F : List (List UInt8)} {L : List Wr} {K : List Bool} {k i : Nat} {c : UInt8} (hK : K.getD k false = true) (hw : wat L k = (i, pad [c])) : hd (kept F L K (k + 1)) = (hd (kept F L K k)).set i (bv c) := by
  rw [kept, if_pos hK, hw]
  unfold hd
  rw [List.map_set]
  rfl
theorem hd_stay {F : List (List UInt8)} {L : List Wr} {K : List Bool} {k : Nat} (hK : K.getD k false = false) : hd (kept F L K (k + 1)) = hd (kept F L K k) := by
  rw [kept, if_neg (by rw [hK]; decide)]
def L1 (l : List UInt8) : List Wr := l.map fun x => (x.toNat % 8, pad [x])
def L2 (l : List UInt8) : List Wr := l.map fun x => (x.toNat / 8 % 8, pad [x ^^^ 255])
theorem L1_at {l : List UInt8} {k : Nat} {x : UInt8} (h : l[k]? = some x) : wat (L1 l) k = (x.toNat % 8, pad [x]) := by
  simp [wat, L1, h]
theorem L2_at {l : List UInt8} {k : Nat} {x : UInt8} (h : l[k]? = some x) : wat (L2 l) k = (x.toNat / 8 % 8, pad [x ^^^ 255]) := by
  simp [wat, L2, h]
/-- A device, and a block of eight beside it. -/
def OA (H g : Nat) (w : World) (v : Value) (s : Sim) (cs : Array Value) : Prop :=
  ∃ D : Nat → Prop, Dev D w v s ∧ (∀ k, D k → H ≤ k ∧ k ≠ g) ∧ H ≤ g ∧ Blk w g 51 cs
section
variable {H g : Nat} {w0 w w' : World} {v : Value} {s s' : Sim} {cs : Array Value}
theorem OA.mk {D : Nat → Prop} (h : Dev D w v s) (hD : ∀ k, D k → H ≤ k) (hH : H ≤ w.heap.size) (hw' : w' = w.alloc (.cells cs 51)) : OA H w.heap.size w' v s cs := by
  subst hw'
  exact ⟨D, h.below ((Below.refl _ _).alloc (Nat.le_refl _) _), fun k hk => ⟨hD k hk, Nat.ne_of_lt (h.lt k hk)⟩, hH, heap_alloc_new w _⟩
theorem OA.below (h : OA H g w v s cs) (hb : Below w.heap.size w w') : OA H g w' v s cs := by
  obtain ⟨D, h1, h2, h3, h4⟩ := h
  exact ⟨D, h1.below hb, h2, h3, h4.below hb h4.lt⟩
theorem OA.blk (h : OA H g w v s cs) : Blk w g 51 cs := by obtain ⟨D, h1, h2, h3, h4⟩ := h; exact h4
theorem OA.size (h : OA H g w v s cs) : H ≤ g := by obtain ⟨D, h1, h2, h3, h4⟩ := h; exact h3
theorem OA.ok (h : OA H g w v s cs) : OK s := by obtain ⟨D, h1, h2, h3, h4⟩ := h; exact h1.ok
theorem OA.set_ (h : OA H g w v s cs) (i : Nat) (u : Value) : OA H g (w.setCell ⟨g, i, none⟩ u) v s (cs.setIfInBounds i u) := by
  obtain ⟨D, h1, h2, h3, h4⟩ := h
  exact ⟨D, h1.fr ((Fr.refl (fun k => k = g) w).setCell (p := ⟨g, i, none⟩) (.inl rfl) u) (fun k hk hd => (h2 k hd).2 hk), h2, h3, h4.set_ i u⟩
theorem OA.did {D : Nat → Prop} (hD : ∀ k, D k → H ≤ k ∧ k ≠ g) (hg : H ≤ g) (hb : Blk w g 51 cs) (h : Did D w v s w') : OA H g w' v s cs ∧ Below H w w' := by
  obtain ⟨E, h1, h2, h3⟩ := h
  have hl := hb.lt
  exact ⟨⟨E, h1, fun k hk => by rcases h3 k hk with h4 | h4; exact hD k h4; exact ⟨by omega, by omega⟩, hg, hb.same (h2.block g hl (fun hd => (hD g hd).2 rfl))⟩, h2.below (fun k hk => (hD k hk).1) (by omega)⟩
theorem oa_write (i : Int) (b : Value) (l : List UInt8) (h : OA H g w0 v s cs) (hbel : Below w0.heap.size w0 w) (hb : RB w b l) (hn : l ≠ [] → ∀ j, b.ownBlock = some j → j < H ∨ w0.heap.size ≤ j) (hw : s.nw < 299) (hnf : s.nf < 299) :
    Calls Try.prog 12 #[v, .int .i64 i, b] w fun e w' => e = .returned (.int .u16 (s.wrote i l)) ∧ OA H g w' v (s.write i l) cs ∧ Below H w w' := by
  obtain ⟨D, hd, hD, hg, hblk⟩ := h
  refine (write_any i b l (hd.below hbel) hb (fun hl j hj hk => by rcases hn hl j hj with h1 | h1; have := (hD j hk).1; omega; have := hd.lt j hk; omega) hw hnf).mono ?_
  rintro e w' ⟨he, hdid⟩
  exact ⟨he, OA.did hD hg (hblk.below hbel hblk.lt) hdid⟩
theorem oa_flush (h : OA H g w v s cs) (hw : s.nw < 300) (hn : s.nf < 300) : Calls Try.prog 13 #[v] w fun e w' => e = .returned (.tuple #[]) ∧ OA H g w' v s.flush cs ∧ Below H w w' := by
  obtain ⟨D, hd, hD, hg, hblk⟩ := h
  refine (flush_any hd hw hn).mono ?_
  rintro e w' ⟨he, hf, hd'⟩
  exact ⟨he, OA.did hD hg hblk (Did.same hd' hf)⟩
theorem oa_crash (kv : Value) (K : List Bool) (h : OA H g w v s cs) (hK : KB (fun k => H ≤ k) w kv K) (hw : s.nw ≤ 100000) : Calls Try.prog 14 #[v, kv] w fun e w' => e = .returned (.tuple #[]) ∧ OA H g w' v (s.crash K) cs ∧ Below H w w' := by
  obtain ⟨D, hd, hD, hg, hblk⟩ := h
  refine (crash_any kv K hd (hK.other (fun k _ hk => (hD k hk).1)) hw).mono ?_
  rintro e w' ⟨he, hf, hd'⟩
  exact ⟨he, OA.did hD hg hblk (Did.same hd' hf)⟩
theorem oa_read (k : Nat) (h : OA H g w v s cs) (hi : k < s.firm.length) (hw : s.nw ≤ 100000) : Calls Try.prog 15 #[v, .int .i64 (k : Int)] w (Told w (s.read k)) := by
  obtain ⟨D, hd, _⟩ := h
  exact read_any k hd hi hw
theorem oa_loose (h : OA H g w v s cs) (hw : s.nw ≤ 100000) : Calls Try.prog 22 #[v] w fun e w' => ∃ A c, e = .returned (.slice A s.loose.length c) ∧ Below w.heap.size w w' := by
  obtain ⟨D, hd, _⟩ := h
  refine (loose_any hd hw).mono ?_
  rintro e w' ⟨u, rfl, ⟨A, c, rfl, _⟩, _, hb⟩
  exact ⟨A, c, by rw [List.length_map], hb⟩
end
end Go.Proofs.Ytpaahbohbnfibaa
