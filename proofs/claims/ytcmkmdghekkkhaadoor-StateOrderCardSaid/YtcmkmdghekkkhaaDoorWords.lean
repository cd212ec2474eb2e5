/-
  Words on bytes that lie in memory, over the seat's program, without any of its functions.
-/
import Derived.Test.YtcmkmdghekkkhaaDoorMath
import Derived.Test.YtcmkmdghekkkhaaDoorProg
namespace Go.Proofs.YtcmkmdghekkkhaaDoor
open Go.RowKit Go.Rst
theorem info5 : (Tryd.prog.info? 5).map (fun i => (i.zero, i.size, i.bytes)) = some (some (.int .u8 0), 1, 1) := by kernel_rfl
/-- A block known whole. -/
def Blk (w : World) (g : Nat) (t : TypeId) (cs : Array Value) : Prop := w.heap[g]? = some (.cells cs t (0, 0))
section
variable {w w' : World} {g : Nat} {t : TypeId} {cs : Array Value}
theorem Blk.lt (h : Blk w g t cs) : g < w.heap.size := by
  rcases Nat.lt_or_ge g w.heap.size with hlt | hge
  · exact hlt
  · unfold Blk at h; rw [Array.getElem?_eq_none hge] at h; cases h
theorem Blk.cell (h : Blk w g t cs) (i : Nat) : w.cell? ⟨g, i, none⟩ = cs[i]? := cell_of_row w g i cs t (0, 0) h
theorem Blk.frozen (h : Blk w g t cs) (i : Nat) : w.frozen? ⟨g, i, none⟩ = false := by
  unfold Blk at h
  simp [World.frozen?, h]
theorem Blk.alloc (h : Blk w g t cs) (o : Obj) : Blk (w.alloc o) g t cs := (Below.heap_alloc w o g h.lt).trans h
theorem Blk.set_ (h : Blk w g t cs) (i : Nat) (u : Value) : Blk (w.setCell ⟨g, i, none⟩ u) g t (cs.setIfInBounds i u) := by
  unfold Blk at h ⊢
  simp [World.setCell, Array.getElem?_modify, h]
theorem Blk.far (h : Blk w g t cs) {p : Addr} (hp : g ≠ p.block) (u : Value) : Blk (w.setCell p u) g t cs := (Below.heap_setCell w p u g hp).trans h
theorem Blk.below {B : Nat} (h : Blk w g t cs) (hb : Below B w w') (hg : g < B) : Blk w' g t cs := (hb.block g hg).trans h
end
theorem str22 {w : World} {v : Value} {l : List UInt8} (h : RB w v l) : (convert 25 9 v).run Tryd.prog w = .ok (.string ⟨l.toArray⟩) w := h.str Tryd.underlying25 Tryd.underlying5 Tryd.underlying9
theorem rb_cell {w : World} {A : Option Addr} {c : Nat} {l : List UInt8} (h : RB w (.slice A l.length c) l) {k : Nat} (hk : k < l.length) :
    ∃ b off, A = some ⟨b, off, none⟩ ∧ b < w.heap.size ∧ w.cell? ⟨b, off + k, none⟩ = some (bv l[k]) := by
  obtain ⟨A', c', he, _, _, h3⟩ := h
  injection he with e1 e2 e3
  subst e1
  rcases h3 with h3 | ⟨b, off, h4, h5, h6⟩
  · rw [h3] at hk; simp at hk
  · exact ⟨b, off, h4, h5, h6 k hk⟩

theorem rb_far {w : World} {b o n c : Nat} {l : List UInt8} (h : RB w (.slice (some ⟨b, o, none⟩) n c) l) {p : Addr} (hp : b ≠ p.block) (u : Value) : RB (w.setCell p u) (.slice (some ⟨b, o, none⟩) n c) l := by
  obtain ⟨A, c', he, h1, h2, h3⟩ := h
  refine ⟨A, c', he, h1, h2, ?_⟩
  rcases h3 with h3 | ⟨b', o', rfl, hb, hc⟩
  · exact .inl h3
  · injection he with he _ _
    injection he with he
    injection he with e1 _ _
    subst e1
    exact .inr ⟨b, o', rfl, by simpa using hb, fun j hj => (World.cell?_of_block (a := ⟨b, o' + j, none⟩) (Below.heap_setCell w p u b hp)).trans (hc j hj)⟩
theorem own_addr {w : World} {base n : Nat} {e : TypeId} {v : Value} {l : List UInt8} (h : w.ownsRow base e 1 v n (bvs l)) (hl : 0 < l.length) : ∃ g c, v = .slice (some ⟨g, 0, none⟩) n c ∧ base ≤ g ∧ g < w.heap.size ∧ (c : Int) ≤ 9223372036854775807 := by
  rcases h.2 with ⟨rfl, h0⟩ | ⟨g, cap, cur, rfl, hb, hg, _, hcm, _, _⟩
  · have := h.1
    rw [h0, bvs_length] at this
    omega
  · refine ⟨g, cap, rfl, hb, (Array.getElem?_eq_some_iff.1 hg).1, ?_⟩
    unfold maxLen at hcm; omega
theorem own_addr' {w : World} {base n : Nat} {e : TypeId} {v : Value} {xs : List Value} (h : w.ownsRow base e 1 v (n + 1) xs) : ∃ g c, v = .slice (some ⟨g, 0, none⟩) (n + 1) c ∧ base ≤ g ∧ g < w.heap.size ∧ (c : Int) ≤ 9223372036854775807 := by
  rcases h.2 with ⟨_, h0⟩ | ⟨g, cap, cur, rfl, hb, hg, _, hcm, _, _⟩
  · omega
  · refine ⟨g, cap, rfl, hb, (Array.getElem?_eq_some_iff.1 hg).1, ?_⟩
    unfold maxLen at hcm; omega
theorem bel_drewN (w : World) (n : Nat) : Below w.heap.size w (w.drewN n) := ⟨rfl, rfl, rfl, Nat.le_refl _, fun _ _ => rfl⟩
theorem rb_set {w : World} {b o n c : Nat} {l : List UInt8} (h : RB w (.slice (some ⟨b, o, none⟩) n c) l) {k : Nat} (hk : k < l.length) (u : UInt8) : RB (w.setCell ⟨b, o + k, none⟩ (bv u)) (.slice (some ⟨b, o, none⟩) n c) (l.set k u) := by
  obtain ⟨A, c', he, h1, h2, h3⟩ := h
  injection he with e1 e2 e3
  subst e1
  subst e2
  subst e3
  rcases h3 with h3 | ⟨b', o', he, hb, hc⟩
  · rw [h3] at hk; simp at hk
  · injection he with he
    injection he with e1 e2 _
    subst e1
    subst e2
    refine ⟨_, c, by rw [List.length_set], by rw [List.length_set]; exact h1, h2, .inr ⟨b, o, rfl, by simpa using hb, fun j hj => ?_⟩⟩
    rw [List.length_set] at hj
    have hcj := hc j hj
    have hck := hc k hk
    rw [List.getElem_set]
    by_cases e : k = j
    · subst e
      simp [go_sem, hck]
    · rw [if_neg e, ← hcj]
      simp [go_sem]
theorem own_known {w : World} {base n : Nat} {e : TypeId} {v : Value} {xs : List Value} (h : w.ownsRow base e 1 v n xs) (hn0 : 0 < n) : ∃ g c, v = .slice (some ⟨g, 0, none⟩) n c ∧ base ≤ g ∧ g < w.heap.size ∧ (c : Int) ≤ 9223372036854775807 ∧ (n ≤ c) ∧ ∀ i, w.frozen? ⟨g, i, none⟩ = false := by
  rcases h.2 with ⟨_, h0⟩ | ⟨g, cap, cur, rfl, hb, hg, hn, hcm, _, _⟩
  · omega
  · refine ⟨g, cap, rfl, hb, (Array.getElem?_eq_some_iff.1 hg).1, ?_, hn, fun i => ?_⟩
    · unfold maxLen at hcm; omega
    · exact Blk.frozen (t := e) (cs := cur) hg i
theorem rb_head6 {w : World} {A : Option Addr} {c n : Nat} {l : List UInt8} (h : RB w (.slice A 256 c) l) (hl : l.length = 256) (hn : n ≤ 256) : RB w (.slice A n c) (l.take n) := by
  rw [← hl] at h
  exact h.head (by omega)
theorem lit_str (W : World) (x : Int) (h0 : 0 ≤ x) (h1 : x < 256) : (convert 25 9 (.slice (some ⟨W.heap.size, 0, none⟩) 1 1)).run Tryd.prog (W.alloc (.cells #[.int .u8 x] 5)) = .ok (.string ⟨#[UInt8.ofNat x.toNat]⟩) (W.alloc (.cells #[.int .u8 x] 5)) := by
  have e : #[Value.int .u8 x] = (bvs [UInt8.ofNat x.toNat]).toArray := by
    have : ((UInt8.ofNat x.toNat).toNat : Int) = x := by rw [byte_val (by omega)]; omega
    simp only [bvs, bv, List.map_cons, List.map_nil, this]
  exact str22 (RB.lit W 5 (0, 0) [UInt8.ofNat x.toNat] _ e 1 rfl (by decide))
theorem bv_nat {n : Nat} (h : n < 256) : Value.int .u8 (n : Int) = bv (UInt8.ofNat n) := by
  unfold bv
  rw [byte_val h]
theorem bva_get {l : List UInt8} {j : Nat} (h : j < l.length) : (bvs l).toArray[j]? = some (bv l[j]) := by
  rw [List.getElem?_toArray, bvs_get h]
theorem one5 : (Tryd.prog.info? 5).map (·.size) = some 1 := by kernel_rfl
end Go.Proofs.YtcmkmdghekkkhaaDoor
