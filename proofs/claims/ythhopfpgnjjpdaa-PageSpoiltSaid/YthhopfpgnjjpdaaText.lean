/-
  The contract of code.Text: how many bytes a text has, and these, for every text of at most a billion bytes.
-/
import Derived.Test.YthhopfpgnjjpdaaNum
import Derived.Test.YthhopfpgnjjpdaaMath
namespace Go.Proofs.Ythhopfpgnjjpdaa
open Go.RowKit Go.Rst
/-- A block known whole. -/
def Blk (w : World) (g : Nat) (t : TypeId) (cs : Array Value) : Prop := w.heap[g]? = some (.cells cs t (0, 0))
section
variable {w w' : World} {g : Nat} {t : TypeId} {cs : Array Value}
theorem Blk.lt (h : Blk w g t cs) : g < w.heap.size := by
  rcases Nat.lt_or_ge g w.heap.size with hlt | hge
  · exact hlt
  · unfold Blk at h; rw [Array.getElem?_eq_none hge] at h; cases h
theorem Blk.cell (h : Blk w g t cs) (i : Nat) : w.cell? ⟨g, i, none⟩ = cs[i]? := cell_of_row w g i cs t (0, 0) h
theorem Blk.frozen (h : Blk w g t cs) (i : Nat) : w.frozen? ⟨g, i, none⟩ = false := by
  unfold Blk at h
  simp [World.frozen?, h]
theorem Blk.alloc (h : Blk w g t cs) (o : Obj) : Blk (w.alloc o) g t cs := (Below.heap_alloc w o g h.lt).trans h
theorem Blk.set_ (h : Blk w g t cs) (i : Nat) (u : Value) : Blk (w.setCell ⟨g, i, none⟩ u) g t (cs.setIfInBounds i u) := by
  unfold Blk at h ⊢
  simp [World.setCell, Array.getElem?_modify, h]
theorem Blk.far (h : Blk w g t cs) {p : Addr} (hp : g ≠ p.block) (u : Value) : Blk (w.setCell p u) g t cs := (Below.heap_setCell w p u g hp).trans h
theorem Blk.below {B : Nat} (h : Blk w g t cs) (hb : Below B w w') (hg : g < B) : Blk w' g t cs := (hb.block g hg).trans h
end
theorem str22 {w : World} {v : Value} {l : List UInt8} (h : RB w v l) : (convert 22 9 v).run Try.prog w = .ok (.string ⟨l.toArray⟩) w := h.str Try.underlying22 Try.underlying5 Try.underlying9
theorem rb_cell {w : World} {A : Option Addr} {c : Nat} {l : List UInt8} (h : RB w (.slice A l.length c) l) {k : Nat} (hk : k < l.length) :
    ∃ b off, A = some ⟨b, off, none⟩ ∧ b < w.heap.size ∧ w.cell? ⟨b, off + k, none⟩ = some (bv l[k]) := by
  obtain ⟨A', c', he, _, _, h3⟩ := h
  injection he with e1 e2 e3
  subst e1
  rcases h3 with h3 | ⟨b, off, h4, h5, h6⟩
  · rw [h3] at hk; simp at hk
  · exact ⟨b, off, h4, h5, h6 k hk⟩

theorem rb_far {w : World} {b o n c : Nat} {l : List UInt8} (h : RB w (.slice (some ⟨b, o, none⟩) n c) l) {p : Addr} (hp : b ≠ p.block) (u : Value) : RB (w.setCell p u) (.slice (some ⟨b, o, none⟩) n c) l := by
  obtain ⟨A, c', he, h1, h2, h3⟩ := h
  refine ⟨A, c', he, h1, h2, ?_⟩
  rcases h3 with h3 | ⟨b', o', rfl, hb, hc⟩
  · exact .inl h3
  · injection he with he _ _
    injection he with he
    injection he with e1 _ _
    subst e1
    exact .inr ⟨b, o', rfl, by simpa using hb, fun j hj => (World.cell?_of_block (a := ⟨b, o' + j, none⟩) (Below.heap_setCell w p u b hp)).trans (hc j hj)⟩
theorem own_addr {w : World} {base n : Nat} {e : TypeId} {v : Value} {l : List UInt8} (h : w.ownsRow base e 1 v n (bvs l)) (hl : 0 < l.length) : ∃ g c, v = .slice (some ⟨g, 0, none⟩) n c ∧ base ≤ g ∧ g < w.heap.size ∧ (c : Int) ≤ 9223372036854775807 := by
  rcases h.2 with ⟨rfl, h0⟩ | ⟨g, cap, cur, rfl, hb, hg, _, hcm, _, _⟩
  · have := h.1
    rw [h0, bvs_length] at this
    omega
  · refine ⟨g, cap, rfl, hb, (Array.getElem?_eq_some_iff.1 hg).1, ?_⟩
    unfold maxLen at hcm; omega
theorem own_addr' {w : World} {base n : Nat} {e : TypeId} {v : Value} {xs : List Value} (h : w.ownsRow base e 1 v (n + 1) xs) : ∃ g c, v = .slice (some ⟨g, 0, none⟩) (n + 1) c ∧ base ≤ g ∧ g < w.heap.size ∧ (c : Int) ≤ 9223372036854775807 := by
  rcases h.2 with ⟨_, h0⟩ | ⟨g, cap, cur, rfl, hb, hg, _, hcm, _, _⟩
  · omega
  · refine ⟨g, cap, rfl, hb, (Array.getElem?_eq_some_iff.1 hg).1, ?_⟩
    unfold maxLen at hcm; omega

set_option maxRecDepth 100000 in
set_option maxHeartbeats 400000 in
theorem text_any (s : ByteArray) (hs : s.size ≤ 1000000000) (w : World) : Calls Try.prog 31 #[.string s] w (NewB 5 w (textL s.data.toList)) := by
  go_enter Try.func31, Try.ntmps31
  go_wp2_with fail
  refine (num_any _ _).mono ?_
  rintro e w1 ⟨v, rfl, hown, hbel⟩
  have e1 : clip (s.size : Int) = s.data.toList.length := by unfold clip; rw [Array.length_toList]; show _ = s.size; omega
  rw [e1] at hown
  have h8 := numL_len8 (n := s.data.toList.length) (by rw [Array.length_toList]; show s.size ≤ _; omega)
  have hls : s.data.toList.length = s.size := by rw [Array.length_toList]; rfl
  have HLS := Lib.hid hls
  clear hls e1
  go_wp2_with (at_builtin; refine wpList_own rfl (.tmp 5) (.tmp 6) 22 9 rfl w.heap.size 5 (.int .u8 0) 1 1 Try.underlying22 info5 rfl rfl hown rfl (src_string Try.underlying9 s) hbel (Nat.le_refl _) ?_ ?_ ?_ ?_)
  · have := HLS.out; unfold maxLen; omega
  · have := HLS.out; omega
  · exact hbel.size
  · intro v' w2 hown' hbel' _
    go_wp2
    go_ret
    exact ⟨v', rfl, own_cat hown', hbel'⟩
end Go.Proofs.Ythhopfpgnjjpdaa
