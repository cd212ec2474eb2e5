/-
  Words on bytes that lie in memory, over the seat's program, without any of its functions.
-/
import Derived.Test.YtomkbgghljcbfaaMath
import Derived.Test.YtomkbgghljcbfaaProg
import Derived.Deep.QuietTactic
import Derived.BigQuiet
set_option linter.unusedVariables false

namespace Go.Proofs.Ytomkbgghljcbfaa
open Go.RowKit Go.Rst
theorem info5 : (Try.prog.info? 5).map (fun i => (i.zero, i.size, i.bytes)) = some (some (.int .u8 0), 1, 1) := by kernel_rfl
/-- A block known whole. -/
def Blk (w : World) (g : Nat) (t : TypeId) (cs : Array Value) : Prop := w.heap[g]? = some (.cells cs t (0, 0))
section
variable {w w' : World} {g : Nat} {t : TypeId} {cs : Array Value}
theorem Blk.lt (h : Blk w g t cs) : g < w.heap.size := by
  rcases Nat.lt_or_ge g w.heap.size with hlt | hge
  · exact hlt
  · unfold Blk at h; rw [Array.getElem?_eq_none hge] at h; cases h
theorem Blk.cell (h : Blk w g t cs) (i : Nat) : w.cell? ⟨g, i, none⟩ = cs[i]? := cell_of_row w g i cs t (0, 0) h
theorem Blk.frozen (h : Blk w g t cs) (i : Nat) : w.frozen? ⟨g, i, none⟩ = false := by
  unfold Blk at h
  simp [World.frozen?, h]
theorem Blk.alloc (h : Blk w g t cs) (o : Obj) : Blk (w.alloc o) g t cs := (Below.heap_alloc w o g h.lt).trans h
theorem Blk.set_ (h : Blk w g t cs) (i : Nat) (u : Value) : Blk (w.setCell ⟨g, i, none⟩ u) g t (cs.setIfInBounds i u) := by
  unfold Blk at h ⊢
  simp [World.setCell, Array.getElem?_modify, h]
theorem Blk.far (h : Blk w g t cs) {p : Addr} (hp : g ≠ p.block) (u : Value) : Blk (w.setCell p u) g t cs := (Below.heap_setCell w p u g hp).trans h
theorem Blk.below {B : Nat} (h : Blk w g t cs) (hb : Below B w w') (hg : g < B) : Blk w' g t cs := (hb.block g hg).trans h
end
theorem str22 {w : World} {v : Value} {l : List UInt8} (h : RB w v l) : (convert 23 9 v).run Try.prog w = .ok (.string ⟨l.toArray⟩) w := h.str Try.underlying23 Try.underlying5 Try.underlying9
theorem rb_cell {w : World} {A : Option Addr} {c : Nat} {l : List UInt8} (h : RB w (.slice A l.length c) l) {k : Nat} (hk : k < l.length) :
    ∃ b off, A = some ⟨b, off, none⟩ ∧ b < w.heap.size ∧ w.cell? ⟨b, off + k, none⟩ = some (bv l[k]) := by
  obtain ⟨A', c', he, _, _, h3⟩ := h
  injection he with e1 e2 e3
  subst e1
  rcases h3 with h3 | ⟨b, off, h4, h5, h6⟩
  · rw [h3] at hk; simp at hk
  · exact ⟨b, off, h4, h5, h6 k hk⟩

theorem rb_far {w : World} {b o n c : Nat} {l : List UInt8} (h : RB w (.slice (some ⟨b, o, none⟩) n c) l) {p : Addr} (hp : b ≠ p.block) (u : Value) : RB (w.setCell p u) (.slice (some ⟨b, o, none⟩) n c) l := by
  obtain ⟨A, c', he, h1, h2, h3⟩ := h
  refine ⟨A, c', he, h1, h2, ?_⟩
  rcases h3 with h3 | ⟨b', o', rfl, hb, hc⟩
  · exact .inl h3
  · injection he with he _ _
    injection he with he
    injection he with e1 _ _
    subst e1
    exact .inr ⟨b, o', rfl, by simpa using hb, fun j hj => (World.cell?_of_block (a := ⟨b, o' + j, none⟩) (Below.heap_setCell w p u b hp)).trans (hc j hj)⟩
theorem own_addr {w : World} {base n : Nat} {e : TypeId} {v : Value} {l : List UInt8} (h : w.ownsRow base e 1 v n (bvs l)) (hl : 0 < l.length) : ∃ g c, v = .slice (some ⟨g, 0, none⟩) n c ∧ base ≤ g ∧ g < w.heap.size ∧ (c : Int) ≤ 9223372036854775807 := by
  rcases h.2 with ⟨rfl, h0⟩ | ⟨g, cap, cur, rfl, hb, hg, _, hcm, _, _⟩
  · have := h.1
    rw [h0, bvs_length] at this
    omega
  · refine ⟨g, cap, rfl, hb, (Array.getElem?_eq_some_iff.1 hg).1, ?_⟩
    unfold maxLen at hcm; omega
theorem own_addr' {w : World} {base n : Nat} {e : TypeId} {v : Value} {xs : List Value} (h : w.ownsRow base e 1 v (n + 1) xs) : ∃ g c, v = .slice (some ⟨g, 0, none⟩) (n + 1) c ∧ base ≤ g ∧ g < w.heap.size ∧ (c : Int) ≤ 9223372036854775807 := by
  rcases h.2 with ⟨_, h0⟩ | ⟨g, cap, cur, rfl, hb, hg, _, hcm, _, _⟩
  · omega
  · refine ⟨g, cap, rfl, hb, (Array.getElem?_eq_some_iff.1 hg).1, ?_⟩
    unfold maxLen at hcm; omega
theorem bel_drewN (w : World) (n : Nat) : Below w.heap.size w (w.drewN n) := ⟨rfl, rfl, rfl, Nat.le_refl _, fun _ _ => rfl⟩
theorem rb_set {w : World} {b o n c : Nat} {l : List UInt8} (h : RB w (.slice (some ⟨b, o, none⟩) n c) l) {k : Nat} (hk : k < l.length) (u : UInt8) : RB (w.setCell ⟨b, o + k, none⟩ (bv u)) (.slice (some ⟨b, o, none⟩) n c) (l.set k u) := by
  obtain ⟨A, c', he, h1, h2, h3⟩ := h
  injection he with e1 e2 e3
  subst e1
  subst e2
  subst e3
  rcases h3 with h3 | ⟨b', o', he, hb, hc⟩
  · rw [h3] at hk; simp at hk
  · injection he with he
    injection he with e1 e2 _
    subst e1
    subst e2
    refine ⟨_, c, by rw [List.length_set], by rw [List.length_set]; exact h1, h2, .inr ⟨b, o, rfl, by simpa using hb, fun j hj => ?_⟩⟩
    rw [List.length_set] at hj
    have hcj := hc j hj
    have hck := hc k hk
    rw [List.getElem_set]
    by_cases e : k = j
    · subst e
      simp [go_sem, hck]
    · rw [if_neg e, ← hcj]
      simp [go_sem]
theorem own_known {w : World} {base n : Nat} {e : TypeId} {v : Value} {xs : List Value} (h : w.ownsRow base e 1 v n xs) (hn0 : 0 < n) : ∃ g c, v = .slice (some ⟨g, 0, none⟩) n c ∧ base ≤ g ∧ g < w.heap.size ∧ (c : Int) ≤ 9223372036854775807 ∧ (n ≤ c) ∧ ∀ i, w.frozen? ⟨g, i, none⟩ = false := by
  rcases h.2 with ⟨_, h0⟩ | ⟨g, cap, cur, rfl, hb, hg, hn, hcm, _, _⟩
  · omega
  · refine ⟨g, cap, rfl, hb, (Array.getElem?_eq_some_iff.1 hg).1, ?_, hn, fun i => ?_⟩
    · unfold maxLen at hcm; omega
    · exact Blk.frozen (t := e) (cs := cur) hg i
theorem rb_head6 {w : World} {A : Option Addr} {c n : Nat} {l : List UInt8} (h : RB w (.slice A 256 c) l) (hl : l.length = 256) (hn : n ≤ 256) : RB w (.slice A n c) (l.take n) := by
  rw [← hl] at h
  exact h.head (by omega)
theorem lit_str (W : World) (x : Int) (h0 : 0 ≤ x) (h1 : x < 256) : (convert 23 9 (.slice (some ⟨W.heap.size, 0, none⟩) 1 1)).run Try.prog (W.alloc (.cells #[.int .u8 x] 5)) = .ok (.string ⟨#[UInt8.ofNat x.toNat]⟩) (W.alloc (.cells #[.int .u8 x] 5)) := by
  have e : #[Value.int .u8 x] = (bvs [UInt8.ofNat x.toNat]).toArray := by
    have : ((UInt8.ofNat x.toNat).toNat : Int) = x := by rw [byte_val (by omega)]; omega
    simp only [bvs, bv, List.map_cons, List.map_nil, this]
  exact str22 (RB.lit W 5 (0, 0) [UInt8.ofNat x.toNat] _ e 1 rfl (by decide))
theorem bv_nat {n : Nat} (h : n < 256) : Value.int .u8 (n : Int) = bv (UInt8.ofNat n) := by
  unfold bv
  rw [byte_val h]
theorem bva_get {l : List UInt8} {j : Nat} (h : j < l.length) : (bvs l).toArray[j]? = some (bv l[j]) := by
  rw [List.getElem?_toArray, bvs_get h]
theorem one5 : (Try.prog.info? 5).map (·.size) = some 1 := by kernel_rfl
end Go.Proofs.Ytomkbgghljcbfaa

/-
  Words on rows that lie in memory, over the seat's program, without any of its functions.
-/
namespace Go.Proofs.Ytomkbgghljcbfaa
open Go.RowKit Go.Rst
theorem info53 : (Try.prog.info? 53).map (fun i => (i.zero, i.size, i.bytes)) = some (some (.agg #[.string ⟨#[]⟩, .slice none 0 0]), 2, 40) := by kernel_rfl
theorem rr_at {w : World} {A : Option Addr} {n c : Nat} {rs : List (ByteArray × List UInt8)} (h : RR w (.slice A n c) rs) {k : Nat} (hk : k < rs.length) :
    ∃ b off u, A = some ⟨b, off, none⟩ ∧ w.cell? ⟨b, off + k * 2, none⟩ = some (.string rs[k].1) ∧ w.cell? ⟨b, off + k * 2 + 1, none⟩ = some u ∧ RB w u rs[k].2 := by
  obtain ⟨A', c', he, _, _, h3⟩ := h
  injection he with e1 _ _
  subst e1
  rcases h3 with rfl | ⟨b, off, rfl, _, hc⟩
  · simp at hk
  · obtain ⟨h1, u, h2, h3⟩ := hc k hk
    exact ⟨b, off, u, rfl, h1, h2, h3⟩
theorem rr_below {w w' : World} {B : Nat} {v : Value} {rs : List (ByteArray × List UInt8)} (h : RR w v rs) (hb : Below B w w') (hB : w.heap.size ≤ B) : RR w' v rs := by
  obtain ⟨A, c, rfl, h1, h2, h3⟩ := h
  refine ⟨A, c, rfl, h1, h2, ?_⟩
  rcases h3 with rfl | ⟨b, off, rfl, hb0, hc⟩
  · exact .inl rfl
  · refine .inr ⟨b, off, rfl, Nat.lt_of_lt_of_le hb0 (hb.size), fun j hj => ?_⟩
    obtain ⟨a1, u, a2, a3⟩ := hc j hj
    exact ⟨(hb.cell (p := ⟨b, off + j * 2, none⟩) (by show b < B; omega)).trans a1, u, (hb.cell (p := ⟨b, off + j * 2 + 1, none⟩) (by show b < B; omega)).trans a2, a3.below (hb.mono hB)⟩
theorem rr_block {w : World} {b off n c : Nat} {rs : List (ByteArray × List UInt8)} (h : RR w (.slice (some ⟨b, off, none⟩) n c) rs) (hl : 0 < rs.length) : b < w.heap.size := by
  obtain ⟨A', c', he, _, _, h3⟩ := h
  injection he with e1 _ _
  rcases h3 with rfl | ⟨b', off', h4, h5, _⟩
  · simp at hl
  · rw [h4] at e1; injection e1 with e1; injection e1 with e1 _ _; omega
theorem rr_nil (w : World) : RR w (.slice none 0 0) [] := ⟨none, 0, rfl, Nat.le_refl _, Nat.zero_le _, .inl rfl⟩
theorem rr_take {w : World} {A : Option Addr} {m c : Nat} {rs : List (ByteArray × List UInt8)} (h : RR w (.slice A m c) rs) {n : Nat} (hn : n ≤ rs.length) : RR w (.slice A n c) (rs.take n) := by
  obtain ⟨A', c', he, h1, h2, h3⟩ := h
  injection he with e1 _ e3
  subst e1
  subst e3
  have hl : (rs.take n).length = n := by rw [List.length_take]; omega
  refine ⟨A, c, by rw [hl], by omega, h2, ?_⟩
  rcases h3 with rfl | ⟨b, off, rfl, hb, hc⟩
  · exact .inl (by simp)
  · refine .inr ⟨b, off, rfl, hb, fun j hj => ?_⟩
    have := hc j (by omega)
    rw [List.getElem_take]
    exact this
theorem rr_alloc {w : World} {v : Value} {rs : List (ByteArray × List UInt8)} (h : RR w v rs) (o : Obj) : RR (w.alloc o) v rs := rr_below h ((Below.refl _ _).alloc (Nat.le_refl _) o) (Nat.le_refl _)
theorem or_shape {e eR : TypeId} {w : World} {base : Nat} {v : Value} {rs : List (ByteArray × List UInt8)} (h : OR e eR w base v rs) : ∃ A c, v = .slice A rs.length c := by
  obtain ⟨A, c, h, _⟩ := h.rr
  exact ⟨A, c, h⟩
end Go.Proofs.Ytomkbgghljcbfaa

/-
  The contract of the reference's SameRows, at rows that read alike: it answers true.
-/
namespace Go.Proofs.Ytomkbgghljcbfaa
open Go.RowKit Go.Rst

set_option maxRecDepth 100000 in
set_option maxHeartbeats 800000 in
theorem sameRows_any (va vb : Value) (rs : List (ByteArray × List UInt8)) (w : World) (ha : RR w va rs) (hb : RR w vb rs) : Calls Try.prog 17 #[va, vb] w fun e w' => e = .returned (.bool true) ∧ ∃ m, w' = w.drewN m := by
  have HA := Lib.hid ha
  have HB := Lib.hid hb
  obtain ⟨A1, c1, rfl, hl1, hc1, _⟩ := ha
  obtain ⟨A2, c2, rfl, hl2, hc2, _⟩ := hb
  unfold maxLen at hc1 hc2
  have hbne : ((rs.length : Int) != (rs.length : Int)) = false := by simp
  go_enter Try.func17, Try.ntmps17
  go_wp2
  go_loopw [5] (fun i wr => ∃ k : Nat, k ≤ rs.length ∧ i = .int .i64 k ∧ ∃ m, wr = w.drewN m) (fun i _ => rs.length - (intOf i).toNat)
  case atStart => exact ⟨0, Nat.zero_le _, rfl, 0, rfl⟩
  case round =>
    obtain ⟨k, hk, rfl, m, rfl⟩ := hrel
    by_cases hlt : k < rs.length
    · obtain ⟨b1, o1, u1, rfl, hx1, hy1, hr1⟩ := rr_at HA.out hlt
      obtain ⟨b2, o2, u2, rfl, hx2, hy2, hr2⟩ := rr_at HB.out hlt
      have hs1 := fun (W : World) (hW : W.heap = w.heap) => (hr1.keep (w' := W) (by rw [hW]; exact Nat.le_refl _) (fun b o _ => by simp [World.cell?, hW])).str (P := Try.prog) (src := 23) (dst := 9) Try.underlying23 Try.underlying5 Try.underlying9
      have hs2 := fun (W : World) (hW : W.heap = w.heap) => (hr2.keep (w' := W) (by rw [hW]; exact Nat.le_refl _) (fun b o _ => by simp [World.cell?, hW])).str (P := Try.prog) (src := 23) (dst := 9) Try.underlying23 Try.underlying5 Try.underlying9
      have hs1' := fun j => hs1 (w.drewN j) rfl
      have hs2' := fun j => hs2 (w.drewN j) rfl
      generalize rs[k] = r at *
      clear hs1 hs2
      go_wp2
      go_quiet (fail)
      go_wp2
      go_roundw
      case rel => exact ⟨k + 1, by omega, by go_num, _, rfl⟩
      case measure => simp [intOf]; omega
    · go_wp2
      go_ret
      exact ⟨rfl, m, rfl⟩
end Go.Proofs.Ytomkbgghljcbfaa
