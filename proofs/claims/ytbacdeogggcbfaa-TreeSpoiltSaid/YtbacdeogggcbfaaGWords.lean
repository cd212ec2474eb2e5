/-
  Words on bytes that lie in memory, over the seat's program, without any of its functions.
-/
import Derived.Test.YtbacdeogggcbfaaMath
import Derived.Test.YtbacdeogggcbfaaProg

namespace Go.Proofs.Ytbacdeogggcbfaa
open Go.RowKit Go.Rst
theorem info5 : (Try.prog.info? 5).map (fun i => (i.zero, i.size, i.bytes)) = some (some (.int .u8 0), 1, 1) := by kernel_rfl
/-- A block known whole. -/
def Blk (w : World) (g : Nat) (t : TypeId) (cs : Array Value) : Prop := w.heap[g]? = some (.cells cs t (0, 0))
section
variable {w w' : World} {g : Nat} {t : TypeId} {cs : Array Value}
theorem Blk.lt (h : Blk w g t cs) : g < w.heap.size := by
  rcases Nat.lt_or_ge g w.heap.size with hlt | hge
  · exact hlt
  · unfold Blk at h; rw [Array.getElem?_eq_none hge] at h; cases h
theorem Blk.cell (h : Blk w g t cs) (i : Nat) : w.cell? ⟨g, i, none⟩ = cs[i]? := cell_of_row w g i cs t (0, 0) h
theorem Blk.frozen (h : Blk w g t cs) (i : Nat) : w.frozen? ⟨g, i, none⟩ = false := by
  unfold Blk at h
  simp [World.frozen?, h]
theorem Blk.alloc (h : Blk w g t cs) (o : Obj) : Blk (w.alloc o) g t cs := (Below.heap_alloc w o g h.lt).trans h
theorem Blk.set_ (h : Blk w g t cs) (i : Nat) (u : Value) : Blk (w.setCell ⟨g, i, none⟩ u) g t (cs.setIfInBounds i u) := by
  unfold Blk at h ⊢
  simp [World.setCell, Array.getElem?_modify, h]
theorem Blk.far (h : Blk w g t cs) {p : Addr} (hp : g ≠ p.block) (u : Value) : Blk (w.setCell p u) g t cs := (Below.heap_setCell w p u g hp).trans h
theorem Blk.below {B : Nat} (h : Blk w g t cs) (hb : Below B w w') (hg : g < B) : Blk w' g t cs := (hb.block g hg).trans h
end
theorem str22 {w : World} {v : Value} {l : List UInt8} (h : RB w v l) : (convert 23 9 v).run Try.prog w = .ok (.string ⟨l.toArray⟩) w := h.str Try.underlying23 Try.underlying5 Try.underlying9
theorem rb_cell {w : World} {A : Option Addr} {c : Nat} {l : List UInt8} (h : RB w (.slice A l.length c) l) {k : Nat} (hk : k < l.length) :
    ∃ b off, A = some ⟨b, off, none⟩ ∧ b < w.heap.size ∧ w.cell? ⟨b, off + k, none⟩ = some (bv l[k]) := by
  obtain ⟨A', c', he, _, _, h3⟩ := h
  injection he with e1 e2 e3
  subst e1
  rcases h3 with h3 | ⟨b, off, h4, h5, h6⟩
  · rw [h3] at hk; simp at hk
  · exact ⟨b, off, h4, h5, h6 k hk⟩

theorem rb_far {w : World} {b o n c : Nat} {l : List UInt8} (h : RB w (.slice (some ⟨b, o, none⟩) n c) l) {p : Addr} (hp : b ≠ p.block) (u : Value) : RB (w.setCell p u) (.slice (some ⟨b, o, none⟩) n c) l := by
  obtain ⟨A, c', he, h1, h2, h3⟩ := h
  refine ⟨A, c', he, h1, h2, ?_⟩
  rcases h3 with h3 | ⟨b', o', rfl, hb, hc⟩
  · exact .inl h3
  · injection he with he _ _
    injection he with he
    injection he with e1 _ _
    subst e1
    exact .inr ⟨b, o', rfl, by simpa using hb, fun j hj => (World.cell?_of_block (a := ⟨b, o' + j, none⟩) (Below.heap_setCell w p u b hp)).trans (hc j hj)⟩
theorem own_addr {w : World} {base n : Nat} {e : TypeId} {v : Value} {l : List UInt8} (h : w.ownsRow base e 1 v n (bvs l)) (hl : 0 < l.length) : ∃ g c, v = .slice (some ⟨g, 0, none⟩) n c ∧ base ≤ g ∧ g < w.heap.size ∧ (c : Int) ≤ 9223372036854775807 := by
  rcases h.2 with ⟨rfl, h0⟩ | ⟨g, cap, cur, rfl, hb, hg, _, hcm, _, _⟩
  · have := h.1
    rw [h0, bvs_length] at this
    omega
  · refine ⟨g, cap, rfl, hb, (Array.getElem?_eq_some_iff.1 hg).1, ?_⟩
    unfold maxLen at hcm; omega
theorem own_addr' {w : World} {base n : Nat} {e : TypeId} {v : Value} {xs : List Value} (h : w.ownsRow base e 1 v (n + 1) xs) : ∃ g c, v = .slice (some ⟨g, 0, none⟩) (n + 1) c ∧ base ≤ g ∧ g < w.heap.size ∧ (c : Int) ≤ 9223372036854775807 := by
  rcases h.2 with ⟨_, h0⟩ | ⟨g, cap, cur, rfl, hb, hg, _, hcm, _, _⟩
  · omega
  · refine ⟨g, cap, rfl, hb, (Array.getElem?_eq_some_iff.1 hg).1, ?_⟩
    unfold maxLen at hcm; omega
theorem bel_drewN (w : World) (n : Nat) : Below w.heap.size w (w.drewN n) := ⟨rfl, rfl, rfl, Nat.le_refl _, fun _ _ => rfl⟩
theorem rb_set {w : World} {b o n c : Nat} {l : List UInt8} (h : RB w (.slice (some ⟨b, o, none⟩) n c) l) {k : Nat} (hk : k < l.length) (u : UInt8) : RB (w.setCell ⟨b, o + k, none⟩ (bv u)) (.slice (some ⟨b, o, none⟩) n c) (l.set k u) := by
  obtain ⟨A, c', he, h1, h2, h3⟩ := h
  injection he with e1 e2 e3
  subst e1
  subst e2
  subst e3
  rcases h3 with h3 | ⟨b', o', he, hb, hc⟩
  · rw [h3] at hk; simp at hk
  · injection he with he
    injection he with e1 e2 _
    subst e1
    subst e2
    refine ⟨_, c, by rw [List.length_set], by rw [List.length_set]; exact h1, h2, .inr ⟨b, o, rfl, by simpa using hb, fun j hj => ?_⟩⟩
    rw [List.length_set] at hj
    have hcj := hc j hj
    have hck := hc k hk
    rw [List.getElem_set]
    by_cases e : k = j
    · subst e
      simp [go_sem, hck]
    · rw [if_neg e, ← hcj]
      simp [go_sem]
theorem own_known {w : World} {base n : Nat} {e : TypeId} {v : Value} {xs : List Value} (h : w.ownsRow base e 1 v n xs) (hn0 : 0 < n) : ∃ g c, v = .slice (some ⟨g, 0, none⟩) n c ∧ base ≤ g ∧ g < w.heap.size ∧ (c : Int) ≤ 9223372036854775807 ∧ (n ≤ c) ∧ ∀ i, w.frozen? ⟨g, i, none⟩ = false := by
  rcases h.2 with ⟨_, h0⟩ | ⟨g, cap, cur, rfl, hb, hg, hn, hcm, _, _⟩
  · omega
  · refine ⟨g, cap, rfl, hb, (Array.getElem?_eq_some_iff.1 hg).1, ?_, hn, fun i => ?_⟩
    · unfold maxLen at hcm; omega
    · exact Blk.frozen (t := e) (cs := cur) hg i
theorem rb_head6 {w : World} {A : Option Addr} {c n : Nat} {l : List UInt8} (h : RB w (.slice A 256 c) l) (hl : l.length = 256) (hn : n ≤ 256) : RB w (.slice A n c) (l.take n) := by
  rw [← hl] at h
  exact h.head (by omega)
theorem lit_str (W : World) (x : Int) (h0 : 0 ≤ x) (h1 : x < 256) : (convert 23 9 (.slice (some ⟨W.heap.size, 0, none⟩) 1 1)).run Try.prog (W.alloc (.cells #[.int .u8 x] 5)) = .ok (.string ⟨#[UInt8.ofNat x.toNat]⟩) (W.alloc (.cells #[.int .u8 x] 5)) := by
  have e : #[Value.int .u8 x] = (bvs [UInt8.ofNat x.toNat]).toArray := by
    have : ((UInt8.ofNat x.toNat).toNat : Int) = x := by rw [byte_val (by omega)]; omega
    simp only [bvs, bv, List.map_cons, List.map_nil, this]
  exact str22 (RB.lit W 5 (0, 0) [UInt8.ofNat x.toNat] _ e 1 rfl (by decide))
theorem bv_nat {n : Nat} (h : n < 256) : Value.int .u8 (n : Int) = bv (UInt8.ofNat n) := by
  unfold bv
  rw [byte_val h]
theorem bva_get {l : List UInt8} {j : Nat} (h : j < l.length) : (bvs l).toArray[j]? = some (bv l[j]) := by
  rw [List.getElem?_toArray, bvs_get h]
theorem one5 : (Try.prog.info? 5).map (·.size) = some 1 := by kernel_rfl
end Go.Proofs.Ytbacdeogggcbfaa

/-
  Words on rows that lie in memory, over the seat's program, without any of its functions.
-/
namespace Go.Proofs.Ytbacdeogggcbfaa
open Go.RowKit Go.Rst
theorem info25 : (Try.prog.info? 25).map (fun i => (i.zero, i.size, i.bytes)) = some (some (.agg #[.string ⟨#[]⟩, .slice none 0 0]), 2, 40) := by kernel_rfl
theorem rr_at {w : World} {A : Option Addr} {n c : Nat} {rs : List (ByteArray × List UInt8)} (h : RR w (.slice A n c) rs) {k : Nat} (hk : k < rs.length) :
    ∃ b off u, A = some ⟨b, off, none⟩ ∧ w.cell? ⟨b, off + k * 2, none⟩ = some (.string rs[k].1) ∧ w.cell? ⟨b, off + k * 2 + 1, none⟩ = some u ∧ RB w u rs[k].2 := by
  obtain ⟨A', c', he, _, _, h3⟩ := h
  injection he with e1 _ _
  subst e1
  rcases h3 with rfl | ⟨b, off, rfl, _, hc⟩
  · simp at hk
  · obtain ⟨h1, u, h2, h3⟩ := hc k hk
    exact ⟨b, off, u, rfl, h1, h2, h3⟩
theorem rr_below {w w' : World} {B : Nat} {v : Value} {rs : List (ByteArray × List UInt8)} (h : RR w v rs) (hb : Below B w w') (hB : w.heap.size ≤ B) : RR w' v rs := by
  obtain ⟨A, c, rfl, h1, h2, h3⟩ := h
  refine ⟨A, c, rfl, h1, h2, ?_⟩
  rcases h3 with rfl | ⟨b, off, rfl, hb0, hc⟩
  · exact .inl rfl
  · refine .inr ⟨b, off, rfl, Nat.lt_of_lt_of_le hb0 (hb.size), fun j hj => ?_⟩
    obtain ⟨a1, u, a2, a3⟩ := hc j hj
    exact ⟨(hb.cell (p := ⟨b, off + j * 2, none⟩) (by show b < B; omega)).trans a1, u, (hb.cell (p := ⟨b, off + j * 2 + 1, none⟩) (by show b < B; omega)).trans a2, a3.below (hb.mono hB)⟩
theorem rr_block {w : World} {b off n c : Nat} {rs : List (ByteArray × List UInt8)} (h : RR w (.slice (some ⟨b, off, none⟩) n c) rs) (hl : 0 < rs.length) : b < w.heap.size := by
  obtain ⟨A', c', he, _, _, h3⟩ := h
  injection he with e1 _ _
  rcases h3 with rfl | ⟨b', off', h4, h5, _⟩
  · simp at hl
  · rw [h4] at e1; injection e1 with e1; injection e1 with e1 _ _; omega
theorem rr_nil (w : World) : RR w (.slice none 0 0) [] := ⟨none, 0, rfl, Nat.le_refl _, Nat.zero_le _, .inl rfl⟩
theorem rr_take {w : World} {A : Option Addr} {m c : Nat} {rs : List (ByteArray × List UInt8)} (h : RR w (.slice A m c) rs) {n : Nat} (hn : n ≤ rs.length) : RR w (.slice A n c) (rs.take n) := by
  obtain ⟨A', c', he, h1, h2, h3⟩ := h
  injection he with e1 _ e3
  subst e1
  subst e3
  have hl : (rs.take n).length = n := by rw [List.length_take]; omega
  refine ⟨A, c, by rw [hl], by omega, h2, ?_⟩
  rcases h3 with rfl | ⟨b, off, rfl, hb, hc⟩
  · exact .inl (by simp)
  · refine .inr ⟨b, off, rfl, hb, fun j hj => ?_⟩
    have := hc j (by omega)
    rw [List.getElem_take]
    exact this
theorem rr_alloc {w : World} {v : Value} {rs : List (ByteArray × List UInt8)} (h : RR w v rs) (o : Obj) : RR (w.alloc o) v rs := rr_below h ((Below.refl _ _).alloc (Nat.le_refl _) o) (Nat.le_refl _)
theorem or_shape {e eR : TypeId} {w : World} {base : Nat} {v : Value} {rs : List (ByteArray × List UInt8)} (h : OR e eR w base v rs) : ∃ A c, v = .slice A rs.length c := by
  obtain ⟨A, c, h, _⟩ := h.rr
  exact ⟨A, c, h⟩
end Go.Proofs.Ytbacdeogggcbfaa

/-
  Words on pages that lie in memory: a slice of slices of bytes. No program but the seat's types.
-/
namespace Go.Proofs.Ytbacdeogggcbfaa
open Go.RowKit Go.Rst
theorem info23 : (Try.prog.info? 23).map (fun i => (i.zero, i.size, i.bytes)) = some (some (.slice none 0 0), 1, 24) := by kernel_rfl

/-- A slice that reads as pages. -/
def RP (w : World) (v : Value) (ps : List (List UInt8)) : Prop :=
  ∃ A c, v = .slice A ps.length c ∧ ps.length ≤ c ∧ c ≤ maxLen ∧ (ps = [] ∨ ∃ b off, A = some ⟨b, off, none⟩ ∧ b < w.heap.size ∧ ∀ j (h : j < ps.length), ∃ u, w.cell? ⟨b, off + j, none⟩ = some u ∧ RB w u ps[j])
/-- Pages of the call's own, each in a block of its own. -/
def OP (e eP : TypeId) (w : World) (base : Nat) (v : Value) (ps : List (List UInt8)) : Prop :=
  ∃ us : List (List UInt8 × Value), us.map (·.1) = ps ∧ w.ownsRow base eP 1 v us.length (us.map (·.2)) ∧ ∀ x ∈ us, FB e w base x.2 x.1
theorem rp_nil (w : World) : RP w (.slice none 0 0) [] := ⟨none, 0, rfl, Nat.le_refl _, Nat.zero_le _, .inl rfl⟩
theorem rp_below {w w' : World} {B : Nat} {v : Value} {ps : List (List UInt8)} (h : RP w v ps) (hb : Below B w w') (hB : w.heap.size ≤ B) : RP w' v ps := by
  obtain ⟨A, c, rfl, h1, h2, h3⟩ := h
  refine ⟨A, c, rfl, h1, h2, ?_⟩
  rcases h3 with rfl | ⟨b, off, rfl, hb0, hc⟩
  · exact .inl rfl
  · refine .inr ⟨b, off, rfl, Nat.lt_of_lt_of_le hb0 hb.size, fun j hj => ?_⟩
    obtain ⟨u, a2, a3⟩ := hc j hj
    exact ⟨u, (hb.cell (p := ⟨b, off + j, none⟩) (by show b < B; omega)).trans a2, a3.below (hb.mono hB)⟩
theorem rp_at {w : World} {A : Option Addr} {n c : Nat} {ps : List (List UInt8)} (h : RP w (.slice A n c) ps) {k : Nat} (hk : k < ps.length) :
    ∃ b off u, A = some ⟨b, off, none⟩ ∧ b < w.heap.size ∧ w.cell? ⟨b, off + k, none⟩ = some u ∧ RB w u ps[k] := by
  obtain ⟨A', c', he, _, _, h3⟩ := h
  injection he with e1 _ _
  subst e1
  rcases h3 with rfl | ⟨b, off, rfl, hb, hc⟩
  · simp at hk
  · obtain ⟨u, h1, h2⟩ := hc k hk
    exact ⟨b, off, u, rfl, hb, h1, h2⟩
theorem OP.nil_ (e eP : TypeId) (w : World) (base : Nat) : OP e eP w base (.slice none 0 0) [] := ⟨[], rfl, World.ownsRow_nil _ _ _ _, fun _ h => by cases h⟩
theorem OP.rp {e eP : TypeId} {w : World} {base : Nat} {v : Value} {ps : List (List UInt8)} (h : OP e eP w base v ps) : RP w v ps := by
  obtain ⟨us, rfl, ho, hf⟩ := h
  rcases ho.2 with ⟨rfl, h0⟩ | ⟨g, cap, cur, rfl, hb, hg, hnc, hcm, hcs, ht⟩
  · have : us = [] := List.eq_nil_of_length_eq_zero h0
    subst this
    exact rp_nil w
  · refine ⟨some ⟨g, 0, none⟩, cap, by rw [List.length_map], by rw [List.length_map]; exact hnc, hcm, .inr ⟨g, 0, rfl, (Array.getElem?_eq_some_iff.1 hg).1, fun j hj => ?_⟩⟩
    rw [List.length_map] at hj
    have hc := ho.cells (g := g) rfl j us[j].2 (by simp [hj])
    rw [Addr.add_lit] at hc
    refine ⟨us[j].2, hc, ?_⟩
    have := (hf us[j] (List.getElem_mem hj)).rb
    simpa using this
theorem OP.shape {e eP : TypeId} {w : World} {base : Nat} {v : Value} {ps : List (List UInt8)} (h : OP e eP w base v ps) : ∃ A c, v = .slice A ps.length c ∧ (c : Int) ≤ 9223372036854775807 ∧ ps.length ≤ c := by
  obtain ⟨A, c, h, h1, h2, _⟩ := h.rp
  refine ⟨A, c, h, ?_, h1⟩
  unfold maxLen at h2; omega
theorem OP.below {e eP : TypeId} {w w' : World} {base : Nat} {v : Value} {ps : List (List UInt8)} (h : OP e eP w base v ps) (hb : Below w.heap.size w w') : OP e eP w' base v ps := by
  obtain ⟨us, h1, ho, hf⟩ := h
  exact ⟨us, h1, own_below ho hb, fun x hx => (hf x hx).below hb⟩
theorem OP.base_ {e eP : TypeId} {w : World} {base base' : Nat} {v : Value} {ps : List (List UInt8)} (h : OP e eP w base v ps) (hb : base' ≤ base) : OP e eP w base' v ps := by
  obtain ⟨us, h1, ho, hf⟩ := h
  exact ⟨us, h1, own_base ho hb, fun x hx => (hf x hx).base_ hb⟩
theorem OP.alloc {e eP : TypeId} {w : World} {base : Nat} {v : Value} {ps : List (List UInt8)} (h : OP e eP w base v ps) (o : Obj) : OP e eP (w.alloc o) base v ps :=
  h.below ((Below.refl _ _).alloc (Nat.le_refl _) o)
/-- A row of the call's own outlasts an append onto a row of another element type. -/
theorem own_grown {w w' : World} {base base' size size' n m : Nat} {e e' : TypeId} {v r : Value} {xs ys : List Value} (h : w.ownsRow base e size v n xs) (hr : w.ownsRow base' e' size' r m ys) (hne : e ≠ e')
    (hg : w.grownBy w' r.ownBlock) : w'.ownsRow base e size v n xs := by
  refine ⟨h.1, ?_⟩
  rcases h.2 with h0 | ⟨g, cap, cur, rfl, hbg, hh, rest⟩
  · exact .inl h0
  · refine .inr ⟨g, cap, cur, rfl, hbg, (hg.block g (Array.getElem?_eq_some_iff.1 hh).1 (fun he => ?_)).trans hh, rest⟩
    rcases hr.2 with ⟨rfl, _⟩ | ⟨g', cap', cur', rfl, _, hg', _⟩
    · simp [Value.ownBlock] at he
    · simp [Value.ownBlock] at he
      subst he
      rw [hh] at hg'
      injection hg' with hg'
      injection hg' with _ h2 _
      exact hne h2
theorem OP.grown {e eP e' : TypeId} {w w' : World} {base base' size m : Nat} {v r : Value} {ps : List (List UInt8)} {ys : List Value} (h : OP e eP w base v ps) (hr : w.ownsRow base' e' size r m ys) (h1 : e ≠ e') (h2 : eP ≠ e')
    (hg : w.grownBy w' r.ownBlock) : OP e eP w' base v ps := by
  obtain ⟨us, hu, ho, hf⟩ := h
  exact ⟨us, hu, own_grown ho hr h2 hg, fun x hx => (hf x hx).grown hr h1 hg⟩
theorem or_grown {e eR e' : TypeId} {w w' : World} {base base' size m : Nat} {v r : Value} {rs : List (ByteArray × List UInt8)} {ys : List Value} (h : OR e eR w base v rs) (hr : w.ownsRow base' e' size r m ys) (h1 : e ≠ e') (h2 : eR ≠ e')
    (hg : w.grownBy w' r.ownBlock) : OR e eR w' base v rs := by
  obtain ⟨us, hu, ho, hf⟩ := h
  exact ⟨us, hu, own_grown ho hr h2 hg, fun x hx => (hf x hx).grown hr h1 hg⟩
/-- One page more. -/
theorem OP.push {e eP : TypeId} {w w' : World} {base : Nat} {v v' u : Value} {us : List (List UInt8 × Value)} {l : List UInt8} (hne : e ≠ eP)
    (ho : w.ownsRow base eP 1 v us.length (us.map (·.2))) (hf : ∀ x ∈ us, FB e w base x.2 x.1) (hu : FB e w base u l)
    (ho' : w'.ownsRow base eP 1 v' (us.length + 1) (us.map (·.2) ++ [u])) (hg : w.grownBy w' v.ownBlock) : OP e eP w' base v' (us.map (·.1) ++ [l]) := by
  refine ⟨us ++ [(l, u)], by simp, by rw [List.map_append, List.length_append]; exact ho', fun x hx => ?_⟩
  rcases List.mem_append.1 hx with hx | hx
  · exact (hf x hx).grown ho hne hg
  · simp at hx
    subst hx
    exact hu.grown ho hne hg
/-- Pages behind others. -/
theorem OP.join {e eP : TypeId} {w w' : World} {base : Nat} {v v' : Value} {us us2 : List (List UInt8 × Value)} (hne : e ≠ eP)
    (ho : w.ownsRow base eP 1 v us.length (us.map (·.2))) (hf : ∀ x ∈ us, FB e w base x.2 x.1) (hf2 : ∀ x ∈ us2, FB e w base x.2 x.1)
    (ho' : w'.ownsRow base eP 1 v' (us.length + us2.length) (us.map (·.2) ++ us2.map (·.2))) (hg : w.grownBy w' v.ownBlock) : OP e eP w' base v' (us.map (·.1) ++ us2.map (·.1)) := by
  refine ⟨us ++ us2, by simp, by rw [List.map_append, List.length_append]; exact ho', fun x hx => ?_⟩
  rcases List.mem_append.1 hx with hx | hx
  · exact (hf x hx).grown ho hne hg
  · exact (hf2 x hx).grown ho hne hg
/-- The source of an append of pages. -/
theorem OP.src {eP : TypeId} {w : World} {base : Nat} {v : Value} {us : List (List UInt8 × Value)} {tx e' : TypeId} (ho : w.ownsRow base eP 1 v us.length (us.map (·.2))) (hk : Try.prog.underlying tx = some (.slice e')) (h1 : ∀ x ∈ us, x.2.oneCell' = true) :
    Src Try.prog 1 tx v us.length (us.map (·.2)) w := by
  rcases ho.2 with ⟨rfl, h0⟩ | ⟨g, cap, cur, rfl, hb, hg, hnc, hcm, hcs, ht⟩
  · have : us = [] := List.eq_nil_of_length_eq_zero h0
    subst this
    exact Src.ofNil _ hk 0
  · refine Src.ofSlice _ hk ⟨g, 0, none⟩ _ _ _ (by simp) (fun j x hj => ho.cells (g := g) rfl j x hj) (fun x hx => ?_)
    obtain ⟨y, hy, rfl⟩ := List.mem_map.1 hx
    exact h1 y hy
theorem fb_one {e : TypeId} {w : World} {base : Nat} {v : Value} {l : List UInt8} (h : FB e w base v l) : v.oneCell' = true := by
  obtain ⟨A, c, rfl⟩ := h.shape
  rfl
end Go.Proofs.Ytbacdeogggcbfaa
