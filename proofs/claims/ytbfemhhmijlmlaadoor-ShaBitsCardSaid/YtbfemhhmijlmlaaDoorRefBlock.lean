/-
  The contract of the reference's block: eight words behind a block's 64 words, in a row of its own: the same as mixed makes.
-/
import Derived.Test.YtbfemhhmijlmlaaDoorRefWords
namespace Go.Proofs.YtbfemhhmijlmlaaDoor
open Go.RowKit Go.Rst Go.Sha

theorem RW.src {P : Program} {w : World} {v : Value} {l : List UInt32} (h : RW w v l) (h0 : 0 < l.length) {tx e' : TypeId} (hk : P.underlying tx = some (.slice e')) : Src P 1 tx v l.length (l.map wv) w := by
  obtain ⟨A, c, rfl, h1, h2, h3⟩ := h
  rcases h3 with h3 | ⟨b, off, rfl, hb, hcell⟩
  · rw [h3] at h0; simp at h0
  · refine Src.ofSlice w hk ⟨b, off, none⟩ l.length c (l.map wv) (by simp) (fun j u hj => ?_) (fun u hu => ?_)
    · have hj' : j < l.length := by have := (List.getElem?_eq_some_iff.1 hj).1; simpa using this
      rw [wvl_get hj'] at hj
      obtain rfl := Option.some.inj hj
      rw [Addr.add_lit]
      exact hcell j hj'
    · obtain ⟨x, _, rfl⟩ := List.mem_map.1 hu
      rfl
theorem add_at (s t : S8) (k : Nat) (h : k < 8) : (S8.add s t).list.getD k 0 = s.list.getD k 0 + t.list.getD k 0 := by
  match k, h with
  | 0, _ => rfl
  | 1, _ => rfl
  | 2, _ => rfl
  | 3, _ => rfl
  | 4, _ => rfl
  | 5, _ => rfl
  | 6, _ => rfl
  | 7, _ => rfl
theorem refRound_at (k : Nat) (w : World) : Calls Tryd.prog 10 #[.int .i64 (k : Int)] w fun e w' => e = .returned (.int .u32 ((kts.getD k 0).toNat : Int)) ∧ Below w.heap.size w w' := by
  have := refRound_any (k : Int) w
  rw [tab_in] at this
  exact this
theorem u_wr (a b c d e f g h K X : UInt32) :
    IntKind.u32.wrap (IntKind.u32.wrap (IntKind.u32.wrap (IntKind.u32.wrap ((h.toNat : Int) + bits .xor .u32 (bits .xor .u32 ((rotr e 6).toNat : Int) ((rotr e 11).toNat : Int)) ((rotr e 25).toNat : Int)) +
      bits .xor .u32 (bits .and .u32 (e.toNat : Int) (f.toNat : Int)) (bits .and .u32 (bits .xor .u32 IntKind.u32.max (e.toNat : Int)) (g.toNat : Int))) + (K.toNat : Int)) + (X.toNat : Int))
      = ((uOf ⟨a, b, c, d, e, f, g, h⟩ K X).toNat : Int) := by
  simp only [gN, g_xor, g_and, g_addw]
  rfl
theorem rw_lit8 {w w2 : World} {a b c d e f g h : UInt32} (hw : w2 = w.alloc (.cells #[.int .u32 (a.toNat : Int), .int .u32 (b.toNat : Int), .int .u32 (c.toNat : Int), .int .u32 (d.toNat : Int), .int .u32 (e.toNat : Int), .int .u32 (f.toNat : Int), .int .u32 (g.toNat : Int), .int .u32 (h.toNat : Int)] 27)) :
    RW w2 (.slice (some ⟨w.heap.size, 0, none⟩) 8 8) [a, b, c, d, e, f, g, h] := by
  subst hw
  have hb : Blk (w.alloc (.cells (wvs [a, b, c, d, e, f, g, h]) 27)) w.heap.size 27 (wvs [a, b, c, d, e, f, g, h]) := heap_alloc_new w _
  refine ⟨_, 8, rfl, Nat.le_refl _, by decide, .inr ⟨w.heap.size, 0, rfl, hb.lt, fun j hj => ?_⟩⟩
  rw [Nat.zero_add]
  exact (hb.cell j).trans (wvs_get hj)

set_option maxRecDepth 100000 in
set_option maxHeartbeats 2000000 in
theorem refBlock_any (s : S8) (W : List UInt32) (hW : W.length = 64) (v0 v1 : Value) (w : World) (h0 : RW w v0 s.list) (h1 : RW w v1 W) :
    Calls Tryd.prog 17 #[v0, v1] w fun e w' => ∃ v', e = .returned v' ∧ w'.ownsRow w.heap.size 27 1 v' 8 ((mix s W).list.map wv) ∧ Below w.heap.size w w' := by
  have hl8 : s.list.length = 8 := rfl
  have H0 := Lib.hid h0
  have H1 := Lib.hid h1
  have HW := Lib.hid hW
  have HS0 := Lib.hid (RW.src (P := Tryd.prog) (tx := 35) h0 (by rw [hl8]; decide) Tryd.underlying35)
  obtain ⟨A0, c0, rfl⟩ := h0.shape
  obtain ⟨A1, c1, rfl⟩ := h1.shape
  have hq1 := h1.cells_ (by omega)
  obtain ⟨_, hc1, hm1, g1, o1, rfl, hg1w, hx1⟩ := hq1
  have HX1 := Lib.hid hx1
  rw [hW] at hc1 ⊢
  rw [hl8]
  unfold maxLen at hm1
  clear hx1 hW h0 h1
  rw [hl8] at HS0
  go_enter Tryd.func17, Tryd.ntmps17
  go_wp2_with (at_builtin; refine wpList_own rfl (.tmp 13) (.tmp 14) 35 35 rfl w.heap.size 27 (.int .u32 0) 1 4 Tryd.underlying35 info27 rfl rfl (World.ownsRow_nil _ _ _ _) rfl HS0.out (Below.refl w.heap.size w) (Nat.le_refl _) ?_ ?_ ?_ ?_)
  · unfold maxLen; omega
  intro v5 w5 hown5 hbel5 _
  have hr5 : RW w5 v5 s.list := RW.own (n := 0 + 8) hown5 rfl
  have HR5 := Lib.hid hr5
  have HB5 := Lib.hid hbel5
  clear hown5 hbel5 hr5
  go_wp2
  go_loopw [5, 6] (fun v5 i wr => ∃ t : Nat, t ≤ 64 ∧ i = .int .i64 t ∧ RW wr v5 (rounds W t s).list ∧ Below w.heap.size w wr) (fun _ i _ => 64 - (intOf i).toNat)
  case atStart => exact ⟨0, by omega, rfl, HR5.out, HB5.out⟩
  case round =>
    clear HR5 HB5
    obtain ⟨t, ht, rfl, hr5, hbel⟩ := hrel
    obtain ⟨A5, c5, rfl⟩ := hr5.shape
    by_cases hlt : t < 64
    · have hn : rounds W (t + 1) s = Go.Sha.step (rounds W t s) (kts.getD t 0) (W.getD t 0) := rfl
      have xw := (hbel.cell (p := ⟨g1, o1 + t, none⟩) hg1w).trans (HX1.out t (by rw [HW.out]; exact hlt))
      have hg1 : g1 < wr.heap.size := Nat.lt_of_lt_of_le hg1w hbel.size
      generalize rounds W t s = sr at *
      obtain ⟨a', b', c', d', e', f', g', h'⟩ := sr
      obtain ⟨_, hc5, hm5, g, o, rfl, hg, hx⟩ := hr5.cells_ (show 0 < 8 by decide)
      have x0 := hx 0 (show 0 < 8 by decide)
      have x1 := hx 1 (show 1 < 8 by decide)
      have x2 := hx 2 (show 2 < 8 by decide)
      have x3 := hx 3 (show 3 < 8 by decide)
      have x4 := hx 4 (show 4 < 8 by decide)
      have x5 := hx 5 (show 5 < 8 by decide)
      have x6 := hx 6 (show 6 < 8 by decide)
      have x7 := hx 7 (show 7 < 8 by decide)
      rw [Nat.add_zero] at x0
      replace x0 : wr.cell? ⟨g, o, none⟩ = some (.int .u32 (a'.toNat : Int)) := x0
      replace x1 : wr.cell? ⟨g, o + 1, none⟩ = some (.int .u32 (b'.toNat : Int)) := x1
      replace x2 : wr.cell? ⟨g, o + 2, none⟩ = some (.int .u32 (c'.toNat : Int)) := x2
      replace x3 : wr.cell? ⟨g, o + 3, none⟩ = some (.int .u32 (d'.toNat : Int)) := x3
      replace x4 : wr.cell? ⟨g, o + 4, none⟩ = some (.int .u32 (e'.toNat : Int)) := x4
      replace x5 : wr.cell? ⟨g, o + 5, none⟩ = some (.int .u32 (f'.toNat : Int)) := x5
      replace x6 : wr.cell? ⟨g, o + 6, none⟩ = some (.int .u32 (g'.toNat : Int)) := x6
      replace x7 : wr.cell? ⟨g, o + 7, none⟩ = some (.int .u32 (h'.toNat : Int)) := x7
      have l8 : S8.list ⟨a', b', c', d', e', f', g', h'⟩ = [a', b', c', d', e', f', g', h'] := rfl
      have l8' : (S8.list ⟨a', b', c', d', e', f', g', h'⟩).length = 8 := rfl
      rw [l8'] at hc5 ⊢
      have hkc := refRound_at t
      generalize kts.getD t 0 = K at *
      generalize W.getD t 0 = X at *
      have hu := u_wr a' b' c' d' e' f' g' h' K X
      have hv := v_go a' b' c' d' e' f' g' h'
      have hn2 : rounds W (t + 1) s = ⟨uOf ⟨a', b', c', d', e', f', g', h'⟩ K X + vOf ⟨a', b', c', d', e', f', g', h'⟩, a', b', c', d' + uOf ⟨a', b', c', d', e', f', g', h'⟩ K X, e', f', g'⟩ := hn
      generalize uOf ⟨a', b', c', d', e', f', g', h'⟩ K X = UU at *
      generalize vOf ⟨a', b', c', d', e', f', g', h'⟩ = VV at *
      have HU := Lib.hid hu
      have HVV := Lib.hid hv
      have HN := Lib.hid hn2
      have HB := Lib.hid hbel
      have HKC := Lib.hid hkc
      unfold wv at xw
      have i0 : (0 : Int) ≤ (t : Int) := by omega
      have i1 : (t : Int) < 64 := by omega
      clear hx hn hn2 hu hv hbel hr5 l8 l8' hkc
      go_wp2
      refine wp_region_held_drew (S := fun X => Below wr.heap.size wr X) (by kernel_rfl) (Below.refl _ _).drew (fun hHeld => ?_)
      refine wpAnyH_take (i := 0) (oi := { dst := some 26, op := Op.move (Operand.tmp 5), type := 35, pos := "ref.go:68", after := #[], guard := none }) (v := ?_) rfl (by kernel_rfl) (by kernel_rfl) (by kernel_rfl) (fun _ _ _ h => h) (Or.inl ⟨by rfl, ?_⟩) (by assumption) ?_
      rotate_left
      · intro X hSw; go_simp; try (with_reducible rfl)
      try simp only [Act.put, List.setIfInBounds_toArray, List.set_cons_zero, List.set_cons_succ]
      refine wpAnyH_take (i := 1) (oi := { dst := some 27, op := Op.indexAddr 35 (Operand.tmp 26) (Operand.const (Value.int IntKind.i64 7)), type := 0, pos := "ref.go:68", after := #[{ on := 0, ground := Ground.data }], guard := none }) (v := ?_) rfl (by kernel_rfl) (by kernel_rfl) (by kernel_rfl) (fun _ _ _ h => h) (Or.inl ⟨by rfl, ?_⟩) (by assumption) ?_
      rotate_left
      · intro X hSw; go_simp; try (with_reducible rfl)
      try simp only [Act.put, List.setIfInBounds_toArray, List.set_cons_zero, List.set_cons_succ]
      refine wpAnyH_take (i := 2) (oi := { dst := some 28, op := Op.load 27 (Operand.tmp 27), type := 27, pos := "ref.go:68", after := #[{ on := 1, ground := Ground.data }], guard := none }) (v := ?_) rfl (by kernel_rfl) (by kernel_rfl) (by kernel_rfl) (fun _ _ _ h => h) (Or.inl ⟨by rfl, ?_⟩) (by assumption) ?_
      rotate_left
      · intro X hSw; have hq := (hSw.cell (p := ⟨g, o + 7, none⟩) hg).trans x7; go_simp; try (with_reducible rfl)
      try simp only [Act.put, List.setIfInBounds_toArray, List.set_cons_zero, List.set_cons_succ]
      refine wpAnyH_take (i := 3) (oi := { dst := some 29, op := Op.move (Operand.tmp 7), type := 27, pos := "ref.go:68", after := #[], guard := none }) (v := ?_) rfl (by kernel_rfl) (by kernel_rfl) (by kernel_rfl) (fun _ _ _ h => h) (Or.inl ⟨by rfl, ?_⟩) (by assumption) ?_
      rotate_left
      · intro X hSw; go_simp; try (with_reducible rfl)
      try simp only [Act.put, List.setIfInBounds_toArray, List.set_cons_zero, List.set_cons_succ]
      refine wpAnyH_take (i := 5) (oi := { dst := some 31, op := Op.move (Operand.tmp 7), type := 27, pos := "ref.go:68", after := #[], guard := none }) (v := ?_) rfl (by kernel_rfl) (by kernel_rfl) (by kernel_rfl) (fun _ _ _ h => h) (Or.inl ⟨by rfl, ?_⟩) (by assumption) ?_
      rotate_left
      · intro X hSw; go_simp; try (with_reducible rfl)
      try simp only [Act.put, List.setIfInBounds_toArray, List.set_cons_zero, List.set_cons_succ]
      refine wpAnyH_take (i := 8) (oi := { dst := some 34, op := Op.move (Operand.tmp 7), type := 27, pos := "ref.go:68", after := #[], guard := none }) (v := ?_) rfl (by kernel_rfl) (by kernel_rfl) (by kernel_rfl) (fun _ _ _ h => h) (Or.inl ⟨by rfl, ?_⟩) (by assumption) ?_
      rotate_left
      · intro X hSw; go_simp; try (with_reducible rfl)
      try simp only [Act.put, List.setIfInBounds_toArray, List.set_cons_zero, List.set_cons_succ]
      refine wpAnyH_take (i := 12) (oi := { dst := some 38, op := Op.move (Operand.tmp 7), type := 27, pos := "ref.go:68", after := #[], guard := none }) (v := ?_) rfl (by kernel_rfl) (by kernel_rfl) (by kernel_rfl) (fun _ _ _ h => h) (Or.inl ⟨by rfl, ?_⟩) (by assumption) ?_
      rotate_left
      · intro X hSw; go_simp; try (with_reducible rfl)
      try simp only [Act.put, List.setIfInBounds_toArray, List.set_cons_zero, List.set_cons_succ]
      refine wpAnyH_take (i := 13) (oi := { dst := some 39, op := Op.move (Operand.tmp 5), type := 35, pos := "ref.go:68", after := #[], guard := none }) (v := ?_) rfl (by kernel_rfl) (by kernel_rfl) (by kernel_rfl) (fun _ _ _ h => h) (Or.inl ⟨by rfl, ?_⟩) (by assumption) ?_
      rotate_left
      · intro X hSw; go_simp; try (with_reducible rfl)
      try simp only [Act.put, List.setIfInBounds_toArray, List.set_cons_zero, List.set_cons_succ]
      refine wpAnyH_take (i := 14) (oi := { dst := some 40, op := Op.indexAddr 35 (Operand.tmp 39) (Operand.const (Value.int IntKind.i64 5)), type := 0, pos := "ref.go:68", after := #[{ on := 13, ground := Ground.data }], guard := none }) (v := ?_) rfl (by kernel_rfl) (by kernel_rfl) (by kernel_rfl) (fun _ _ _ h => h) (Or.inl ⟨by rfl, ?_⟩) (by assumption) ?_
      rotate_left
      · intro X hSw; go_simp; try (with_reducible rfl)
      try simp only [Act.put, List.setIfInBounds_toArray, List.set_cons_zero, List.set_cons_succ]
      refine wpAnyH_take (i := 15) (oi := { dst := some 41, op := Op.load 27 (Operand.tmp 40), type := 27, pos := "ref.go:68", after := #[{ on := 14, ground := Ground.data }], guard := none }) (v := ?_) rfl (by kernel_rfl) (by kernel_rfl) (by kernel_rfl) (fun _ _ _ h => h) (Or.inl ⟨by rfl, ?_⟩) (by assumption) ?_
      rotate_left
      · intro X hSw; have hq := (hSw.cell (p := ⟨g, o + 5, none⟩) hg).trans x5; go_simp; try (with_reducible rfl)
      try simp only [Act.put, List.setIfInBounds_toArray, List.set_cons_zero, List.set_cons_succ]
      refine wpAnyH_take (i := 16) (oi := { dst := some 42, op := Op.binOp BinOp.and 27 (Operand.tmp 38) (Operand.tmp 41) 27, type := 27, pos := "ref.go:68", after := #[{ on := 12, ground := Ground.data }, { on := 15, ground := Ground.data }], guard := none }) (v := ?_) rfl (by kernel_rfl) (by kernel_rfl) (by kernel_rfl) (fun _ _ _ h => h) (Or.inl ⟨by rfl, ?_⟩) (by assumption) ?_
      rotate_left
      · intro X hSw; go_simp; try (with_reducible rfl)
      try simp only [Act.put, List.setIfInBounds_toArray, List.set_cons_zero, List.set_cons_succ]
      refine wpAnyH_take (i := 17) (oi := { dst := some 43, op := Op.move (Operand.tmp 7), type := 27, pos := "ref.go:68", after := #[], guard := none }) (v := ?_) rfl (by kernel_rfl) (by kernel_rfl) (by kernel_rfl) (fun _ _ _ h => h) (Or.inl ⟨by rfl, ?_⟩) (by assumption) ?_
      rotate_left
      · intro X hSw; go_simp; try (with_reducible rfl)
      try simp only [Act.put, List.setIfInBounds_toArray, List.set_cons_zero, List.set_cons_succ]
      refine wpAnyH_take (i := 18) (oi := { dst := some 44, op := Op.unOp UnOp.xor 27 (Operand.tmp 43), type := 27, pos := "ref.go:68", after := #[{ on := 17, ground := Ground.data }], guard := none }) (v := ?_) rfl (by kernel_rfl) (by kernel_rfl) (by kernel_rfl) (fun _ _ _ h => h) (Or.inl ⟨by rfl, ?_⟩) (by assumption) ?_
      rotate_left
      · intro X hSw; go_simp; try (with_reducible rfl)
      try simp only [Act.put, List.setIfInBounds_toArray, List.set_cons_zero, List.set_cons_succ]
      refine wpAnyH_take (i := 19) (oi := { dst := some 45, op := Op.move (Operand.tmp 5), type := 35, pos := "ref.go:68", after := #[], guard := none }) (v := ?_) rfl (by kernel_rfl) (by kernel_rfl) (by kernel_rfl) (fun _ _ _ h => h) (Or.inl ⟨by rfl, ?_⟩) (by assumption) ?_
      rotate_left
      · intro X hSw; go_simp; try (with_reducible rfl)
      try simp only [Act.put, List.setIfInBounds_toArray, List.set_cons_zero, List.set_cons_succ]
      refine wpAnyH_take (i := 20) (oi := { dst := some 46, op := Op.indexAddr 35 (Operand.tmp 45) (Operand.const (Value.int IntKind.i64 6)), type := 0, pos := "ref.go:68", after := #[{ on := 19, ground := Ground.data }], guard := none }) (v := ?_) rfl (by kernel_rfl) (by kernel_rfl) (by kernel_rfl) (fun _ _ _ h => h) (Or.inl ⟨by rfl, ?_⟩) (by assumption) ?_
      rotate_left
      · intro X hSw; go_simp; try (with_reducible rfl)
      try simp only [Act.put, List.setIfInBounds_toArray, List.set_cons_zero, List.set_cons_succ]
      refine wpAnyH_take (i := 21) (oi := { dst := some 47, op := Op.load 27 (Operand.tmp 46), type := 27, pos := "ref.go:68", after := #[{ on := 20, ground := Ground.data }], guard := none }) (v := ?_) rfl (by kernel_rfl) (by kernel_rfl) (by kernel_rfl) (fun _ _ _ h => h) (Or.inl ⟨by rfl, ?_⟩) (by assumption) ?_
      rotate_left
      · intro X hSw; have hq := (hSw.cell (p := ⟨g, o + 6, none⟩) hg).trans x6; go_simp; try (with_reducible rfl)
      try simp only [Act.put, List.setIfInBounds_toArray, List.set_cons_zero, List.set_cons_succ]
      refine wpAnyH_take (i := 22) (oi := { dst := some 48, op := Op.binOp BinOp.and 27 (Operand.tmp 44) (Operand.tmp 47) 27, type := 27, pos := "ref.go:68", after := #[{ on := 18, ground := Ground.data }, { on := 21, ground := Ground.data }], guard := none }) (v := ?_) rfl (by kernel_rfl) (by kernel_rfl) (by kernel_rfl) (fun _ _ _ h => h) (Or.inl ⟨by rfl, ?_⟩) (by assumption) ?_
      rotate_left
      · intro X hSw; go_simp; try (with_reducible rfl)
      try simp only [Act.put, List.setIfInBounds_toArray, List.set_cons_zero, List.set_cons_succ]
      refine wpAnyH_take (i := 23) (oi := { dst := some 49, op := Op.binOp BinOp.xor 27 (Operand.tmp 42) (Operand.tmp 48) 27, type := 27, pos := "ref.go:68", after := #[{ on := 16, ground := Ground.data }, { on := 22, ground := Ground.data }], guard := none }) (v := ?_) rfl (by kernel_rfl) (by kernel_rfl) (by kernel_rfl) (fun _ _ _ h => h) (Or.inl ⟨by rfl, ?_⟩) (by assumption) ?_
      rotate_left
      · intro X hSw; go_simp; try (with_reducible rfl)
      try simp only [Act.put, List.setIfInBounds_toArray, List.set_cons_zero, List.set_cons_succ]
      refine wpAnyH_take (i := 25) (oi := { dst := some 51, op := Op.move (Operand.tmp 6), type := 3, pos := "ref.go:68", after := #[], guard := none }) (v := ?_) rfl (by kernel_rfl) (by kernel_rfl) (by kernel_rfl) (fun _ _ _ h => h) (Or.inl ⟨by rfl, ?_⟩) (by assumption) ?_
      rotate_left
      · intro X hSw; go_simp; try (with_reducible rfl)
      try simp only [Act.put, List.setIfInBounds_toArray, List.set_cons_zero, List.set_cons_succ]
      refine wpAnyH_take (i := 28) (oi := { dst := some 54, op := Op.move (Operand.tmp 1), type := 35, pos := "ref.go:68", after := #[], guard := none }) (v := ?_) rfl (by kernel_rfl) (by kernel_rfl) (by kernel_rfl) (fun _ _ _ h => h) (Or.inl ⟨by rfl, ?_⟩) (by assumption) ?_
      rotate_left
      · intro X hSw; go_simp; try (with_reducible rfl)
      try simp only [Act.put, List.setIfInBounds_toArray, List.set_cons_zero, List.set_cons_succ]
      refine wpAnyH_take (i := 29) (oi := { dst := some 55, op := Op.move (Operand.tmp 6), type := 3, pos := "ref.go:68", after := #[], guard := none }) (v := ?_) rfl (by kernel_rfl) (by kernel_rfl) (by kernel_rfl) (fun _ _ _ h => h) (Or.inl ⟨by rfl, ?_⟩) (by assumption) ?_
      rotate_left
      · intro X hSw; go_simp; try (with_reducible rfl)
      try simp only [Act.put, List.setIfInBounds_toArray, List.set_cons_zero, List.set_cons_succ]
      refine wpAnyH_take (i := 30) (oi := { dst := some 56, op := Op.indexAddr 35 (Operand.tmp 54) (Operand.tmp 55), type := 0, pos := "ref.go:68", after := #[{ on := 28, ground := Ground.data }, { on := 29, ground := Ground.data }], guard := none }) (v := ?_) rfl (by kernel_rfl) (by kernel_rfl) (by kernel_rfl) (fun _ _ _ h => h) (Or.inl ⟨by rfl, ?_⟩) (by assumption) ?_
      rotate_left
      · intro X hSw; go_simp; try (with_reducible rfl)
      try simp only [Act.put, List.setIfInBounds_toArray, List.set_cons_zero, List.set_cons_succ]
      refine wpAnyH_take (i := 31) (oi := { dst := some 57, op := Op.load 27 (Operand.tmp 56), type := 27, pos := "ref.go:68", after := #[{ on := 30, ground := Ground.data }], guard := none }) (v := ?_) rfl (by kernel_rfl) (by kernel_rfl) (by kernel_rfl) (fun _ _ _ h => h) (Or.inl ⟨by rfl, ?_⟩) (by assumption) ?_
      rotate_left
      · intro X hSw; have hq := (hSw.cell (p := ⟨g1, o1 + t, none⟩) hg1).trans xw; go_simp; try (with_reducible rfl)
      try simp only [Act.put, List.setIfInBounds_toArray, List.set_cons_zero, List.set_cons_succ]
      refine wpAnyH_ready (rs := [4]) (by kernel_rfl) (by simp) ?_
      refine AllReadyH.cons (o := { dst := some 30, op := Op.call { callee := Callee.value (Operand.func 21), args := #[Operand.tmp 29, Operand.const (Value.int IntKind.i64 6)], argTypes := #[27, 3] }, type := 27, pos := "ref.go:68", after := #[{ on := 3, ground := Ground.data }], guard := none }) rfl (fun K hK => ?_) AllReadyH.nil
      go_simp
      refine (turn_any e' 6 (by decide) (by decide) _).mono ?_
      rintro x w' ⟨rfl, rfl⟩
      try (go_wp2_with fail)
      refine hK.out _ _ ?_ (fun _ => ?_)
      · exact hHeld
      clear hK K
      try simp only [Act.put, List.setIfInBounds_toArray, List.set_cons_zero, List.set_cons_succ]
      refine wpAnyH_ready (rs := [6]) (by kernel_rfl) (by simp) ?_
      refine AllReadyH.cons (o := { dst := some 32, op := Op.call { callee := Callee.value (Operand.func 21), args := #[Operand.tmp 31, Operand.const (Value.int IntKind.i64 11)], argTypes := #[27, 3] }, type := 27, pos := "ref.go:68", after := #[{ on := 5, ground := Ground.data }, { on := 4, ground := Ground.chain }], guard := none }) rfl (fun K hK => ?_) AllReadyH.nil
      go_simp
      refine (turn_any e' 11 (by decide) (by decide) _).mono ?_
      rintro x w' ⟨rfl, rfl⟩
      try (go_wp2_with fail)
      refine hK.out _ _ ?_ (fun _ => ?_)
      · exact hHeld
      clear hK K
      try simp only [Act.put, List.setIfInBounds_toArray, List.set_cons_zero, List.set_cons_succ]
      refine wpAnyH_take (i := 7) (oi := { dst := some 33, op := Op.binOp BinOp.xor 27 (Operand.tmp 30) (Operand.tmp 32) 27, type := 27, pos := "ref.go:68", after := #[{ on := 4, ground := Ground.data }, { on := 6, ground := Ground.data }], guard := none }) (v := ?_) rfl (by kernel_rfl) (by kernel_rfl) (by kernel_rfl) (fun _ _ _ h => h) (Or.inl ⟨by rfl, ?_⟩) (by assumption) ?_
      rotate_left
      · intro X hSw; go_simp; try (with_reducible rfl)
      try simp only [Act.put, List.setIfInBounds_toArray, List.set_cons_zero, List.set_cons_succ]
      refine wpAnyH_ready (rs := [9]) (by kernel_rfl) (by simp) ?_
      refine AllReadyH.cons (o := { dst := some 35, op := Op.call { callee := Callee.value (Operand.func 21), args := #[Operand.tmp 34, Operand.const (Value.int IntKind.i64 25)], argTypes := #[27, 3] }, type := 27, pos := "ref.go:68", after := #[{ on := 8, ground := Ground.data }, { on := 6, ground := Ground.chain }], guard := none }) rfl (fun K hK => ?_) AllReadyH.nil
      go_simp
      refine (turn_any e' 25 (by decide) (by decide) _).mono ?_
      rintro x w' ⟨rfl, rfl⟩
      try (go_wp2_with fail)
      refine hK.out _ _ ?_ (fun _ => ?_)
      · exact hHeld
      clear hK K
      try simp only [Act.put, List.setIfInBounds_toArray, List.set_cons_zero, List.set_cons_succ]
      refine wpAnyH_take (i := 10) (oi := { dst := some 36, op := Op.binOp BinOp.xor 27 (Operand.tmp 33) (Operand.tmp 35) 27, type := 27, pos := "ref.go:68", after := #[{ on := 7, ground := Ground.data }, { on := 9, ground := Ground.data }], guard := none }) (v := ?_) rfl (by kernel_rfl) (by kernel_rfl) (by kernel_rfl) (fun _ _ _ h => h) (Or.inl ⟨by rfl, ?_⟩) (by assumption) ?_
      rotate_left
      · intro X hSw; go_simp; try (with_reducible rfl)
      try simp only [Act.put, List.setIfInBounds_toArray, List.set_cons_zero, List.set_cons_succ]
      refine wpAnyH_take (i := 11) (oi := { dst := some 37, op := Op.binOp BinOp.add 27 (Operand.tmp 28) (Operand.tmp 36) 27, type := 27, pos := "ref.go:68", after := #[{ on := 2, ground := Ground.data }, { on := 10, ground := Ground.data }], guard := none }) (v := ?_) rfl (by kernel_rfl) (by kernel_rfl) (by kernel_rfl) (fun _ _ _ h => h) (Or.inl ⟨by rfl, ?_⟩) (by assumption) ?_
      rotate_left
      · intro X hSw; go_simp; try (with_reducible rfl)
      try simp only [Act.put, List.setIfInBounds_toArray, List.set_cons_zero, List.set_cons_succ]
      refine wpAnyH_take (i := 24) (oi := { dst := some 50, op := Op.binOp BinOp.add 27 (Operand.tmp 37) (Operand.tmp 49) 27, type := 27, pos := "ref.go:68", after := #[{ on := 11, ground := Ground.data }, { on := 23, ground := Ground.data }], guard := none }) (v := ?_) rfl (by kernel_rfl) (by kernel_rfl) (by kernel_rfl) (fun _ _ _ h => h) (Or.inl ⟨by rfl, ?_⟩) (by assumption) ?_
      rotate_left
      · intro X hSw; go_simp; try (with_reducible rfl)
      try simp only [Act.put, List.setIfInBounds_toArray, List.set_cons_zero, List.set_cons_succ]
      refine wpAnyH_ready (rs := [26]) (by kernel_rfl) (by simp) ?_
      refine AllReadyH.cons (o := { dst := some 52, op := Op.call { callee := Callee.value (Operand.func 10), args := #[Operand.tmp 51], argTypes := #[3] }, type := 27, pos := "ref.go:68", after := #[{ on := 25, ground := Ground.data }, { on := 9, ground := Ground.chain }], guard := none }) rfl (fun K hK => ?_) AllReadyH.nil
      go_simp
      refine (HKC.out _).mono ?_
      rintro x w1 ⟨rfl, hbw1⟩
      try (go_wp2_with fail)
      have hHeld' := (Below.refl wr.heap.size wr).drew.trans (hbw1.mono (Nat.le_refl _))
      refine hK.out _ _ ?_ (fun _ => ?_)
      · exact hHeld'
      clear hK K hHeld
      have hHeld := hHeld'
      clear hHeld'
      try simp only [Act.put, List.setIfInBounds_toArray, List.set_cons_zero, List.set_cons_succ]
      refine wpAnyH_take (i := 27) (oi := { dst := some 53, op := Op.binOp BinOp.add 27 (Operand.tmp 50) (Operand.tmp 52) 27, type := 27, pos := "ref.go:68", after := #[{ on := 24, ground := Ground.data }, { on := 26, ground := Ground.data }], guard := none }) (v := ?_) rfl (by kernel_rfl) (by kernel_rfl) (by kernel_rfl) (fun _ _ _ h => h) (Or.inl ⟨by rfl, ?_⟩) (by assumption) ?_
      rotate_left
      · intro X hSw; go_simp; try (with_reducible rfl)
      try simp only [Act.put, List.setIfInBounds_toArray, List.set_cons_zero, List.set_cons_succ]
      refine wpAnyH_take (i := 32) (oi := { dst := some 58, op := Op.binOp BinOp.add 27 (Operand.tmp 53) (Operand.tmp 57) 27, type := 27, pos := "ref.go:68", after := #[{ on := 27, ground := Ground.data }, { on := 31, ground := Ground.data }], guard := none }) (v := ?_) rfl (by kernel_rfl) (by kernel_rfl) (by kernel_rfl) (fun _ _ _ h => h) (Or.inl ⟨by rfl, ?_⟩) (by assumption) ?_
      rotate_left
      · intro X hSw; go_simp; try (with_reducible rfl)
      try simp only [Act.put, List.setIfInBounds_toArray, List.set_cons_zero, List.set_cons_succ]
      refine wpAnyH_take (i := 33) (oi := { dst := some 9, op := Op.assign (Operand.tmp 58), type := 27, pos := "ref.go:68", after := #[{ on := 32, ground := Ground.data }, { on := 26, ground := Ground.chain }, { on := 0, ground := Ground.phase }, { on := 1, ground := Ground.phase }, { on := 2, ground := Ground.phase }, { on := 3, ground := Ground.phase }, { on := 4, ground := Ground.phase }, { on := 5, ground := Ground.phase }, { on := 6, ground := Ground.phase }, { on := 7, ground := Ground.phase }, { on := 8, ground := Ground.phase }, { on := 9, ground := Ground.phase }, { on := 10, ground := Ground.phase }, { on := 11, ground := Ground.phase }, { on := 12, ground := Ground.phase }, { on := 13, ground := Ground.phase }, { on := 14, ground := Ground.phase }, { on := 15, ground := Ground.phase }, { on := 16, ground := Ground.phase }, { on := 17, ground := Ground.phase }, { on := 18, ground := Ground.phase }, { on := 19, ground := Ground.phase }, { on := 20, ground := Ground.phase }, { on := 21, ground := Ground.phase }, { on := 22, ground := Ground.phase }, { on := 23, ground := Ground.phase }, { on := 24, ground := Ground.phase }, { on := 25, ground := Ground.phase }, { on := 26, ground := Ground.phase }, { on := 27, ground := Ground.phase }, { on := 28, ground := Ground.phase }, { on := 29, ground := Ground.phase }, { on := 30, ground := Ground.phase }, { on := 31, ground := Ground.phase }, { on := 32, ground := Ground.phase }], guard := none }) (v := ?_) rfl (by kernel_rfl) (by kernel_rfl) (by kernel_rfl) (fun _ _ _ h => h) (Or.inl ⟨by rfl, ?_⟩) (by assumption) ?_
      rotate_left
      · intro X hSw; go_simp; try (with_reducible rfl)
      try simp only [Act.put, List.setIfInBounds_toArray, List.set_cons_zero, List.set_cons_succ]
      refine wpAnyH_done (by kernel_rfl) ?_ _
      rw [HU.out]
      have hgw : g < w1.heap.size := Nat.lt_of_lt_of_le hg hbw1.size
      have z0 := (hbw1.cell (p := ⟨g, o, none⟩) hg).trans x0
      have z1 := (hbw1.cell (p := ⟨g, o + 1, none⟩) hg).trans x1
      have z2 := (hbw1.cell (p := ⟨g, o + 2, none⟩) hg).trans x2
      have z3 := (hbw1.cell (p := ⟨g, o + 3, none⟩) hg).trans x3
      have z4 := (hbw1.cell (p := ⟨g, o + 4, none⟩) hg).trans x4
      have z5 := (hbw1.cell (p := ⟨g, o + 5, none⟩) hg).trans x5
      have z6 := (hbw1.cell (p := ⟨g, o + 6, none⟩) hg).trans x6
      clear x0 x1 x2 x3 x4 x5 x6 x7 xw hHeld
      go_wp2
      go_quiet (first | (go_at_call 21; refine Calls.quiet_of_same (turn_q _ _ (by decide) (by decide) _)))
      rw [HVV.out]
      go_wp2
      refine wp_region_held_drew (S := fun X => Below w1.heap.size w1 X) (by kernel_rfl) ((Below.refl _ _).trans (bel_drewN w1 nq)).drew (fun hHeld => ?_)
      refine wpAnyH_take (i := 0) (oi := { dst := some 87, op := Op.move (Operand.tmp 9), type := 27, pos := "ref.go:70", after := #[], guard := none }) (v := ?_) rfl (by kernel_rfl) (by kernel_rfl) (by kernel_rfl) (fun _ _ _ h => h) (Or.inl ⟨by rfl, ?_⟩) (by assumption) ?_
      rotate_left
      · intro X hSw; go_simp; try (with_reducible rfl)
      try simp only [Act.put, List.setIfInBounds_toArray, List.set_cons_zero, List.set_cons_succ]
      refine wpAnyH_take (i := 1) (oi := { dst := some 88, op := Op.move (Operand.tmp 10), type := 27, pos := "ref.go:70", after := #[], guard := none }) (v := ?_) rfl (by kernel_rfl) (by kernel_rfl) (by kernel_rfl) (fun _ _ _ h => h) (Or.inl ⟨by rfl, ?_⟩) (by assumption) ?_
      rotate_left
      · intro X hSw; go_simp; try (with_reducible rfl)
      try simp only [Act.put, List.setIfInBounds_toArray, List.set_cons_zero, List.set_cons_succ]
      refine wpAnyH_take (i := 2) (oi := { dst := some 89, op := Op.binOp BinOp.add 27 (Operand.tmp 87) (Operand.tmp 88) 27, type := 27, pos := "ref.go:70", after := #[{ on := 0, ground := Ground.data }, { on := 1, ground := Ground.data }], guard := none }) (v := ?_) rfl (by kernel_rfl) (by kernel_rfl) (by kernel_rfl) (fun _ _ _ h => h) (Or.inl ⟨by rfl, ?_⟩) (by assumption) ?_
      rotate_left
      · intro X hSw; go_simp; try (with_reducible rfl)
      try simp only [Act.put, List.setIfInBounds_toArray, List.set_cons_zero, List.set_cons_succ]
      refine wpAnyH_take (i := 3) (oi := { dst := some 90, op := Op.move (Operand.tmp 5), type := 35, pos := "ref.go:70", after := #[], guard := none }) (v := ?_) rfl (by kernel_rfl) (by kernel_rfl) (by kernel_rfl) (fun _ _ _ h => h) (Or.inl ⟨by rfl, ?_⟩) (by assumption) ?_
      rotate_left
      · intro X hSw; go_simp; try (with_reducible rfl)
      try simp only [Act.put, List.setIfInBounds_toArray, List.set_cons_zero, List.set_cons_succ]
      refine wpAnyH_take (i := 4) (oi := { dst := some 91, op := Op.indexAddr 35 (Operand.tmp 90) (Operand.const (Value.int IntKind.i64 0)), type := 0, pos := "ref.go:70", after := #[{ on := 3, ground := Ground.data }], guard := none }) (v := ?_) rfl (by kernel_rfl) (by kernel_rfl) (by kernel_rfl) (fun _ _ _ h => h) (Or.inl ⟨by rfl, ?_⟩) (by assumption) ?_
      rotate_left
      · intro X hSw; go_simp; try (with_reducible rfl)
      try simp only [Act.put, List.setIfInBounds_toArray, List.set_cons_zero, List.set_cons_succ]
      refine wpAnyH_take (i := 5) (oi := { dst := some 92, op := Op.load 27 (Operand.tmp 91), type := 27, pos := "ref.go:70", after := #[{ on := 4, ground := Ground.data }], guard := none }) (v := ?_) rfl (by kernel_rfl) (by kernel_rfl) (by kernel_rfl) (fun _ _ _ h => h) (Or.inl ⟨by rfl, ?_⟩) (by assumption) ?_
      rotate_left
      · intro X hSw; have hq := (hSw.cell (p := ⟨g, o, none⟩) hgw).trans z0; go_simp; try (with_reducible rfl)
      try simp only [Act.put, List.setIfInBounds_toArray, List.set_cons_zero, List.set_cons_succ]
      refine wpAnyH_take (i := 6) (oi := { dst := some 93, op := Op.move (Operand.tmp 5), type := 35, pos := "ref.go:70", after := #[], guard := none }) (v := ?_) rfl (by kernel_rfl) (by kernel_rfl) (by kernel_rfl) (fun _ _ _ h => h) (Or.inl ⟨by rfl, ?_⟩) (by assumption) ?_
      rotate_left
      · intro X hSw; go_simp; try (with_reducible rfl)
      try simp only [Act.put, List.setIfInBounds_toArray, List.set_cons_zero, List.set_cons_succ]
      refine wpAnyH_take (i := 7) (oi := { dst := some 94, op := Op.indexAddr 35 (Operand.tmp 93) (Operand.const (Value.int IntKind.i64 1)), type := 0, pos := "ref.go:70", after := #[{ on := 6, ground := Ground.data }], guard := none }) (v := ?_) rfl (by kernel_rfl) (by kernel_rfl) (by kernel_rfl) (fun _ _ _ h => h) (Or.inl ⟨by rfl, ?_⟩) (by assumption) ?_
      rotate_left
      · intro X hSw; go_simp; try (with_reducible rfl)
      try simp only [Act.put, List.setIfInBounds_toArray, List.set_cons_zero, List.set_cons_succ]
      refine wpAnyH_take (i := 8) (oi := { dst := some 95, op := Op.load 27 (Operand.tmp 94), type := 27, pos := "ref.go:70", after := #[{ on := 7, ground := Ground.data }], guard := none }) (v := ?_) rfl (by kernel_rfl) (by kernel_rfl) (by kernel_rfl) (fun _ _ _ h => h) (Or.inl ⟨by rfl, ?_⟩) (by assumption) ?_
      rotate_left
      · intro X hSw; have hq := (hSw.cell (p := ⟨g, o + 1, none⟩) hgw).trans z1; go_simp; try (with_reducible rfl)
      try simp only [Act.put, List.setIfInBounds_toArray, List.set_cons_zero, List.set_cons_succ]
      refine wpAnyH_take (i := 9) (oi := { dst := some 96, op := Op.move (Operand.tmp 5), type := 35, pos := "ref.go:70", after := #[], guard := none }) (v := ?_) rfl (by kernel_rfl) (by kernel_rfl) (by kernel_rfl) (fun _ _ _ h => h) (Or.inl ⟨by rfl, ?_⟩) (by assumption) ?_
      rotate_left
      · intro X hSw; go_simp; try (with_reducible rfl)
      try simp only [Act.put, List.setIfInBounds_toArray, List.set_cons_zero, List.set_cons_succ]
      refine wpAnyH_take (i := 10) (oi := { dst := some 97, op := Op.indexAddr 35 (Operand.tmp 96) (Operand.const (Value.int IntKind.i64 2)), type := 0, pos := "ref.go:70", after := #[{ on := 9, ground := Ground.data }], guard := none }) (v := ?_) rfl (by kernel_rfl) (by kernel_rfl) (by kernel_rfl) (fun _ _ _ h => h) (Or.inl ⟨by rfl, ?_⟩) (by assumption) ?_
      rotate_left
      · intro X hSw; go_simp; try (with_reducible rfl)
      try simp only [Act.put, List.setIfInBounds_toArray, List.set_cons_zero, List.set_cons_succ]
      refine wpAnyH_take (i := 11) (oi := { dst := some 98, op := Op.load 27 (Operand.tmp 97), type := 27, pos := "ref.go:70", after := #[{ on := 10, ground := Ground.data }], guard := none }) (v := ?_) rfl (by kernel_rfl) (by kernel_rfl) (by kernel_rfl) (fun _ _ _ h => h) (Or.inl ⟨by rfl, ?_⟩) (by assumption) ?_
      rotate_left
      · intro X hSw; have hq := (hSw.cell (p := ⟨g, o + 2, none⟩) hgw).trans z2; go_simp; try (with_reducible rfl)
      try simp only [Act.put, List.setIfInBounds_toArray, List.set_cons_zero, List.set_cons_succ]
      refine wpAnyH_take (i := 12) (oi := { dst := some 99, op := Op.move (Operand.tmp 5), type := 35, pos := "ref.go:70", after := #[], guard := none }) (v := ?_) rfl (by kernel_rfl) (by kernel_rfl) (by kernel_rfl) (fun _ _ _ h => h) (Or.inl ⟨by rfl, ?_⟩) (by assumption) ?_
      rotate_left
      · intro X hSw; go_simp; try (with_reducible rfl)
      try simp only [Act.put, List.setIfInBounds_toArray, List.set_cons_zero, List.set_cons_succ]
      refine wpAnyH_take (i := 13) (oi := { dst := some 100, op := Op.indexAddr 35 (Operand.tmp 99) (Operand.const (Value.int IntKind.i64 3)), type := 0, pos := "ref.go:70", after := #[{ on := 12, ground := Ground.data }], guard := none }) (v := ?_) rfl (by kernel_rfl) (by kernel_rfl) (by kernel_rfl) (fun _ _ _ h => h) (Or.inl ⟨by rfl, ?_⟩) (by assumption) ?_
      rotate_left
      · intro X hSw; go_simp; try (with_reducible rfl)
      try simp only [Act.put, List.setIfInBounds_toArray, List.set_cons_zero, List.set_cons_succ]
      refine wpAnyH_take (i := 14) (oi := { dst := some 101, op := Op.load 27 (Operand.tmp 100), type := 27, pos := "ref.go:70", after := #[{ on := 13, ground := Ground.data }], guard := none }) (v := ?_) rfl (by kernel_rfl) (by kernel_rfl) (by kernel_rfl) (fun _ _ _ h => h) (Or.inl ⟨by rfl, ?_⟩) (by assumption) ?_
      rotate_left
      · intro X hSw; have hq := (hSw.cell (p := ⟨g, o + 3, none⟩) hgw).trans z3; go_simp; try (with_reducible rfl)
      try simp only [Act.put, List.setIfInBounds_toArray, List.set_cons_zero, List.set_cons_succ]
      refine wpAnyH_take (i := 15) (oi := { dst := some 102, op := Op.move (Operand.tmp 9), type := 27, pos := "ref.go:70", after := #[], guard := none }) (v := ?_) rfl (by kernel_rfl) (by kernel_rfl) (by kernel_rfl) (fun _ _ _ h => h) (Or.inl ⟨by rfl, ?_⟩) (by assumption) ?_
      rotate_left
      · intro X hSw; go_simp; try (with_reducible rfl)
      try simp only [Act.put, List.setIfInBounds_toArray, List.set_cons_zero, List.set_cons_succ]
      refine wpAnyH_take (i := 16) (oi := { dst := some 103, op := Op.binOp BinOp.add 27 (Operand.tmp 101) (Operand.tmp 102) 27, type := 27, pos := "ref.go:70", after := #[{ on := 14, ground := Ground.data }, { on := 15, ground := Ground.data }], guard := none }) (v := ?_) rfl (by kernel_rfl) (by kernel_rfl) (by kernel_rfl) (fun _ _ _ h => h) (Or.inl ⟨by rfl, ?_⟩) (by assumption) ?_
      rotate_left
      · intro X hSw; go_simp; try (with_reducible rfl)
      try simp only [Act.put, List.setIfInBounds_toArray, List.set_cons_zero, List.set_cons_succ]
      refine wpAnyH_take (i := 17) (oi := { dst := some 104, op := Op.move (Operand.tmp 5), type := 35, pos := "ref.go:70", after := #[], guard := none }) (v := ?_) rfl (by kernel_rfl) (by kernel_rfl) (by kernel_rfl) (fun _ _ _ h => h) (Or.inl ⟨by rfl, ?_⟩) (by assumption) ?_
      rotate_left
      · intro X hSw; go_simp; try (with_reducible rfl)
      try simp only [Act.put, List.setIfInBounds_toArray, List.set_cons_zero, List.set_cons_succ]
      refine wpAnyH_take (i := 18) (oi := { dst := some 105, op := Op.indexAddr 35 (Operand.tmp 104) (Operand.const (Value.int IntKind.i64 4)), type := 0, pos := "ref.go:70", after := #[{ on := 17, ground := Ground.data }], guard := none }) (v := ?_) rfl (by kernel_rfl) (by kernel_rfl) (by kernel_rfl) (fun _ _ _ h => h) (Or.inl ⟨by rfl, ?_⟩) (by assumption) ?_
      rotate_left
      · intro X hSw; go_simp; try (with_reducible rfl)
      try simp only [Act.put, List.setIfInBounds_toArray, List.set_cons_zero, List.set_cons_succ]
      refine wpAnyH_take (i := 19) (oi := { dst := some 106, op := Op.load 27 (Operand.tmp 105), type := 27, pos := "ref.go:70", after := #[{ on := 18, ground := Ground.data }], guard := none }) (v := ?_) rfl (by kernel_rfl) (by kernel_rfl) (by kernel_rfl) (fun _ _ _ h => h) (Or.inl ⟨by rfl, ?_⟩) (by assumption) ?_
      rotate_left
      · intro X hSw; have hq := (hSw.cell (p := ⟨g, o + 4, none⟩) hgw).trans z4; go_simp; try (with_reducible rfl)
      try simp only [Act.put, List.setIfInBounds_toArray, List.set_cons_zero, List.set_cons_succ]
      refine wpAnyH_take (i := 20) (oi := { dst := some 107, op := Op.move (Operand.tmp 5), type := 35, pos := "ref.go:70", after := #[], guard := none }) (v := ?_) rfl (by kernel_rfl) (by kernel_rfl) (by kernel_rfl) (fun _ _ _ h => h) (Or.inl ⟨by rfl, ?_⟩) (by assumption) ?_
      rotate_left
      · intro X hSw; go_simp; try (with_reducible rfl)
      try simp only [Act.put, List.setIfInBounds_toArray, List.set_cons_zero, List.set_cons_succ]
      refine wpAnyH_take (i := 21) (oi := { dst := some 108, op := Op.indexAddr 35 (Operand.tmp 107) (Operand.const (Value.int IntKind.i64 5)), type := 0, pos := "ref.go:70", after := #[{ on := 20, ground := Ground.data }], guard := none }) (v := ?_) rfl (by kernel_rfl) (by kernel_rfl) (by kernel_rfl) (fun _ _ _ h => h) (Or.inl ⟨by rfl, ?_⟩) (by assumption) ?_
      rotate_left
      · intro X hSw; go_simp; try (with_reducible rfl)
      try simp only [Act.put, List.setIfInBounds_toArray, List.set_cons_zero, List.set_cons_succ]
      refine wpAnyH_take (i := 22) (oi := { dst := some 109, op := Op.load 27 (Operand.tmp 108), type := 27, pos := "ref.go:70", after := #[{ on := 21, ground := Ground.data }], guard := none }) (v := ?_) rfl (by kernel_rfl) (by kernel_rfl) (by kernel_rfl) (fun _ _ _ h => h) (Or.inl ⟨by rfl, ?_⟩) (by assumption) ?_
      rotate_left
      · intro X hSw; have hq := (hSw.cell (p := ⟨g, o + 5, none⟩) hgw).trans z5; go_simp; try (with_reducible rfl)
      try simp only [Act.put, List.setIfInBounds_toArray, List.set_cons_zero, List.set_cons_succ]
      refine wpAnyH_take (i := 23) (oi := { dst := some 110, op := Op.move (Operand.tmp 5), type := 35, pos := "ref.go:70", after := #[], guard := none }) (v := ?_) rfl (by kernel_rfl) (by kernel_rfl) (by kernel_rfl) (fun _ _ _ h => h) (Or.inl ⟨by rfl, ?_⟩) (by assumption) ?_
      rotate_left
      · intro X hSw; go_simp; try (with_reducible rfl)
      try simp only [Act.put, List.setIfInBounds_toArray, List.set_cons_zero, List.set_cons_succ]
      refine wpAnyH_take (i := 24) (oi := { dst := some 111, op := Op.indexAddr 35 (Operand.tmp 110) (Operand.const (Value.int IntKind.i64 6)), type := 0, pos := "ref.go:70", after := #[{ on := 23, ground := Ground.data }], guard := none }) (v := ?_) rfl (by kernel_rfl) (by kernel_rfl) (by kernel_rfl) (fun _ _ _ h => h) (Or.inl ⟨by rfl, ?_⟩) (by assumption) ?_
      rotate_left
      · intro X hSw; go_simp; try (with_reducible rfl)
      try simp only [Act.put, List.setIfInBounds_toArray, List.set_cons_zero, List.set_cons_succ]
      refine wpAnyH_take (i := 25) (oi := { dst := some 112, op := Op.load 27 (Operand.tmp 111), type := 27, pos := "ref.go:70", after := #[{ on := 24, ground := Ground.data }], guard := none }) (v := ?_) rfl (by kernel_rfl) (by kernel_rfl) (by kernel_rfl) (fun _ _ _ h => h) (Or.inl ⟨by rfl, ?_⟩) (by assumption) ?_
      rotate_left
      · intro X hSw; have hq := (hSw.cell (p := ⟨g, o + 6, none⟩) hgw).trans z6; go_simp; try (with_reducible rfl)
      try simp only [Act.put, List.setIfInBounds_toArray, List.set_cons_zero, List.set_cons_succ]
      refine wpAnyH_ready (rs := [26]) (by kernel_rfl) (by simp) ?_
      refine AllReadyH.cons (o := { dst := some 113, op := Op.buildSlice 35 8 #[(0, Operand.tmp 89), (1, Operand.tmp 92), (2, Operand.tmp 95), (3, Operand.tmp 98), (4, Operand.tmp 103), (5, Operand.tmp 106), (6, Operand.tmp 109), (7, Operand.tmp 112)], type := 35, pos := "ref.go:70", after := #[{ on := 2, ground := Ground.data }, { on := 5, ground := Ground.data }, { on := 8, ground := Ground.data }, { on := 11, ground := Ground.data }, { on := 16, ground := Ground.data }, { on := 19, ground := Ground.data }, { on := 22, ground := Ground.data }, { on := 25, ground := Ground.data }], guard := none }) rfl (fun K hK => ?_) AllReadyH.nil
      go_simp
      refine gen_alloc ?_
      intro w2 hw2 hbw2
      rw [g_addw, g_addw] at hw2
      have HRB2 := Lib.hid (rw_lit8 hw2)
      try (go_wp2_with fail)
      have hHeld' := (bel_drewN w1 (nq + 1)).trans (hbw2.mono (Nat.le_refl _))
      refine hK.out _ _ ?_ (fun _ => ?_)
      · exact hHeld'
      clear hK K hHeld
      have hHeld := hHeld'
      clear hHeld'
      try simp only [Act.put, List.setIfInBounds_toArray, List.set_cons_zero, List.set_cons_succ]
      refine wpAnyH_take (i := 27) (oi := { dst := some 5, op := Op.assign (Operand.tmp 113), type := 35, pos := "ref.go:70", after := #[{ on := 26, ground := Ground.data }, { on := 0, ground := Ground.phase }, { on := 1, ground := Ground.phase }, { on := 2, ground := Ground.phase }, { on := 3, ground := Ground.phase }, { on := 4, ground := Ground.phase }, { on := 5, ground := Ground.phase }, { on := 6, ground := Ground.phase }, { on := 7, ground := Ground.phase }, { on := 8, ground := Ground.phase }, { on := 9, ground := Ground.phase }, { on := 10, ground := Ground.phase }, { on := 11, ground := Ground.phase }, { on := 12, ground := Ground.phase }, { on := 13, ground := Ground.phase }, { on := 14, ground := Ground.phase }, { on := 15, ground := Ground.phase }, { on := 16, ground := Ground.phase }, { on := 17, ground := Ground.phase }, { on := 18, ground := Ground.phase }, { on := 19, ground := Ground.phase }, { on := 20, ground := Ground.phase }, { on := 21, ground := Ground.phase }, { on := 22, ground := Ground.phase }, { on := 23, ground := Ground.phase }, { on := 24, ground := Ground.phase }, { on := 25, ground := Ground.phase }, { on := 26, ground := Ground.phase }], guard := none }) (v := ?_) rfl (by kernel_rfl) (by kernel_rfl) (by kernel_rfl) (fun _ _ _ h => h) (Or.inl ⟨by rfl, ?_⟩) (by assumption) ?_
      rotate_left
      · intro X hSw; go_simp; try (with_reducible rfl)
      try simp only [Act.put, List.setIfInBounds_toArray, List.set_cons_zero, List.set_cons_succ]
      refine wpAnyH_done (by kernel_rfl) ?_ _
      have hb2 : Below w.heap.size w w2 := HB.out.trans (((Below.refl wr.heap.size wr).drew.trans (hbw1.trans (((bel_drewN w1 (nq + 1)).trans (hbw2.mono (Nat.le_refl _))).mono hbw1.size))).mono HB.out.size)
      have HB2 := Lib.hid hb2
      clear hb2 hw2 hbw2 hHeld
      go_wp2
      go_roundw
      case rel =>
        refine ⟨t + 1, by omega, by go_num, ?_, HB2.out⟩
        rw [HN.out]
        exact HRB2.out
      case measure => simp [intOf]; omega
    · obtain rfl : t = 64 := by omega
      have hML : ∀ k, k < 8 → (mix s W).list.getD k 0 = s.list.getD k 0 + (rounds W 64 s).list.getD k 0 := fun k hk => add_at s (rounds W 64 s) k hk
      have hML8 : (mix s W).list.length = 8 := rfl
      have hr8 : (rounds W 64 s).list.length = 8 := rfl
      obtain ⟨_, hc5, hm5, g, o, rfl, hg, hx⟩ := hr5.cells_ (by rw [hr8]; decide)
      obtain ⟨_, hc0, hm0, g0, o0, rfl, hg0, hx0⟩ := (H0.out.below hbel).cells_ (by rw [hl8]; decide)
      rw [hr8] at hc5 hx ⊢
      rw [hl8] at hc0 hx0
      obtain ⟨ML, hMLd⟩ : ∃ ML, ML = (mix s W).list := ⟨_, rfl⟩
      rw [← hMLd] at hML hML8
      have HML := Lib.hid hML
      have HMLD := Lib.hid hMLd
      have HML8 := Lib.hid hML8
      have HX := Lib.hid hx
      have HX0 := Lib.hid hx0
      have HB := Lib.hid hbel
      obtain ⟨Wo, hWo⟩ : ∃ Wo, Wo = wr := ⟨_, rfl⟩
      subst hWo
      clear hML hMLd hML8 hx hx0 hbel hr5 hr8 HX1
      go_wp2
      go_loopw [11, 12] (fun v11 i wr => ∃ k : Nat, k ≤ 8 ∧ i = .int .i64 k ∧ wr.ownsRow Wo.heap.size 27 1 v11 k ((ML.take k).map wv) ∧ Below Wo.heap.size Wo wr) (fun _ i _ => 8 - (intOf i).toNat)
      case atStart => exact ⟨0, by omega, rfl, World.ownsRow_nil _ _ _ _, Below.refl _ _⟩
      case round =>
        obtain ⟨k, hk, rfl, hown, hbo⟩ := hrel
        have hsz := hbo.size
        by_cases hlt : k < 8
        · have xs := HX0.out k hlt
          have ys := HX.out k hlt
          have htk : ML.take (k + 1) = ML.take k ++ [s.list.getD k 0 + (rounds W 64 s).list.getD k 0] := by
            have h9 := HML8.out
            rw [List.take_succ_eq_append_getElem (by omega), ← HML.out k hlt]
            simp [List.getElem?_eq_getElem (show k < ML.length by omega)]
          generalize s.list.getD k 0 = x at *
          generalize (rounds W 64 s).list.getD k 0 = y at *
          unfold wv at xs ys
          have HTK := Lib.hid htk
          have HO := Lib.hid hown
          have HB2 := Lib.hid hbo
          have HSZ := Lib.hid hsz
          have HLT := Lib.hid (show k + 1 ≤ maxLen by unfold maxLen; omega)
          have HLB := Lib.hid (show (k + 1) * 4 ≤ 140737488355328 by omega)
          have i0 : (0 : Int) ≤ (k : Int) := by omega
          have i1 : (k : Int) < 8 := by omega
          clear htk hown hbo hsz
          go_wp2
          refine wp_region_held_drew (S := fun X => Below Wo.heap.size Wo X) (by kernel_rfl) HB2.out.drew (fun hHeld => ?_)
          refine wpAnyH_take (i := 0) (oi := { dst := some 118, op := Op.move (Operand.tmp 11), type := 35, pos := "ref.go:74", after := #[], guard := none }) (v := ?_) rfl (by kernel_rfl) (by kernel_rfl) (by kernel_rfl) (fun _ _ _ h => h) (Or.inl ⟨by rfl, ?_⟩) (by assumption) ?_
          rotate_left
          · intro X hSw; go_simp; try (with_reducible rfl)
          try simp only [Act.put, List.setIfInBounds_toArray, List.set_cons_zero, List.set_cons_succ]
          refine wpAnyH_take (i := 1) (oi := { dst := some 119, op := Op.move (Operand.tmp 0), type := 35, pos := "ref.go:74", after := #[], guard := none }) (v := ?_) rfl (by kernel_rfl) (by kernel_rfl) (by kernel_rfl) (fun _ _ _ h => h) (Or.inl ⟨by rfl, ?_⟩) (by assumption) ?_
          rotate_left
          · intro X hSw; go_simp; try (with_reducible rfl)
          try simp only [Act.put, List.setIfInBounds_toArray, List.set_cons_zero, List.set_cons_succ]
          refine wpAnyH_take (i := 2) (oi := { dst := some 120, op := Op.move (Operand.tmp 12), type := 3, pos := "ref.go:74", after := #[], guard := none }) (v := ?_) rfl (by kernel_rfl) (by kernel_rfl) (by kernel_rfl) (fun _ _ _ h => h) (Or.inl ⟨by rfl, ?_⟩) (by assumption) ?_
          rotate_left
          · intro X hSw; go_simp; try (with_reducible rfl)
          try simp only [Act.put, List.setIfInBounds_toArray, List.set_cons_zero, List.set_cons_succ]
          refine wpAnyH_take (i := 3) (oi := { dst := some 121, op := Op.indexAddr 35 (Operand.tmp 119) (Operand.tmp 120), type := 0, pos := "ref.go:74", after := #[{ on := 1, ground := Ground.data }, { on := 2, ground := Ground.data }], guard := none }) (v := ?_) rfl (by kernel_rfl) (by kernel_rfl) (by kernel_rfl) (fun _ _ _ h => h) (Or.inl ⟨by rfl, ?_⟩) (by assumption) ?_
          rotate_left
          · intro X hSw; go_simp; try (with_reducible rfl)
          try simp only [Act.put, List.setIfInBounds_toArray, List.set_cons_zero, List.set_cons_succ]
          refine wpAnyH_take (i := 4) (oi := { dst := some 122, op := Op.load 27 (Operand.tmp 121), type := 27, pos := "ref.go:74", after := #[{ on := 3, ground := Ground.data }], guard := none }) (v := ?_) rfl (by kernel_rfl) (by kernel_rfl) (by kernel_rfl) (fun _ _ _ h => h) (Or.inl ⟨by rfl, ?_⟩) (by assumption) ?_
          rotate_left
          · intro X hSw; have hq := (hSw.cell (p := ⟨g0, o0 + k, none⟩) hg0).trans xs; go_simp; try (with_reducible rfl)
          try simp only [Act.put, List.setIfInBounds_toArray, List.set_cons_zero, List.set_cons_succ]
          refine wpAnyH_take (i := 5) (oi := { dst := some 123, op := Op.move (Operand.tmp 5), type := 35, pos := "ref.go:74", after := #[], guard := none }) (v := ?_) rfl (by kernel_rfl) (by kernel_rfl) (by kernel_rfl) (fun _ _ _ h => h) (Or.inl ⟨by rfl, ?_⟩) (by assumption) ?_
          rotate_left
          · intro X hSw; go_simp; try (with_reducible rfl)
          try simp only [Act.put, List.setIfInBounds_toArray, List.set_cons_zero, List.set_cons_succ]
          refine wpAnyH_take (i := 6) (oi := { dst := some 124, op := Op.move (Operand.tmp 12), type := 3, pos := "ref.go:74", after := #[], guard := none }) (v := ?_) rfl (by kernel_rfl) (by kernel_rfl) (by kernel_rfl) (fun _ _ _ h => h) (Or.inl ⟨by rfl, ?_⟩) (by assumption) ?_
          rotate_left
          · intro X hSw; go_simp; try (with_reducible rfl)
          try simp only [Act.put, List.setIfInBounds_toArray, List.set_cons_zero, List.set_cons_succ]
          refine wpAnyH_take (i := 7) (oi := { dst := some 125, op := Op.indexAddr 35 (Operand.tmp 123) (Operand.tmp 124), type := 0, pos := "ref.go:74", after := #[{ on := 5, ground := Ground.data }, { on := 6, ground := Ground.data }], guard := none }) (v := ?_) rfl (by kernel_rfl) (by kernel_rfl) (by kernel_rfl) (fun _ _ _ h => h) (Or.inl ⟨by rfl, ?_⟩) (by assumption) ?_
          rotate_left
          · intro X hSw; go_simp; try (with_reducible rfl)
          try simp only [Act.put, List.setIfInBounds_toArray, List.set_cons_zero, List.set_cons_succ]
          refine wpAnyH_take (i := 8) (oi := { dst := some 126, op := Op.load 27 (Operand.tmp 125), type := 27, pos := "ref.go:74", after := #[{ on := 7, ground := Ground.data }], guard := none }) (v := ?_) rfl (by kernel_rfl) (by kernel_rfl) (by kernel_rfl) (fun _ _ _ h => h) (Or.inl ⟨by rfl, ?_⟩) (by assumption) ?_
          rotate_left
          · intro X hSw; have hq := (hSw.cell (p := ⟨g, o + k, none⟩) hg).trans ys; go_simp; try (with_reducible rfl)
          try simp only [Act.put, List.setIfInBounds_toArray, List.set_cons_zero, List.set_cons_succ]
          refine wpAnyH_take (i := 9) (oi := { dst := some 127, op := Op.binOp BinOp.add 27 (Operand.tmp 122) (Operand.tmp 126) 27, type := 27, pos := "ref.go:74", after := #[{ on := 4, ground := Ground.data }, { on := 8, ground := Ground.data }], guard := none }) (v := ?_) rfl (by kernel_rfl) (by kernel_rfl) (by kernel_rfl) (fun _ _ _ h => h) (Or.inl ⟨by rfl, ?_⟩) (by assumption) ?_
          rotate_left
          · intro X hSw; go_simp; try (with_reducible rfl)
          try simp only [Act.put, List.setIfInBounds_toArray, List.set_cons_zero, List.set_cons_succ]
          refine wpAnyH_ready (rs := [10]) (by kernel_rfl) (by simp) ?_
          refine AllReadyH.cons (o := { dst := some 128, op := Op.buildSlice 35 1 #[(0, Operand.tmp 127)], type := 35, pos := "ref.go:74", after := #[{ on := 9, ground := Ground.data }], guard := none }) rfl (fun K hK => ?_) AllReadyH.nil
          go_simp
          refine gen_allocD ?_
          intro w2 hw2 hbw2
          have HSRC := Lib.hid (src_alloc (P := Tryd.prog) Tryd.underlying35 hw2)
          try (go_wp2_with fail)
          have hHeld' := HB2.out.trans (hbw2.mono HSZ.out)
          refine hK.out _ _ ?_ (fun _ => ?_)
          · exact hHeld'
          clear hK K hHeld
          have hHeld := hHeld'
          clear hHeld'
          try simp only [Act.put, List.setIfInBounds_toArray, List.set_cons_zero, List.set_cons_succ]
          refine wpAnyH_ready (rs := [11]) (by kernel_rfl) (by simp) ?_
          refine AllReadyH.cons (o := { dst := some 129, op := Op.call { callee := Callee.builtin Builtin.append, args := #[Operand.tmp 118, Operand.tmp 128], argTypes := #[35, 35] }, type := 35, pos := "ref.go:74", after := #[{ on := 0, ground := Ground.data }, { on := 10, ground := Ground.data }], guard := none }) rfl (fun K hK => ?_) AllReadyH.nil
          refine step_own (by rfl) (.tmp 118) (.tmp 128) 35 35 (by rfl) Wo.heap.size 27 (.int .u32 0) 1 4 Tryd.underlying35 info27 rfl (by rfl) (own_below HO.out hbw2) (by rfl) HSRC.out hHeld (Nat.le_refl _) HLT.out HLB.out (Nat.le_trans HSZ.out hbw2.size) ?_
          intro v3 w3 hown3 hbel3 _
          have hHeld' := hbel3
          refine hK.out _ _ ?_ (fun _ => ?_)
          · exact hHeld'
          clear hK K hHeld
          have hHeld := hHeld'
          clear hHeld'
          try simp only [Act.put, List.setIfInBounds_toArray, List.set_cons_zero, List.set_cons_succ]
          refine wpAnyH_take (i := 12) (oi := { dst := some 11, op := Op.assign (Operand.tmp 129), type := 35, pos := "ref.go:74", after := #[{ on := 11, ground := Ground.data }, { on := 11, ground := Ground.chain }, { on := 0, ground := Ground.phase }, { on := 1, ground := Ground.phase }, { on := 2, ground := Ground.phase }, { on := 3, ground := Ground.phase }, { on := 4, ground := Ground.phase }, { on := 5, ground := Ground.phase }, { on := 6, ground := Ground.phase }, { on := 7, ground := Ground.phase }, { on := 8, ground := Ground.phase }, { on := 9, ground := Ground.phase }, { on := 10, ground := Ground.phase }, { on := 11, ground := Ground.phase }], guard := none }) (v := ?_) rfl (by kernel_rfl) (by kernel_rfl) (by kernel_rfl) (fun _ _ _ h => h) (Or.inl ⟨by rfl, ?_⟩) (by assumption) ?_
          rotate_left
          · intro X hSw; go_simp; try (with_reducible rfl)
          try simp only [Act.put, List.setIfInBounds_toArray, List.set_cons_zero, List.set_cons_succ]
          refine wpAnyH_done (by kernel_rfl) ?_ _
          rw [g_addw] at hown3
          have HO3 := Lib.hid hown3
          clear hown3 hw2 hbw2 HSRC hHeld
          go_wp2
          go_roundw
          case rel =>
            refine ⟨k + 1, by omega, by go_num, ?_, hbel3⟩
            rw [HTK.out]
            exact own_word rfl HO3.out
          case measure => simp [intOf]; omega
        · obtain rfl : k = 8 := by omega
          have h9 := HML8.out
          rw [List.take_of_length_le (by omega), HMLD.out] at hown
          have HO := Lib.hid (own_base hown HB.out.size)
          have HB2 := Lib.hid (HB.out.trans (hbo.mono HB.out.size))
          clear hown hbo h9
          go_wp2
          go_ret
          exact ⟨_, rfl, HO.out, HB2.out⟩
end Go.Proofs.YtbfemhhmijlmlaaDoor
