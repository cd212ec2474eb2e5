/-
  The contract of step, of writes: a device and the document's own are turned alike, and told the same.
-/
import Derived.Test.YtpaahbohbnfibaaStepA
namespace Go.Proofs.Ytpaahbohbnfibaa
open Go.RowKit Go.Rst Go.Dv
theorem drew_b {w : World} : Below w.heap.size w w.drew := (Below.refl _ _).drew
set_option maxRecDepth 100000 in
set_option maxHeartbeats 2000000 in
theorem step_0y {D A : Nat → Prop} {w : World} {v tv uB uK : Value} {s : Sim} {b : List UInt8} {K : List Bool} (kd : Nat) (i : Int) (c : UInt8) (hd : Dev D w v s) (ht : TR A w tv s) (hDA : ∀ k, D k → A k) (hA : ∀ k, A k → k < w.heap.size) (hb : RA A w uB b) (hK : KB A w uK K) (hw : s.nw < 299) (hf : s.nf < 299) (hq : kd % 9 = 0) (hy : 0 < c.toNat % 8) :
    Calls Try.prog 18 #[v, tv, .agg #[.int .u8 (kd : Int), .int .i64 i, uB, uK, .int .u8 (c.toNat : Int)]] w (StepR D A w v (s.write (((c.toNat % 9 : Nat) : Int)) b)) := by
  have HD := Lib.hid hd
  have HT := Lib.hid ht
  have HDA := Lib.hid hDA
  have HA := Lib.hid hA
  have HRB := Lib.hid hb
  have HKB := Lib.hid hK
  have HOK := Lib.hid hd.ok
  obtain ⟨y, rfl, _⟩ := hd
  obtain ⟨vS, vL, lf, rfl, hS, hL, _⟩ := ht
  obtain ⟨aS, cS, rfl, _⟩ := hS.shape
  obtain ⟨aL, cL, rfl, _⟩ := hL.shape
  obtain ⟨f0, hf0⟩ : ∃ f0, f0 = s.fuse.isSome := ⟨_, rfl⟩
  rw [← hf0] at HT ⊢
  obtain ⟨⟨aB, cB, rfl, _⟩, _⟩ := hb
  obtain ⟨aK, cK, rfl, _⟩ := hK
  obtain ⟨nB, hnB⟩ : ∃ nB, nB = b.length := ⟨_, rfl⟩
  obtain ⟨nK, hnK⟩ : ∃ nK, nK = K.length := ⟨_, rfl⟩
  rw [← hnB] at HRB ⊢
  rw [← hnK] at HKB ⊢
  have HW9 := Lib.hid hw
  have HF9 := Lib.hid hf
  have HF0 := Lib.hid hf0
  have k0 : (0 : Int) ≤ (kd : Int) := by omega
  have k1 : (kd : Int) % 9 = 0 := by omega
  have k2 : (kd : Int).tmod 9 = 0 := by rw [Int.tmod_eq_emod_of_nonneg (by omega)]; omega
  have c0 : (0 : Int) ≤ (c.toNat : Int) := by omega
  have c256 : c.toNat < 256 := c.toNat_lt
  obtain ⟨e8, he8⟩ : ∃ e8, e8 = c.toNat % 8 := ⟨_, rfl⟩
  obtain ⟨n9, hn9⟩ : ∃ n9, n9 = c.toNat % 9 := ⟨_, rfl⟩
  rw [← hn9]
  have c1 : (c.toNat : Int) % 8 = (e8 : Int) := by omega
  have c2 : (c.toNat : Int).tmod 8 = (e8 : Int) := by rw [Int.tmod_eq_emod_of_nonneg (by omega)]; omega
  have c3 : (0 : Int) < (e8 : Int) := by omega
  have c4 : (c.toNat : Int) % 9 = (n9 : Int) := by omega
  have c5 : (c.toNat : Int).tmod 9 = (n9 : Int) := by rw [Int.tmod_eq_emod_of_nonneg (by omega)]; omega
  have c6 : IntKind.i64.wrap (n9 : Int) = (n9 : Int) := by rw [IntKind.wrap_i64]; omega
  clear he8 hn9 hy
  clear hf0 hnB hnK hS hL hDA hA hw hf hq c256
  go_enter Try.func18, Try.ntmps18
  go_wp2_with fail
  obtain ⟨g, hg⟩ : ∃ g, g = w.heap.size := ⟨_, rfl⟩
  obtain ⟨W1, hW1⟩ : ∃ W1, W1 = ((w.alloc (Obj.cells #[Value.slice aS s.firm.length cS, Value.slice aL s.loose.length cL, Value.int IntKind.i64 ↑s.nw, Value.int IntKind.i64 ↑s.nf, Value.bool f0, Value.int IntKind.i64 lf] 38)).alloc (Obj.cells #[Value.int IntKind.u8 ↑kd, Value.int IntKind.i64 i, Value.slice aB nB cB, Value.slice aK nK cK, Value.int IntKind.u8 ↑c.toNat] 44)).alloc (Obj.cells #[Value.slice none 0 0, Value.slice none 0 0, Value.int IntKind.i64 0, Value.int IntKind.i64 0, Value.bool false, Value.int IntKind.i64 0] 38) := ⟨_, rfl⟩
  rw [← hW1, ← hg]
  have HB1 := Lib.hid (show Below w.heap.size w W1 by rw [hW1]; exact below3 w _ _ _)
  have HT1 := Lib.hid (show Blk W1 g 38 #[Value.slice aS s.firm.length cS, Value.slice aL s.loose.length cL, Value.int IntKind.i64 ↑s.nw, Value.int IntKind.i64 ↑s.nf, Value.bool f0, Value.int IntKind.i64 lf] by rw [hW1, hg]; exact (blk3 w _ _ _ _ _ _).1)
  have HX1 := Lib.hid (show Blk W1 (g + 1) 44 #[Value.int IntKind.u8 ↑kd, Value.int IntKind.i64 i, Value.slice aB nB cB, Value.slice aK nK cK, Value.int IntKind.u8 ↑c.toNat] by rw [hW1, hg]; exact (blk3 w _ _ _ _ _ _).2.1)
  have HZ1 := Lib.hid (show Blk W1 (g + 1 + 1) 38 #[Value.slice none 0 0, Value.slice none 0 0, Value.int IntKind.i64 0, Value.int IntKind.i64 0, Value.bool false, Value.int IntKind.i64 0] by rw [hW1, hg]; exact (blk3 w _ _ _ _ _ _).2.2)
  have HG := Lib.hid hg
  have HGs := Lib.hid (show g + 1 + 1 < W1.heap.size from HZ1.out.lt)
  have HDg := Lib.hid (show ∀ k, D k → k < g from fun k hk => by have := HD.out.lt k hk; omega)
  have HA1 := Lib.hid (show ∀ k, (fun k => A k ∨ k = g ∨ k = g + 1 ∨ k = g + 1 + 1) k → k < W1.heap.size from fun k hk => by have hs := HGs.out; rcases hk with hk | hk | hk | hk; have := HA.out k hk; omega; all_goals omega)
  have HTR := Lib.hid (show TR (fun k => A k ∨ k = g ∨ k = g + 1 ∨ k = g + 1 + 1) W1 _ s from HT.out.fr (D := fun _ => False) (Fr.of_below HB1.out) (fun _ h => h.elim) (fun k hk => by rcases hk with hk | hk | hk | hk; exact .inl hk; all_goals exact .inr (by omega)))
  have HD1 := Lib.hid (HD.out.below HB1.out)
  have HRB1 := Lib.hid (HRB.out.1.below HB1.out)
  have HKB1 := Lib.hid (HKB.out.fr (Fr.of_below HB1.out) (fun _ _ h => h.elim) (E := fun _ => False))
  clear hW1 hg
  go_at_call 29
  refine (refwrite_any (n9 : Int) b HTR.out HOK.out HA1.out (by have := HW9.out; omega) HRB1.out).mono ?_
  rintro e w4 ⟨tv4, rfl, ht4, hb4⟩
  obtain ⟨S, hSe⟩ : ∃ S, S = s.write (n9 : Int) b := ⟨_, rfl⟩
  have HSe := Lib.hid hSe
  rw [← hSe] at ht4 ⊢
  obtain ⟨vS4, vL4, lf4, rfl, hS4, hL4, _⟩ := id ht4
  obtain ⟨aS4, cS4, rfl, _⟩ := hS4.shape
  obtain ⟨aL4, cL4, rfl, _⟩ := hL4.shape
  obtain ⟨f4, hf4⟩ : ∃ f4, f4 = S.fuse.isSome := ⟨_, rfl⟩
  rw [← hf4] at ht4 ⊢
  have HTR4 := Lib.hid ht4
  clear hS4 hL4 hf4 ht4
  have hwb := wrote_bounds s (n9 : Int) b
  obtain ⟨e0, he0⟩ : ∃ e0, e0 = s.wrote (n9 : Int) b := ⟨_, rfl⟩
  rw [← he0] at hwb ⊢
  have HE0 := Lib.hid he0
  have r1 : IntKind.i64.wrap e0 = e0 := by rw [IntKind.wrap_i64]; omega
  clear he0
  have HB4 := Lib.hid (HB1.out.trans (hb4.mono HB1.out.size))
  have HX4 := Lib.hid (HX1.out.below hb4 HX1.out.lt)
  have HZ4 := Lib.hid (HZ1.out.below hb4 HZ1.out.lt)
  clear hb4 hSe
  go_wp2_with fail
  obtain ⟨g9, hg9⟩ : ∃ g9, g9 = w4.heap.size := ⟨_, rfl⟩
  obtain ⟨W5, hW5⟩ : ∃ W5, W5 = w4.alloc (Obj.cells #[Value.slice aS4 S.firm.length cS4, Value.slice aL4 S.loose.length cL4, Value.int IntKind.i64 ↑S.nw, Value.int IntKind.i64 ↑S.nf, Value.bool f4, Value.int IntKind.i64 lf4] 38) := ⟨_, rfl⟩
  rw [← hW5, ← hg9]
  have hb5 : Below w4.heap.size w4 W5 := by rw [hW5]; exact (Below.refl _ _).alloc (Nat.le_refl _) _
  have HC9 := Lib.hid (show Blk W5 g9 38 #[Value.slice aS4 S.firm.length cS4, Value.slice aL4 S.loose.length cL4, Value.int IntKind.i64 ↑S.nw, Value.int IntKind.i64 ↑S.nf, Value.bool f4, Value.int IntKind.i64 lf4] by rw [hW5, hg9]; exact heap_alloc_new w4 _)
  have HB5 := Lib.hid (HB4.out.trans (hb5.mono HB4.out.size))
  have HX5 := Lib.hid (HX4.out.below hb5 HX4.out.lt)
  have HZ5 := Lib.hid (HZ4.out.below hb5 HZ4.out.lt)
  have HTR5 := Lib.hid (HTR4.out.below hb5)
  have hgz := HZ4.out.lt
  have HG9 := Lib.hid (show g + 1 + 1 < g9 by rw [hg9]; exact hgz)
  have HD5 := Lib.hid (HD.out.below HB5.out)
  have HRB5 := Lib.hid (HRB.out.1.below HB5.out)
  clear hb5 hW5 hg9 hgz
  refine wp_region_held_drew (S := fun X => Fr (fun k => D k ∨ k = g + 1 + 1) W5 X) (by kernel_rfl) (Fr.refl _ _).drew (fun hHeld => ?_)
  refine wpAnyH_take (i := 0) (oi := { dst := some 42, op := Op.load 38 (Operand.tmp 9), type := 38, pos := "law.go:53", after := #[], guard := none }) (v := ?_) rfl (by kernel_rfl) (by kernel_rfl) (by kernel_rfl) (fun _ _ _ h => h) (Or.inl ⟨by rfl, ?_⟩) (by assumption) ?_
  rotate_left
  · intro X hSw; have hq := HC9.out.same (hSw.block g9 HC9.out.lt (fun h => by have h3 := HG9.out; rcases h with h | h; have := HDg.out g9 h; omega; omega)); have hq0 := hq.cell 0; have hq1 := hq.cell 1; have hq2 := hq.cell 2; have hq3 := hq.cell 3; have hq4 := hq.cell 4; have hq5 := hq.cell 5; go_simp; try (with_reducible rfl)
  try simp only [Act.put, List.setIfInBounds_toArray, List.set_cons_zero, List.set_cons_succ]
  refine wpAnyH_take (i := 1) (oi := { dst := some 43, op := Op.move (Operand.tmp 0), type := 23, pos := "law.go:53", after := #[], guard := none }) (v := ?_) rfl (by kernel_rfl) (by kernel_rfl) (by kernel_rfl) (fun _ _ _ h => h) (Or.inl ⟨by rfl, ?_⟩) (by assumption) ?_
  rotate_left
  · intro X hSw; go_simp; try (with_reducible rfl)
  try simp only [Act.put, List.setIfInBounds_toArray, List.set_cons_zero, List.set_cons_succ]
  refine wpAnyH_take (i := 2) (oi := { dst := some 44, op := Op.move (Operand.tmp 8), type := 3, pos := "law.go:53", after := #[], guard := none }) (v := ?_) rfl (by kernel_rfl) (by kernel_rfl) (by kernel_rfl) (fun _ _ _ h => h) (Or.inl ⟨by rfl, ?_⟩) (by assumption) ?_
  rotate_left
  · intro X hSw; go_simp; try (with_reducible rfl)
  try simp only [Act.put, List.setIfInBounds_toArray, List.set_cons_zero, List.set_cons_succ]
  refine wpAnyH_take (i := 3) (oi := { dst := some 45, op := Op.fieldAddr 44 (Operand.tmp 5) 2, type := 0, pos := "law.go:53", after := #[], guard := none }) (v := ?_) rfl (by kernel_rfl) (by kernel_rfl) (by kernel_rfl) (fun _ _ _ h => h) (Or.inl ⟨by rfl, ?_⟩) (by assumption) ?_
  rotate_left
  · intro X hSw; go_simp; try (with_reducible rfl)
  try simp only [Act.put, List.setIfInBounds_toArray, List.set_cons_zero, List.set_cons_succ]
  refine wpAnyH_take (i := 4) (oi := { dst := some 46, op := Op.load 28 (Operand.tmp 45), type := 28, pos := "law.go:53", after := #[{ on := 3, ground := Ground.data }], guard := none }) (v := ?_) rfl (by kernel_rfl) (by kernel_rfl) (by kernel_rfl) (fun _ _ _ h => h) (Or.inl ⟨by rfl, ?_⟩) (by assumption) ?_
  rotate_left
  · intro X hSw; have hq := HX5.out.same (hSw.block (g + 1) HX5.out.lt (fun h => by rcases h with h | h; have := HDg.out (g + 1) h; omega; omega)); have hq2 := hq.cell 2; have hq4 := hq.cell 4; go_simp; try (with_reducible rfl)
  try simp only [Act.put, List.setIfInBounds_toArray, List.set_cons_zero, List.set_cons_succ]
  refine wpAnyH_take (i := 7) (oi := { dst := some 49, op := Op.move (Operand.tmp 10), type := 3, pos := "law.go:53", after := #[{ on := 9, ground := Ground.gcOnly Departure.lateStores }], guard := none }) (v := ?_) rfl (by kernel_rfl) (by kernel_rfl) (by kernel_rfl) (fun _ _ _ h => h) (Or.inl ⟨by rfl, ?_⟩) (by assumption) ?_
  rotate_left
  · intro X hSw; go_simp; try (with_reducible rfl)
  try simp only [Act.put, List.setIfInBounds_toArray, List.set_cons_zero, List.set_cons_succ]
  refine wpAnyH_ready (rs := [5]) (by kernel_rfl) (by simp) ?_
  refine AllReadyH.cons (o := { dst := some 47, op := Op.call { callee := Callee.value (Operand.func 12), args := #[Operand.tmp 43, Operand.tmp 44, Operand.tmp 46], argTypes := #[23, 3, 28] }, type := 26, pos := "law.go:53", after := #[{ on := 1, ground := Ground.data }, { on := 2, ground := Ground.data }, { on := 4, ground := Ground.data }], guard := none }) rfl (fun K hK => ?_) AllReadyH.nil
  go_simp
  refine (write_any (n9 : Int) _ b (HD5.out.below drew_b) (HRB5.out.below drew_b) (fun hl j hj hk => HRB.out.2 hl j hj (HDA.out j hk)) HW9.out HF9.out).mono ?_
  rintro e w6 ⟨rfl, E, hE1, hE2, hE3⟩
  rw [← HE0.out]
  rw [← HSe.out] at hE1
  have HE1 := Lib.hid hE1
  have HE2 := Lib.hid (hHeld.trans hE2 (fun k hk => .inl (.inl hk)))
  have HE3 := Lib.hid (show ∀ k, E k → D k ∨ W5.heap.size ≤ k from hE3)
  have HZ6 := Lib.hid (HZ5.out.same (hE2.block (g + 1 + 1) HZ5.out.lt (fun h => by have := HDg.out (g + 1 + 1) h; omega)))
  clear hE1 hE2 hE3
  go_wp2_with fail
  try (go_wp2_with fail)
  have hHeld' := HE2.out
  refine hK.out _ _ ?_ (fun _ => ?_)
  · exact hHeld'
  clear hK K hHeld
  have hHeld := hHeld'
  clear hHeld'
  try simp only [Act.put, List.setIfInBounds_toArray, List.set_cons_zero, List.set_cons_succ]
  refine wpAnyH_take (i := 6) (oi := { dst := some 48, op := Op.convert 26 3 (Operand.tmp 47), type := 3, pos := "law.go:53", after := #[{ on := 5, ground := Ground.data }, { on := 9, ground := Ground.gcOnly Departure.lateStores }], guard := none }) (v := ?_) rfl (by kernel_rfl) (by kernel_rfl) (by kernel_rfl) (fun _ _ _ h => h) (Or.inl ⟨by rfl, ?_⟩) (by assumption) ?_
  rotate_left
  · intro X hSw; go_simp; try (with_reducible rfl)
  try simp only [Act.put, List.setIfInBounds_toArray, List.set_cons_zero, List.set_cons_succ]
  refine wpAnyH_take (i := 8) (oi := { dst := some 50, op := Op.binOp BinOp.eql 3 (Operand.tmp 48) (Operand.tmp 49) 3, type := 4, pos := "law.go:53", after := #[{ on := 6, ground := Ground.data }, { on := 7, ground := Ground.data }, { on := 9, ground := Ground.gcOnly Departure.lateStores }], guard := none }) (v := ?_) rfl (by kernel_rfl) (by kernel_rfl) (by kernel_rfl) (fun _ _ _ h => h) (Or.inl ⟨by rfl, ?_⟩) (by assumption) ?_
  rotate_left
  · intro X hSw; go_simp; try (with_reducible rfl)
  try simp only [Act.put, List.setIfInBounds_toArray, List.set_cons_zero, List.set_cons_succ]
  refine wpAnyH_ready (rs := [9]) (by kernel_rfl) (by simp) ?_
  refine AllReadyH.cons (o := { dst := none, op := Op.store 38 (Operand.tmp 6) (Operand.tmp 42), type := 0, pos := "law.go:53", after := #[{ on := 0, ground := Ground.data }, { on := 5, ground := Ground.chain }, { on := 0, ground := Ground.phase }, { on := 1, ground := Ground.textOnly Departure.lateStores }, { on := 2, ground := Ground.textOnly Departure.lateStores }, { on := 3, ground := Ground.textOnly Departure.lateStores }, { on := 4, ground := Ground.textOnly Departure.lateStores }, { on := 5, ground := Ground.textOnly Departure.lateStoresUnsure }, { on := 6, ground := Ground.textOnly Departure.lateStores }, { on := 7, ground := Ground.textOnly Departure.lateStores }, { on := 8, ground := Ground.textOnly Departure.lateStores }], guard := none }) rfl (fun K hK => ?_) AllReadyH.nil
  have z0 := HZ6.out.cell 0
  have z1 := HZ6.out.cell 1
  have z2 := HZ6.out.cell 2
  have z3 := HZ6.out.cell 3
  have z4 := HZ6.out.cell 4
  have z5 := HZ6.out.cell 5
  have zf : ∀ i, w6.frozen? ⟨g + 1 + 1, i, none⟩ = false := HZ6.out.frozen
  have zl := HZ6.out.lt
  go_simp
  have hHeld' := fr_six hHeld (.inl (.inr rfl)) (.slice aS4 S.firm.length cS4) (.slice aL4 S.loose.length cL4) (.int .i64 (S.nw : Int)) (.int .i64 (S.nf : Int)) (.bool f4) (.int .i64 lf4)
  refine hK.out _ _ ?_ (fun _ => ?_)
  · exact hHeld'
  clear hK K hHeld
  have hHeld := hHeld'
  clear hHeld'
  try simp only [Act.put, List.setIfInBounds_toArray, List.set_cons_zero, List.set_cons_succ]
  refine wpAnyH_take (i := 10) (oi := { dst := some 7, op := Op.assign (Operand.tmp 50), type := 4, pos := "law.go:53", after := #[{ on := 8, ground := Ground.data }, { on := 9, ground := Ground.chain }, { on := 0, ground := Ground.phase }, { on := 1, ground := Ground.phase }, { on := 2, ground := Ground.phase }, { on := 3, ground := Ground.phase }, { on := 4, ground := Ground.phase }, { on := 5, ground := Ground.phase }, { on := 6, ground := Ground.phase }, { on := 7, ground := Ground.phase }, { on := 8, ground := Ground.phase }, { on := 9, ground := Ground.phase }], guard := none }) (v := ?_) rfl (by kernel_rfl) (by kernel_rfl) (by kernel_rfl) (fun _ _ _ h => h) (Or.inl ⟨by rfl, ?_⟩) (by assumption) ?_
  rotate_left
  · intro X hSw; go_simp; try (with_reducible rfl)
  try simp only [Act.put, List.setIfInBounds_toArray, List.set_cons_zero, List.set_cons_succ]
  refine wpAnyH_done (by kernel_rfl) ?_ _
  have hHw := hHeld
  clear hHeld
  go_wp2
  have hblk := blk_six HZ6.out (.slice aS4 S.firm.length cS4) (.slice aL4 S.loose.length cL4) (.int .i64 (S.nw : Int)) (.int .i64 (S.nf : Int)) (.bool f4) (.int .i64 lf4)
  have e0 := hblk.cell 0
  have e1 := hblk.cell 1
  have e2 := hblk.cell 2
  have e3 := hblk.cell 3
  have e4 := hblk.cell 4
  have e5 := hblk.cell 5
  refine bodyPost_ret (v := .tuple #[.agg #[.slice aS4 S.firm.length cS4, .slice aL4 S.loose.length cL4, .int .i64 (S.nw : Int), .int .i64 (S.nf : Int), .bool f4, .int .i64 lf4], .bool true]) (by simp [results, Try.results18, go_sem, e0, e1, e2, e3, e4, e5]) rfl ?_
  rw [← HSe.out]
  exact stepR_mk HG.out HDA.out (Fr.trans (D := D) (E := fun _ => False) (w := w) (Fr.refl _ _) ⟨HB5.out.os, HB5.out.tape, HB5.out.output, HB5.out.size, fun k hk _ => HB5.out.block k hk⟩ (fun _ h => h.elim)) HTR5.out (HE1.out.fr (fr_six (Fr.refl (fun k => k = g + 1 + 1) w6) (.inl rfl) (.slice aS4 S.firm.length cS4) (.slice aL4 S.loose.length cL4) (.int .i64 (S.nw : Int)) (.int .i64 (S.nf : Int)) (.bool f4) (.int .i64 lf4)) (fun k hk he => by have h3 := HZ5.out.lt; rcases HE3.out k he with h | h; have := HDg.out k h; omega; omega)) HE3.out (fr_six HE2.out (.inl (.inr rfl)) (.slice aS4 S.firm.length cS4) (.slice aL4 S.loose.length cL4) (.int .i64 (S.nw : Int)) (.int .i64 (S.nf : Int)) (.bool f4) (.int .i64 lf4))
set_option maxRecDepth 100000 in
set_option maxHeartbeats 2000000 in
theorem step_1y {D A : Nat → Prop} {w : World} {v tv uB uK : Value} {s : Sim} {b : List UInt8} {K : List Bool} (kd : Nat) (i : Int) (c : UInt8) (hd : Dev D w v s) (ht : TR A w tv s) (hDA : ∀ k, D k → A k) (hA : ∀ k, A k → k < w.heap.size) (hb : RA A w uB b) (hK : KB A w uK K) (hw : s.nw < 299) (hf : s.nf < 299) (hq : kd % 9 = 1) (hy : 0 < c.toNat % 8) :
    Calls Try.prog 18 #[v, tv, .agg #[.int .u8 (kd : Int), .int .i64 i, uB, uK, .int .u8 (c.toNat : Int)]] w (StepR D A w v (s.write (((c.toNat % 9 : Nat) : Int)) b)) := by
  have HD := Lib.hid hd
  have HT := Lib.hid ht
  have HDA := Lib.hid hDA
  have HA := Lib.hid hA
  have HRB := Lib.hid hb
  have HKB := Lib.hid hK
  have HOK := Lib.hid hd.ok
  obtain ⟨y, rfl, _⟩ := hd
  obtain ⟨vS, vL, lf, rfl, hS, hL, _⟩ := ht
  obtain ⟨aS, cS, rfl, _⟩ := hS.shape
  obtain ⟨aL, cL, rfl, _⟩ := hL.shape
  obtain ⟨f0, hf0⟩ : ∃ f0, f0 = s.fuse.isSome := ⟨_, rfl⟩
  rw [← hf0] at HT ⊢
  obtain ⟨⟨aB, cB, rfl, _⟩, _⟩ := hb
  obtain ⟨aK, cK, rfl, _⟩ := hK
  obtain ⟨nB, hnB⟩ : ∃ nB, nB = b.length := ⟨_, rfl⟩
  obtain ⟨nK, hnK⟩ : ∃ nK, nK = K.length := ⟨_, rfl⟩
  rw [← hnB] at HRB ⊢
  rw [← hnK] at HKB ⊢
  have HW9 := Lib.hid hw
  have HF9 := Lib.hid hf
  have HF0 := Lib.hid hf0
  have k0 : (0 : Int) ≤ (kd : Int) := by omega
  have k1 : (kd : Int) % 9 = 1 := by omega
  have k2 : (kd : Int).tmod 9 = 1 := by rw [Int.tmod_eq_emod_of_nonneg (by omega)]; omega
  have c0 : (0 : Int) ≤ (c.toNat : Int) := by omega
  have c256 : c.toNat < 256 := c.toNat_lt
  obtain ⟨e8, he8⟩ : ∃ e8, e8 = c.toNat % 8 := ⟨_, rfl⟩
  obtain ⟨n9, hn9⟩ : ∃ n9, n9 = c.toNat % 9 := ⟨_, rfl⟩
  rw [← hn9]
  have c1 : (c.toNat : Int) % 8 = (e8 : Int) := by omega
  have c2 : (c.toNat : Int).tmod 8 = (e8 : Int) := by rw [Int.tmod_eq_emod_of_nonneg (by omega)]; omega
  have c3 : (0 : Int) < (e8 : Int) := by omega
  have c4 : (c.toNat : Int) % 9 = (n9 : Int) := by omega
  have c5 : (c.toNat : Int).tmod 9 = (n9 : Int) := by rw [Int.tmod_eq_emod_of_nonneg (by omega)]; omega
  have c6 : IntKind.i64.wrap (n9 : Int) = (n9 : Int) := by rw [IntKind.wrap_i64]; omega
  clear he8 hn9 hy
  clear hf0 hnB hnK hS hL hDA hA hw hf hq c256
  go_enter Try.func18, Try.ntmps18
  go_wp2_with fail
  obtain ⟨g, hg⟩ : ∃ g, g = w.heap.size := ⟨_, rfl⟩
  obtain ⟨W1, hW1⟩ : ∃ W1, W1 = ((w.alloc (Obj.cells #[Value.slice aS s.firm.length cS, Value.slice aL s.loose.length cL, Value.int IntKind.i64 ↑s.nw, Value.int IntKind.i64 ↑s.nf, Value.bool f0, Value.int IntKind.i64 lf] 38)).alloc (Obj.cells #[Value.int IntKind.u8 ↑kd, Value.int IntKind.i64 i, Value.slice aB nB cB, Value.slice aK nK cK, Value.int IntKind.u8 ↑c.toNat] 44)).alloc (Obj.cells #[Value.slice none 0 0, Value.slice none 0 0, Value.int IntKind.i64 0, Value.int IntKind.i64 0, Value.bool false, Value.int IntKind.i64 0] 38) := ⟨_, rfl⟩
  rw [← hW1, ← hg]
  have HB1 := Lib.hid (show Below w.heap.size w W1 by rw [hW1]; exact below3 w _ _ _)
  have HT1 := Lib.hid (show Blk W1 g 38 #[Value.slice aS s.firm.length cS, Value.slice aL s.loose.length cL, Value.int IntKind.i64 ↑s.nw, Value.int IntKind.i64 ↑s.nf, Value.bool f0, Value.int IntKind.i64 lf] by rw [hW1, hg]; exact (blk3 w _ _ _ _ _ _).1)
  have HX1 := Lib.hid (show Blk W1 (g + 1) 44 #[Value.int IntKind.u8 ↑kd, Value.int IntKind.i64 i, Value.slice aB nB cB, Value.slice aK nK cK, Value.int IntKind.u8 ↑c.toNat] by rw [hW1, hg]; exact (blk3 w _ _ _ _ _ _).2.1)
  have HZ1 := Lib.hid (show Blk W1 (g + 1 + 1) 38 #[Value.slice none 0 0, Value.slice none 0 0, Value.int IntKind.i64 0, Value.int IntKind.i64 0, Value.bool false, Value.int IntKind.i64 0] by rw [hW1, hg]; exact (blk3 w _ _ _ _ _ _).2.2)
  have HG := Lib.hid hg
  have HGs := Lib.hid (show g + 1 + 1 < W1.heap.size from HZ1.out.lt)
  have HDg := Lib.hid (show ∀ k, D k → k < g from fun k hk => by have := HD.out.lt k hk; omega)
  have HA1 := Lib.hid (show ∀ k, (fun k => A k ∨ k = g ∨ k = g + 1 ∨ k = g + 1 + 1) k → k < W1.heap.size from fun k hk => by have hs := HGs.out; rcases hk with hk | hk | hk | hk; have := HA.out k hk; omega; all_goals omega)
  have HTR := Lib.hid (show TR (fun k => A k ∨ k = g ∨ k = g + 1 ∨ k = g + 1 + 1) W1 _ s from HT.out.fr (D := fun _ => False) (Fr.of_below HB1.out) (fun _ h => h.elim) (fun k hk => by rcases hk with hk | hk | hk | hk; exact .inl hk; all_goals exact .inr (by omega)))
  have HD1 := Lib.hid (HD.out.below HB1.out)
  have HRB1 := Lib.hid (HRB.out.1.below HB1.out)
  have HKB1 := Lib.hid (HKB.out.fr (Fr.of_below HB1.out) (fun _ _ h => h.elim) (E := fun _ => False))
  clear hW1 hg
  go_at_call 29
  refine (refwrite_any (n9 : Int) b HTR.out HOK.out HA1.out (by have := HW9.out; omega) HRB1.out).mono ?_
  rintro e w4 ⟨tv4, rfl, ht4, hb4⟩
  obtain ⟨S, hSe⟩ : ∃ S, S = s.write (n9 : Int) b := ⟨_, rfl⟩
  have HSe := Lib.hid hSe
  rw [← hSe] at ht4 ⊢
  obtain ⟨vS4, vL4, lf4, rfl, hS4, hL4, _⟩ := id ht4
  obtain ⟨aS4, cS4, rfl, _⟩ := hS4.shape
  obtain ⟨aL4, cL4, rfl, _⟩ := hL4.shape
  obtain ⟨f4, hf4⟩ : ∃ f4, f4 = S.fuse.isSome := ⟨_, rfl⟩
  rw [← hf4] at ht4 ⊢
  have HTR4 := Lib.hid ht4
  clear hS4 hL4 hf4 ht4
  have hwb := wrote_bounds s (n9 : Int) b
  obtain ⟨e0, he0⟩ : ∃ e0, e0 = s.wrote (n9 : Int) b := ⟨_, rfl⟩
  rw [← he0] at hwb ⊢
  have HE0 := Lib.hid he0
  have r1 : IntKind.i64.wrap e0 = e0 := by rw [IntKind.wrap_i64]; omega
  clear he0
  have HB4 := Lib.hid (HB1.out.trans (hb4.mono HB1.out.size))
  have HX4 := Lib.hid (HX1.out.below hb4 HX1.out.lt)
  have HZ4 := Lib.hid (HZ1.out.below hb4 HZ1.out.lt)
  clear hb4 hSe
  go_wp2_with fail
  obtain ⟨g9, hg9⟩ : ∃ g9, g9 = w4.heap.size := ⟨_, rfl⟩
  obtain ⟨W5, hW5⟩ : ∃ W5, W5 = w4.alloc (Obj.cells #[Value.slice aS4 S.firm.length cS4, Value.slice aL4 S.loose.length cL4, Value.int IntKind.i64 ↑S.nw, Value.int IntKind.i64 ↑S.nf, Value.bool f4, Value.int IntKind.i64 lf4] 38) := ⟨_, rfl⟩
  rw [← hW5, ← hg9]
  have hb5 : Below w4.heap.size w4 W5 := by rw [hW5]; exact (Below.refl _ _).alloc (Nat.le_refl _) _
  have HC9 := Lib.hid (show Blk W5 g9 38 #[Value.slice aS4 S.firm.length cS4, Value.slice aL4 S.loose.length cL4, Value.int IntKind.i64 ↑S.nw, Value.int IntKind.i64 ↑S.nf, Value.bool f4, Value.int IntKind.i64 lf4] by rw [hW5, hg9]; exact heap_alloc_new w4 _)
  have HB5 := Lib.hid (HB4.out.trans (hb5.mono HB4.out.size))
  have HX5 := Lib.hid (HX4.out.below hb5 HX4.out.lt)
  have HZ5 := Lib.hid (HZ4.out.below hb5 HZ4.out.lt)
  have HTR5 := Lib.hid (HTR4.out.below hb5)
  have hgz := HZ4.out.lt
  have HG9 := Lib.hid (show g + 1 + 1 < g9 by rw [hg9]; exact hgz)
  have HD5 := Lib.hid (HD.out.below HB5.out)
  have HRB5 := Lib.hid (HRB.out.1.below HB5.out)
  clear hb5 hW5 hg9 hgz
  refine wp_region_held_drew (S := fun X => Fr (fun k => D k ∨ k = g + 1 + 1) W5 X) (by kernel_rfl) (Fr.refl _ _).drew (fun hHeld => ?_)
  refine wpAnyH_take (i := 0) (oi := { dst := some 42, op := Op.load 38 (Operand.tmp 9), type := 38, pos := "law.go:53", after := #[], guard := none }) (v := ?_) rfl (by kernel_rfl) (by kernel_rfl) (by kernel_rfl) (fun _ _ _ h => h) (Or.inl ⟨by rfl, ?_⟩) (by assumption) ?_
  rotate_left
  · intro X hSw; have hq := HC9.out.same (hSw.block g9 HC9.out.lt (fun h => by have h3 := HG9.out; rcases h with h | h; have := HDg.out g9 h; omega; omega)); have hq0 := hq.cell 0; have hq1 := hq.cell 1; have hq2 := hq.cell 2; have hq3 := hq.cell 3; have hq4 := hq.cell 4; have hq5 := hq.cell 5; go_simp; try (with_reducible rfl)
  try simp only [Act.put, List.setIfInBounds_toArray, List.set_cons_zero, List.set_cons_succ]
  refine wpAnyH_take (i := 1) (oi := { dst := some 43, op := Op.move (Operand.tmp 0), type := 23, pos := "law.go:53", after := #[], guard := none }) (v := ?_) rfl (by kernel_rfl) (by kernel_rfl) (by kernel_rfl) (fun _ _ _ h => h) (Or.inl ⟨by rfl, ?_⟩) (by assumption) ?_
  rotate_left
  · intro X hSw; go_simp; try (with_reducible rfl)
  try simp only [Act.put, List.setIfInBounds_toArray, List.set_cons_zero, List.set_cons_succ]
  refine wpAnyH_take (i := 2) (oi := { dst := some 44, op := Op.move (Operand.tmp 8), type := 3, pos := "law.go:53", after := #[], guard := none }) (v := ?_) rfl (by kernel_rfl) (by kernel_rfl) (by kernel_rfl) (fun _ _ _ h => h) (Or.inl ⟨by rfl, ?_⟩) (by assumption) ?_
  rotate_left
  · intro X hSw; go_simp; try (with_reducible rfl)
  try simp only [Act.put, List.setIfInBounds_toArray, List.set_cons_zero, List.set_cons_succ]
  refine wpAnyH_take (i := 3) (oi := { dst := some 45, op := Op.fieldAddr 44 (Operand.tmp 5) 2, type := 0, pos := "law.go:53", after := #[], guard := none }) (v := ?_) rfl (by kernel_rfl) (by kernel_rfl) (by kernel_rfl) (fun _ _ _ h => h) (Or.inl ⟨by rfl, ?_⟩) (by assumption) ?_
  rotate_left
  · intro X hSw; go_simp; try (with_reducible rfl)
  try simp only [Act.put, List.setIfInBounds_toArray, List.set_cons_zero, List.set_cons_succ]
  refine wpAnyH_take (i := 4) (oi := { dst := some 46, op := Op.load 28 (Operand.tmp 45), type := 28, pos := "law.go:53", after := #[{ on := 3, ground := Ground.data }], guard := none }) (v := ?_) rfl (by kernel_rfl) (by kernel_rfl) (by kernel_rfl) (fun _ _ _ h => h) (Or.inl ⟨by rfl, ?_⟩) (by assumption) ?_
  rotate_left
  · intro X hSw; have hq := HX5.out.same (hSw.block (g + 1) HX5.out.lt (fun h => by rcases h with h | h; have := HDg.out (g + 1) h; omega; omega)); have hq2 := hq.cell 2; have hq4 := hq.cell 4; go_simp; try (with_reducible rfl)
  try simp only [Act.put, List.setIfInBounds_toArray, List.set_cons_zero, List.set_cons_succ]
  refine wpAnyH_take (i := 7) (oi := { dst := some 49, op := Op.move (Operand.tmp 10), type := 3, pos := "law.go:53", after := #[{ on := 9, ground := Ground.gcOnly Departure.lateStores }], guard := none }) (v := ?_) rfl (by kernel_rfl) (by kernel_rfl) (by kernel_rfl) (fun _ _ _ h => h) (Or.inl ⟨by rfl, ?_⟩) (by assumption) ?_
  rotate_left
  · intro X hSw; go_simp; try (with_reducible rfl)
  try simp only [Act.put, List.setIfInBounds_toArray, List.set_cons_zero, List.set_cons_succ]
  refine wpAnyH_ready (rs := [5]) (by kernel_rfl) (by simp) ?_
  refine AllReadyH.cons (o := { dst := some 47, op := Op.call { callee := Callee.value (Operand.func 12), args := #[Operand.tmp 43, Operand.tmp 44, Operand.tmp 46], argTypes := #[23, 3, 28] }, type := 26, pos := "law.go:53", after := #[{ on := 1, ground := Ground.data }, { on := 2, ground := Ground.data }, { on := 4, ground := Ground.data }], guard := none }) rfl (fun K hK => ?_) AllReadyH.nil
  go_simp
  refine (write_any (n9 : Int) _ b (HD5.out.below drew_b) (HRB5.out.below drew_b) (fun hl j hj hk => HRB.out.2 hl j hj (HDA.out j hk)) HW9.out HF9.out).mono ?_
  rintro e w6 ⟨rfl, E, hE1, hE2, hE3⟩
  rw [← HE0.out]
  rw [← HSe.out] at hE1
  have HE1 := Lib.hid hE1
  have HE2 := Lib.hid (hHeld.trans hE2 (fun k hk => .inl (.inl hk)))
  have HE3 := Lib.hid (show ∀ k, E k → D k ∨ W5.heap.size ≤ k from hE3)
  have HZ6 := Lib.hid (HZ5.out.same (hE2.block (g + 1 + 1) HZ5.out.lt (fun h => by have := HDg.out (g + 1 + 1) h; omega)))
  clear hE1 hE2 hE3
  go_wp2_with fail
  try (go_wp2_with fail)
  have hHeld' := HE2.out
  refine hK.out _ _ ?_ (fun _ => ?_)
  · exact hHeld'
  clear hK K hHeld
  have hHeld := hHeld'
  clear hHeld'
  try simp only [Act.put, List.setIfInBounds_toArray, List.set_cons_zero, List.set_cons_succ]
  refine wpAnyH_take (i := 6) (oi := { dst := some 48, op := Op.convert 26 3 (Operand.tmp 47), type := 3, pos := "law.go:53", after := #[{ on := 5, ground := Ground.data }, { on := 9, ground := Ground.gcOnly Departure.lateStores }], guard := none }) (v := ?_) rfl (by kernel_rfl) (by kernel_rfl) (by kernel_rfl) (fun _ _ _ h => h) (Or.inl ⟨by rfl, ?_⟩) (by assumption) ?_
  rotate_left
  · intro X hSw; go_simp; try (with_reducible rfl)
  try simp only [Act.put, List.setIfInBounds_toArray, List.set_cons_zero, List.set_cons_succ]
  refine wpAnyH_take (i := 8) (oi := { dst := some 50, op := Op.binOp BinOp.eql 3 (Operand.tmp 48) (Operand.tmp 49) 3, type := 4, pos := "law.go:53", after := #[{ on := 6, ground := Ground.data }, { on := 7, ground := Ground.data }, { on := 9, ground := Ground.gcOnly Departure.lateStores }], guard := none }) (v := ?_) rfl (by kernel_rfl) (by kernel_rfl) (by kernel_rfl) (fun _ _ _ h => h) (Or.inl ⟨by rfl, ?_⟩) (by assumption) ?_
  rotate_left
  · intro X hSw; go_simp; try (with_reducible rfl)
  try simp only [Act.put, List.setIfInBounds_toArray, List.set_cons_zero, List.set_cons_succ]
  refine wpAnyH_ready (rs := [9]) (by kernel_rfl) (by simp) ?_
  refine AllReadyH.cons (o := { dst := none, op := Op.store 38 (Operand.tmp 6) (Operand.tmp 42), type := 0, pos := "law.go:53", after := #[{ on := 0, ground := Ground.data }, { on := 5, ground := Ground.chain }, { on := 0, ground := Ground.phase }, { on := 1, ground := Ground.textOnly Departure.lateStores }, { on := 2, ground := Ground.textOnly Departure.lateStores }, { on := 3, ground := Ground.textOnly Departure.lateStores }, { on := 4, ground := Ground.textOnly Departure.lateStores }, { on := 5, ground := Ground.textOnly Departure.lateStoresUnsure }, { on := 6, ground := Ground.textOnly Departure.lateStores }, { on := 7, ground := Ground.textOnly Departure.lateStores }, { on := 8, ground := Ground.textOnly Departure.lateStores }], guard := none }) rfl (fun K hK => ?_) AllReadyH.nil
  have z0 := HZ6.out.cell 0
  have z1 := HZ6.out.cell 1
  have z2 := HZ6.out.cell 2
  have z3 := HZ6.out.cell 3
  have z4 := HZ6.out.cell 4
  have z5 := HZ6.out.cell 5
  have zf : ∀ i, w6.frozen? ⟨g + 1 + 1, i, none⟩ = false := HZ6.out.frozen
  have zl := HZ6.out.lt
  go_simp
  have hHeld' := fr_six hHeld (.inl (.inr rfl)) (.slice aS4 S.firm.length cS4) (.slice aL4 S.loose.length cL4) (.int .i64 (S.nw : Int)) (.int .i64 (S.nf : Int)) (.bool f4) (.int .i64 lf4)
  refine hK.out _ _ ?_ (fun _ => ?_)
  · exact hHeld'
  clear hK K hHeld
  have hHeld := hHeld'
  clear hHeld'
  try simp only [Act.put, List.setIfInBounds_toArray, List.set_cons_zero, List.set_cons_succ]
  refine wpAnyH_take (i := 10) (oi := { dst := some 7, op := Op.assign (Operand.tmp 50), type := 4, pos := "law.go:53", after := #[{ on := 8, ground := Ground.data }, { on := 9, ground := Ground.chain }, { on := 0, ground := Ground.phase }, { on := 1, ground := Ground.phase }, { on := 2, ground := Ground.phase }, { on := 3, ground := Ground.phase }, { on := 4, ground := Ground.phase }, { on := 5, ground := Ground.phase }, { on := 6, ground := Ground.phase }, { on := 7, ground := Ground.phase }, { on := 8, ground := Ground.phase }, { on := 9, ground := Ground.phase }], guard := none }) (v := ?_) rfl (by kernel_rfl) (by kernel_rfl) (by kernel_rfl) (fun _ _ _ h => h) (Or.inl ⟨by rfl, ?_⟩) (by assumption) ?_
  rotate_left
  · intro X hSw; go_simp; try (with_reducible rfl)
  try simp only [Act.put, List.setIfInBounds_toArray, List.set_cons_zero, List.set_cons_succ]
  refine wpAnyH_done (by kernel_rfl) ?_ _
  have hHw := hHeld
  clear hHeld
  go_wp2
  have hblk := blk_six HZ6.out (.slice aS4 S.firm.length cS4) (.slice aL4 S.loose.length cL4) (.int .i64 (S.nw : Int)) (.int .i64 (S.nf : Int)) (.bool f4) (.int .i64 lf4)
  have e0 := hblk.cell 0
  have e1 := hblk.cell 1
  have e2 := hblk.cell 2
  have e3 := hblk.cell 3
  have e4 := hblk.cell 4
  have e5 := hblk.cell 5
  refine bodyPost_ret (v := .tuple #[.agg #[.slice aS4 S.firm.length cS4, .slice aL4 S.loose.length cL4, .int .i64 (S.nw : Int), .int .i64 (S.nf : Int), .bool f4, .int .i64 lf4], .bool true]) (by simp [results, Try.results18, go_sem, e0, e1, e2, e3, e4, e5]) rfl ?_
  rw [← HSe.out]
  exact stepR_mk HG.out HDA.out (Fr.trans (D := D) (E := fun _ => False) (w := w) (Fr.refl _ _) ⟨HB5.out.os, HB5.out.tape, HB5.out.output, HB5.out.size, fun k hk _ => HB5.out.block k hk⟩ (fun _ h => h.elim)) HTR5.out (HE1.out.fr (fr_six (Fr.refl (fun k => k = g + 1 + 1) w6) (.inl rfl) (.slice aS4 S.firm.length cS4) (.slice aL4 S.loose.length cL4) (.int .i64 (S.nw : Int)) (.int .i64 (S.nf : Int)) (.bool f4) (.int .i64 lf4)) (fun k hk he => by have h3 := HZ5.out.lt; rcases HE3.out k he with h | h; have := HDg.out k h; omega; omega)) HE3.out (fr_six HE2.out (.inl (.inr rfl)) (.slice aS4 S.firm.length cS4) (.slice aL4 S.loose.length cL4) (.int .i64 (S.nw : Int)) (.int .i64 (S.nf : Int)) (.bool f4) (.int .i64 lf4))
set_option maxRecDepth 100000 in
set_option maxHeartbeats 2000000 in
theorem step_2y {D A : Nat → Prop} {w : World} {v tv uB uK : Value} {s : Sim} {b : List UInt8} {K : List Bool} (kd : Nat) (i : Int) (c : UInt8) (hd : Dev D w v s) (ht : TR A w tv s) (hDA : ∀ k, D k → A k) (hA : ∀ k, A k → k < w.heap.size) (hb : RA A w uB b) (hK : KB A w uK K) (hw : s.nw < 299) (hf : s.nf < 299) (hq : kd % 9 = 2) (hy : 0 < c.toNat % 8) :
    Calls Try.prog 18 #[v, tv, .agg #[.int .u8 (kd : Int), .int .i64 i, uB, uK, .int .u8 (c.toNat : Int)]] w (StepR D A w v (s.write (((c.toNat % 9 : Nat) : Int)) b)) := by
  have HD := Lib.hid hd
  have HT := Lib.hid ht
  have HDA := Lib.hid hDA
  have HA := Lib.hid hA
  have HRB := Lib.hid hb
  have HKB := Lib.hid hK
  have HOK := Lib.hid hd.ok
  obtain ⟨y, rfl, _⟩ := hd
  obtain ⟨vS, vL, lf, rfl, hS, hL, _⟩ := ht
  obtain ⟨aS, cS, rfl, _⟩ := hS.shape
  obtain ⟨aL, cL, rfl, _⟩ := hL.shape
  obtain ⟨f0, hf0⟩ : ∃ f0, f0 = s.fuse.isSome := ⟨_, rfl⟩
  rw [← hf0] at HT ⊢
  obtain ⟨⟨aB, cB, rfl, _⟩, _⟩ := hb
  obtain ⟨aK, cK, rfl, _⟩ := hK
  obtain ⟨nB, hnB⟩ : ∃ nB, nB = b.length := ⟨_, rfl⟩
  obtain ⟨nK, hnK⟩ : ∃ nK, nK = K.length := ⟨_, rfl⟩
  rw [← hnB] at HRB ⊢
  rw [← hnK] at HKB ⊢
  have HW9 := Lib.hid hw
  have HF9 := Lib.hid hf
  have HF0 := Lib.hid hf0
  have k0 : (0 : Int) ≤ (kd : Int) := by omega
  have k1 : (kd : Int) % 9 = 2 := by omega
  have k2 : (kd : Int).tmod 9 = 2 := by rw [Int.tmod_eq_emod_of_nonneg (by omega)]; omega
  have c0 : (0 : Int) ≤ (c.toNat : Int) := by omega
  have c256 : c.toNat < 256 := c.toNat_lt
  obtain ⟨e8, he8⟩ : ∃ e8, e8 = c.toNat % 8 := ⟨_, rfl⟩
  obtain ⟨n9, hn9⟩ : ∃ n9, n9 = c.toNat % 9 := ⟨_, rfl⟩
  rw [← hn9]
  have c1 : (c.toNat : Int) % 8 = (e8 : Int) := by omega
  have c2 : (c.toNat : Int).tmod 8 = (e8 : Int) := by rw [Int.tmod_eq_emod_of_nonneg (by omega)]; omega
  have c3 : (0 : Int) < (e8 : Int) := by omega
  have c4 : (c.toNat : Int) % 9 = (n9 : Int) := by omega
  have c5 : (c.toNat : Int).tmod 9 = (n9 : Int) := by rw [Int.tmod_eq_emod_of_nonneg (by omega)]; omega
  have c6 : IntKind.i64.wrap (n9 : Int) = (n9 : Int) := by rw [IntKind.wrap_i64]; omega
  clear he8 hn9 hy
  clear hf0 hnB hnK hS hL hDA hA hw hf hq c256
  go_enter Try.func18, Try.ntmps18
  go_wp2_with fail
  obtain ⟨g, hg⟩ : ∃ g, g = w.heap.size := ⟨_, rfl⟩
  obtain ⟨W1, hW1⟩ : ∃ W1, W1 = ((w.alloc (Obj.cells #[Value.slice aS s.firm.length cS, Value.slice aL s.loose.length cL, Value.int IntKind.i64 ↑s.nw, Value.int IntKind.i64 ↑s.nf, Value.bool f0, Value.int IntKind.i64 lf] 38)).alloc (Obj.cells #[Value.int IntKind.u8 ↑kd, Value.int IntKind.i64 i, Value.slice aB nB cB, Value.slice aK nK cK, Value.int IntKind.u8 ↑c.toNat] 44)).alloc (Obj.cells #[Value.slice none 0 0, Value.slice none 0 0, Value.int IntKind.i64 0, Value.int IntKind.i64 0, Value.bool false, Value.int IntKind.i64 0] 38) := ⟨_, rfl⟩
  rw [← hW1, ← hg]
  have HB1 := Lib.hid (show Below w.heap.size w W1 by rw [hW1]; exact below3 w _ _ _)
  have HT1 := Lib.hid (show Blk W1 g 38 #[Value.slice aS s.firm.length cS, Value.slice aL s.loose.length cL, Value.int IntKind.i64 ↑s.nw, Value.int IntKind.i64 ↑s.nf, Value.bool f0, Value.int IntKind.i64 lf] by rw [hW1, hg]; exact (blk3 w _ _ _ _ _ _).1)
  have HX1 := Lib.hid (show Blk W1 (g + 1) 44 #[Value.int IntKind.u8 ↑kd, Value.int IntKind.i64 i, Value.slice aB nB cB, Value.slice aK nK cK, Value.int IntKind.u8 ↑c.toNat] by rw [hW1, hg]; exact (blk3 w _ _ _ _ _ _).2.1)
  have HZ1 := Lib.hid (show Blk W1 (g + 1 + 1) 38 #[Value.slice none 0 0, Value.slice none 0 0, Value.int IntKind.i64 0, Value.int IntKind.i64 0, Value.bool false, Value.int IntKind.i64 0] by rw [hW1, hg]; exact (blk3 w _ _ _ _ _ _).2.2)
  have HG := Lib.hid hg
  have HGs := Lib.hid (show g + 1 + 1 < W1.heap.size from HZ1.out.lt)
  have HDg := Lib.hid (show ∀ k, D k → k < g from fun k hk => by have := HD.out.lt k hk; omega)
  have HA1 := Lib.hid (show ∀ k, (fun k => A k ∨ k = g ∨ k = g + 1 ∨ k = g + 1 + 1) k → k < W1.heap.size from fun k hk => by have hs := HGs.out; rcases hk with hk | hk | hk | hk; have := HA.out k hk; omega; all_goals omega)
  have HTR := Lib.hid (show TR (fun k => A k ∨ k = g ∨ k = g + 1 ∨ k = g + 1 + 1) W1 _ s from HT.out.fr (D := fun _ => False) (Fr.of_below HB1.out) (fun _ h => h.elim) (fun k hk => by rcases hk with hk | hk | hk | hk; exact .inl hk; all_goals exact .inr (by omega)))
  have HD1 := Lib.hid (HD.out.below HB1.out)
  have HRB1 := Lib.hid (HRB.out.1.below HB1.out)
  have HKB1 := Lib.hid (HKB.out.fr (Fr.of_below HB1.out) (fun _ _ h => h.elim) (E := fun _ => False))
  clear hW1 hg
  go_at_call 29
  refine (refwrite_any (n9 : Int) b HTR.out HOK.out HA1.out (by have := HW9.out; omega) HRB1.out).mono ?_
  rintro e w4 ⟨tv4, rfl, ht4, hb4⟩
  obtain ⟨S, hSe⟩ : ∃ S, S = s.write (n9 : Int) b := ⟨_, rfl⟩
  have HSe := Lib.hid hSe
  rw [← hSe] at ht4 ⊢
  obtain ⟨vS4, vL4, lf4, rfl, hS4, hL4, _⟩ := id ht4
  obtain ⟨aS4, cS4, rfl, _⟩ := hS4.shape
  obtain ⟨aL4, cL4, rfl, _⟩ := hL4.shape
  obtain ⟨f4, hf4⟩ : ∃ f4, f4 = S.fuse.isSome := ⟨_, rfl⟩
  rw [← hf4] at ht4 ⊢
  have HTR4 := Lib.hid ht4
  clear hS4 hL4 hf4 ht4
  have hwb := wrote_bounds s (n9 : Int) b
  obtain ⟨e0, he0⟩ : ∃ e0, e0 = s.wrote (n9 : Int) b := ⟨_, rfl⟩
  rw [← he0] at hwb ⊢
  have HE0 := Lib.hid he0
  have r1 : IntKind.i64.wrap e0 = e0 := by rw [IntKind.wrap_i64]; omega
  clear he0
  have HB4 := Lib.hid (HB1.out.trans (hb4.mono HB1.out.size))
  have HX4 := Lib.hid (HX1.out.below hb4 HX1.out.lt)
  have HZ4 := Lib.hid (HZ1.out.below hb4 HZ1.out.lt)
  clear hb4 hSe
  go_wp2_with fail
  obtain ⟨g9, hg9⟩ : ∃ g9, g9 = w4.heap.size := ⟨_, rfl⟩
  obtain ⟨W5, hW5⟩ : ∃ W5, W5 = w4.alloc (Obj.cells #[Value.slice aS4 S.firm.length cS4, Value.slice aL4 S.loose.length cL4, Value.int IntKind.i64 ↑S.nw, Value.int IntKind.i64 ↑S.nf, Value.bool f4, Value.int IntKind.i64 lf4] 38) := ⟨_, rfl⟩
  rw [← hW5, ← hg9]
  have hb5 : Below w4.heap.size w4 W5 := by rw [hW5]; exact (Below.refl _ _).alloc (Nat.le_refl _) _
  have HC9 := Lib.hid (show Blk W5 g9 38 #[Value.slice aS4 S.firm.length cS4, Value.slice aL4 S.loose.length cL4, Value.int IntKind.i64 ↑S.nw, Value.int IntKind.i64 ↑S.nf, Value.bool f4, Value.int IntKind.i64 lf4] by rw [hW5, hg9]; exact heap_alloc_new w4 _)
  have HB5 := Lib.hid (HB4.out.trans (hb5.mono HB4.out.size))
  have HX5 := Lib.hid (HX4.out.below hb5 HX4.out.lt)
  have HZ5 := Lib.hid (HZ4.out.below hb5 HZ4.out.lt)
  have HTR5 := Lib.hid (HTR4.out.below hb5)
  have hgz := HZ4.out.lt
  have HG9 := Lib.hid (show g + 1 + 1 < g9 by rw [hg9]; exact hgz)
  have HD5 := Lib.hid (HD.out.below HB5.out)
  have HRB5 := Lib.hid (HRB.out.1.below HB5.out)
  clear hb5 hW5 hg9 hgz
  refine wp_region_held_drew (S := fun X => Fr (fun k => D k ∨ k = g + 1 + 1) W5 X) (by kernel_rfl) (Fr.refl _ _).drew (fun hHeld => ?_)
  refine wpAnyH_take (i := 0) (oi := { dst := some 42, op := Op.load 38 (Operand.tmp 9), type := 38, pos := "law.go:53", after := #[], guard := none }) (v := ?_) rfl (by kernel_rfl) (by kernel_rfl) (by kernel_rfl) (fun _ _ _ h => h) (Or.inl ⟨by rfl, ?_⟩) (by assumption) ?_
  rotate_left
  · intro X hSw; have hq := HC9.out.same (hSw.block g9 HC9.out.lt (fun h => by have h3 := HG9.out; rcases h with h | h; have := HDg.out g9 h; omega; omega)); have hq0 := hq.cell 0; have hq1 := hq.cell 1; have hq2 := hq.cell 2; have hq3 := hq.cell 3; have hq4 := hq.cell 4; have hq5 := hq.cell 5; go_simp; try (with_reducible rfl)
  try simp only [Act.put, List.setIfInBounds_toArray, List.set_cons_zero, List.set_cons_succ]
  refine wpAnyH_take (i := 1) (oi := { dst := some 43, op := Op.move (Operand.tmp 0), type := 23, pos := "law.go:53", after := #[], guard := none }) (v := ?_) rfl (by kernel_rfl) (by kernel_rfl) (by kernel_rfl) (fun _ _ _ h => h) (Or.inl ⟨by rfl, ?_⟩) (by assumption) ?_
  rotate_left
  · intro X hSw; go_simp; try (with_reducible rfl)
  try simp only [Act.put, List.setIfInBounds_toArray, List.set_cons_zero, List.set_cons_succ]
  refine wpAnyH_take (i := 2) (oi := { dst := some 44, op := Op.move (Operand.tmp 8), type := 3, pos := "law.go:53", after := #[], guard := none }) (v := ?_) rfl (by kernel_rfl) (by kernel_rfl) (by kernel_rfl) (fun _ _ _ h => h) (Or.inl ⟨by rfl, ?_⟩) (by assumption) ?_
  rotate_left
  · intro X hSw; go_simp; try (with_reducible rfl)
  try simp only [Act.put, List.setIfInBounds_toArray, List.set_cons_zero, List.set_cons_succ]
  refine wpAnyH_take (i := 3) (oi := { dst := some 45, op := Op.fieldAddr 44 (Operand.tmp 5) 2, type := 0, pos := "law.go:53", after := #[], guard := none }) (v := ?_) rfl (by kernel_rfl) (by kernel_rfl) (by kernel_rfl) (fun _ _ _ h => h) (Or.inl ⟨by rfl, ?_⟩) (by assumption) ?_
  rotate_left
  · intro X hSw; go_simp; try (with_reducible rfl)
  try simp only [Act.put, List.setIfInBounds_toArray, List.set_cons_zero, List.set_cons_succ]
  refine wpAnyH_take (i := 4) (oi := { dst := some 46, op := Op.load 28 (Operand.tmp 45), type := 28, pos := "law.go:53", after := #[{ on := 3, ground := Ground.data }], guard := none }) (v := ?_) rfl (by kernel_rfl) (by kernel_rfl) (by kernel_rfl) (fun _ _ _ h => h) (Or.inl ⟨by rfl, ?_⟩) (by assumption) ?_
  rotate_left
  · intro X hSw; have hq := HX5.out.same (hSw.block (g + 1) HX5.out.lt (fun h => by rcases h with h | h; have := HDg.out (g + 1) h; omega; omega)); have hq2 := hq.cell 2; have hq4 := hq.cell 4; go_simp; try (with_reducible rfl)
  try simp only [Act.put, List.setIfInBounds_toArray, List.set_cons_zero, List.set_cons_succ]
  refine wpAnyH_take (i := 7) (oi := { dst := some 49, op := Op.move (Operand.tmp 10), type := 3, pos := "law.go:53", after := #[{ on := 9, ground := Ground.gcOnly Departure.lateStores }], guard := none }) (v := ?_) rfl (by kernel_rfl) (by kernel_rfl) (by kernel_rfl) (fun _ _ _ h => h) (Or.inl ⟨by rfl, ?_⟩) (by assumption) ?_
  rotate_left
  · intro X hSw; go_simp; try (with_reducible rfl)
  try simp only [Act.put, List.setIfInBounds_toArray, List.set_cons_zero, List.set_cons_succ]
  refine wpAnyH_ready (rs := [5]) (by kernel_rfl) (by simp) ?_
  refine AllReadyH.cons (o := { dst := some 47, op := Op.call { callee := Callee.value (Operand.func 12), args := #[Operand.tmp 43, Operand.tmp 44, Operand.tmp 46], argTypes := #[23, 3, 28] }, type := 26, pos := "law.go:53", after := #[{ on := 1, ground := Ground.data }, { on := 2, ground := Ground.data }, { on := 4, ground := Ground.data }], guard := none }) rfl (fun K hK => ?_) AllReadyH.nil
  go_simp
  refine (write_any (n9 : Int) _ b (HD5.out.below drew_b) (HRB5.out.below drew_b) (fun hl j hj hk => HRB.out.2 hl j hj (HDA.out j hk)) HW9.out HF9.out).mono ?_
  rintro e w6 ⟨rfl, E, hE1, hE2, hE3⟩
  rw [← HE0.out]
  rw [← HSe.out] at hE1
  have HE1 := Lib.hid hE1
  have HE2 := Lib.hid (hHeld.trans hE2 (fun k hk => .inl (.inl hk)))
  have HE3 := Lib.hid (show ∀ k, E k → D k ∨ W5.heap.size ≤ k from hE3)
  have HZ6 := Lib.hid (HZ5.out.same (hE2.block (g + 1 + 1) HZ5.out.lt (fun h => by have := HDg.out (g + 1 + 1) h; omega)))
  clear hE1 hE2 hE3
  go_wp2_with fail
  try (go_wp2_with fail)
  have hHeld' := HE2.out
  refine hK.out _ _ ?_ (fun _ => ?_)
  · exact hHeld'
  clear hK K hHeld
  have hHeld := hHeld'
  clear hHeld'
  try simp only [Act.put, List.setIfInBounds_toArray, List.set_cons_zero, List.set_cons_succ]
  refine wpAnyH_take (i := 6) (oi := { dst := some 48, op := Op.convert 26 3 (Operand.tmp 47), type := 3, pos := "law.go:53", after := #[{ on := 5, ground := Ground.data }, { on := 9, ground := Ground.gcOnly Departure.lateStores }], guard := none }) (v := ?_) rfl (by kernel_rfl) (by kernel_rfl) (by kernel_rfl) (fun _ _ _ h => h) (Or.inl ⟨by rfl, ?_⟩) (by assumption) ?_
  rotate_left
  · intro X hSw; go_simp; try (with_reducible rfl)
  try simp only [Act.put, List.setIfInBounds_toArray, List.set_cons_zero, List.set_cons_succ]
  refine wpAnyH_take (i := 8) (oi := { dst := some 50, op := Op.binOp BinOp.eql 3 (Operand.tmp 48) (Operand.tmp 49) 3, type := 4, pos := "law.go:53", after := #[{ on := 6, ground := Ground.data }, { on := 7, ground := Ground.data }, { on := 9, ground := Ground.gcOnly Departure.lateStores }], guard := none }) (v := ?_) rfl (by kernel_rfl) (by kernel_rfl) (by kernel_rfl) (fun _ _ _ h => h) (Or.inl ⟨by rfl, ?_⟩) (by assumption) ?_
  rotate_left
  · intro X hSw; go_simp; try (with_reducible rfl)
  try simp only [Act.put, List.setIfInBounds_toArray, List.set_cons_zero, List.set_cons_succ]
  refine wpAnyH_ready (rs := [9]) (by kernel_rfl) (by simp) ?_
  refine AllReadyH.cons (o := { dst := none, op := Op.store 38 (Operand.tmp 6) (Operand.tmp 42), type := 0, pos := "law.go:53", after := #[{ on := 0, ground := Ground.data }, { on := 5, ground := Ground.chain }, { on := 0, ground := Ground.phase }, { on := 1, ground := Ground.textOnly Departure.lateStores }, { on := 2, ground := Ground.textOnly Departure.lateStores }, { on := 3, ground := Ground.textOnly Departure.lateStores }, { on := 4, ground := Ground.textOnly Departure.lateStores }, { on := 5, ground := Ground.textOnly Departure.lateStoresUnsure }, { on := 6, ground := Ground.textOnly Departure.lateStores }, { on := 7, ground := Ground.textOnly Departure.lateStores }, { on := 8, ground := Ground.textOnly Departure.lateStores }], guard := none }) rfl (fun K hK => ?_) AllReadyH.nil
  have z0 := HZ6.out.cell 0
  have z1 := HZ6.out.cell 1
  have z2 := HZ6.out.cell 2
  have z3 := HZ6.out.cell 3
  have z4 := HZ6.out.cell 4
  have z5 := HZ6.out.cell 5
  have zf : ∀ i, w6.frozen? ⟨g + 1 + 1, i, none⟩ = false := HZ6.out.frozen
  have zl := HZ6.out.lt
  go_simp
  have hHeld' := fr_six hHeld (.inl (.inr rfl)) (.slice aS4 S.firm.length cS4) (.slice aL4 S.loose.length cL4) (.int .i64 (S.nw : Int)) (.int .i64 (S.nf : Int)) (.bool f4) (.int .i64 lf4)
  refine hK.out _ _ ?_ (fun _ => ?_)
  · exact hHeld'
  clear hK K hHeld
  have hHeld := hHeld'
  clear hHeld'
  try simp only [Act.put, List.setIfInBounds_toArray, List.set_cons_zero, List.set_cons_succ]
  refine wpAnyH_take (i := 10) (oi := { dst := some 7, op := Op.assign (Operand.tmp 50), type := 4, pos := "law.go:53", after := #[{ on := 8, ground := Ground.data }, { on := 9, ground := Ground.chain }, { on := 0, ground := Ground.phase }, { on := 1, ground := Ground.phase }, { on := 2, ground := Ground.phase }, { on := 3, ground := Ground.phase }, { on := 4, ground := Ground.phase }, { on := 5, ground := Ground.phase }, { on := 6, ground := Ground.phase }, { on := 7, ground := Ground.phase }, { on := 8, ground := Ground.phase }, { on := 9, ground := Ground.phase }], guard := none }) (v := ?_) rfl (by kernel_rfl) (by kernel_rfl) (by kernel_rfl) (fun _ _ _ h => h) (Or.inl ⟨by rfl, ?_⟩) (by assumption) ?_
  rotate_left
  · intro X hSw; go_simp; try (with_reducible rfl)
  try simp only [Act.put, List.setIfInBounds_toArray, List.set_cons_zero, List.set_cons_succ]
  refine wpAnyH_done (by kernel_rfl) ?_ _
  have hHw := hHeld
  clear hHeld
  go_wp2
  have hblk := blk_six HZ6.out (.slice aS4 S.firm.length cS4) (.slice aL4 S.loose.length cL4) (.int .i64 (S.nw : Int)) (.int .i64 (S.nf : Int)) (.bool f4) (.int .i64 lf4)
  have e0 := hblk.cell 0
  have e1 := hblk.cell 1
  have e2 := hblk.cell 2
  have e3 := hblk.cell 3
  have e4 := hblk.cell 4
  have e5 := hblk.cell 5
  refine bodyPost_ret (v := .tuple #[.agg #[.slice aS4 S.firm.length cS4, .slice aL4 S.loose.length cL4, .int .i64 (S.nw : Int), .int .i64 (S.nf : Int), .bool f4, .int .i64 lf4], .bool true]) (by simp [results, Try.results18, go_sem, e0, e1, e2, e3, e4, e5]) rfl ?_
  rw [← HSe.out]
  exact stepR_mk HG.out HDA.out (Fr.trans (D := D) (E := fun _ => False) (w := w) (Fr.refl _ _) ⟨HB5.out.os, HB5.out.tape, HB5.out.output, HB5.out.size, fun k hk _ => HB5.out.block k hk⟩ (fun _ h => h.elim)) HTR5.out (HE1.out.fr (fr_six (Fr.refl (fun k => k = g + 1 + 1) w6) (.inl rfl) (.slice aS4 S.firm.length cS4) (.slice aL4 S.loose.length cL4) (.int .i64 (S.nw : Int)) (.int .i64 (S.nf : Int)) (.bool f4) (.int .i64 lf4)) (fun k hk he => by have h3 := HZ5.out.lt; rcases HE3.out k he with h | h; have := HDg.out k h; omega; omega)) HE3.out (fr_six HE2.out (.inl (.inr rfl)) (.slice aS4 S.firm.length cS4) (.slice aL4 S.loose.length cL4) (.int .i64 (S.nw : Int)) (.int .i64 (S.nf : Int)) (.bool f4) (.int .i64 lf4))
set_option maxRecDepth 100000 in
set_option maxHeartbeats 2000000 in
theorem step_0n {D A : Nat → Prop} {w : World} {v tv uB uK : Value} {s : Sim} {b : List UInt8} {K : List Bool} (kd : Nat) (i : Int) (c : UInt8) (hd : Dev D w v s) (ht : TR A w tv s) (hDA : ∀ k, D k → A k) (hA : ∀ k, A k → k < w.heap.size) (hb : RA A w uB b) (hK : KB A w uK K) (hw : s.nw < 299) (hf : s.nf < 299) (hq : kd % 9 = 0) (hy : c.toNat % 8 = 0) :
    Calls Try.prog 18 #[v, tv, .agg #[.int .u8 (kd : Int), .int .i64 i, uB, uK, .int .u8 (c.toNat : Int)]] w (StepR D A w v (s.write (i) b)) := by
  have HD := Lib.hid hd
  have HT := Lib.hid ht
  have HDA := Lib.hid hDA
  have HA := Lib.hid hA
  have HRB := Lib.hid hb
  have HKB := Lib.hid hK
  have HOK := Lib.hid hd.ok
  obtain ⟨y, rfl, _⟩ := hd
  obtain ⟨vS, vL, lf, rfl, hS, hL, _⟩ := ht
  obtain ⟨aS, cS, rfl, _⟩ := hS.shape
  obtain ⟨aL, cL, rfl, _⟩ := hL.shape
  obtain ⟨f0, hf0⟩ : ∃ f0, f0 = s.fuse.isSome := ⟨_, rfl⟩
  rw [← hf0] at HT ⊢
  obtain ⟨⟨aB, cB, rfl, _⟩, _⟩ := hb
  obtain ⟨aK, cK, rfl, _⟩ := hK
  obtain ⟨nB, hnB⟩ : ∃ nB, nB = b.length := ⟨_, rfl⟩
  obtain ⟨nK, hnK⟩ : ∃ nK, nK = K.length := ⟨_, rfl⟩
  rw [← hnB] at HRB ⊢
  rw [← hnK] at HKB ⊢
  have HW9 := Lib.hid hw
  have HF9 := Lib.hid hf
  have HF0 := Lib.hid hf0
  have k0 : (0 : Int) ≤ (kd : Int) := by omega
  have k1 : (kd : Int) % 9 = 0 := by omega
  have k2 : (kd : Int).tmod 9 = 0 := by rw [Int.tmod_eq_emod_of_nonneg (by omega)]; omega
  have c0 : (0 : Int) ≤ (c.toNat : Int) := by omega
  have c256 : c.toNat < 256 := c.toNat_lt
  have c1 : (c.toNat : Int) % 8 = 0 := by omega
  have c2 : (c.toNat : Int).tmod 8 = 0 := by rw [Int.tmod_eq_emod_of_nonneg (by omega)]; omega
  clear hy
  clear hf0 hnB hnK hS hL hDA hA hw hf hq c256
  go_enter Try.func18, Try.ntmps18
  go_wp2_with fail
  obtain ⟨g, hg⟩ : ∃ g, g = w.heap.size := ⟨_, rfl⟩
  obtain ⟨W1, hW1⟩ : ∃ W1, W1 = ((w.alloc (Obj.cells #[Value.slice aS s.firm.length cS, Value.slice aL s.loose.length cL, Value.int IntKind.i64 ↑s.nw, Value.int IntKind.i64 ↑s.nf, Value.bool f0, Value.int IntKind.i64 lf] 38)).alloc (Obj.cells #[Value.int IntKind.u8 ↑kd, Value.int IntKind.i64 i, Value.slice aB nB cB, Value.slice aK nK cK, Value.int IntKind.u8 ↑c.toNat] 44)).alloc (Obj.cells #[Value.slice none 0 0, Value.slice none 0 0, Value.int IntKind.i64 0, Value.int IntKind.i64 0, Value.bool false, Value.int IntKind.i64 0] 38) := ⟨_, rfl⟩
  rw [← hW1, ← hg]
  have HB1 := Lib.hid (show Below w.heap.size w W1 by rw [hW1]; exact below3 w _ _ _)
  have HT1 := Lib.hid (show Blk W1 g 38 #[Value.slice aS s.firm.length cS, Value.slice aL s.loose.length cL, Value.int IntKind.i64 ↑s.nw, Value.int IntKind.i64 ↑s.nf, Value.bool f0, Value.int IntKind.i64 lf] by rw [hW1, hg]; exact (blk3 w _ _ _ _ _ _).1)
  have HX1 := Lib.hid (show Blk W1 (g + 1) 44 #[Value.int IntKind.u8 ↑kd, Value.int IntKind.i64 i, Value.slice aB nB cB, Value.slice aK nK cK, Value.int IntKind.u8 ↑c.toNat] by rw [hW1, hg]; exact (blk3 w _ _ _ _ _ _).2.1)
  have HZ1 := Lib.hid (show Blk W1 (g + 1 + 1) 38 #[Value.slice none 0 0, Value.slice none 0 0, Value.int IntKind.i64 0, Value.int IntKind.i64 0, Value.bool false, Value.int IntKind.i64 0] by rw [hW1, hg]; exact (blk3 w _ _ _ _ _ _).2.2)
  have HG := Lib.hid hg
  have HGs := Lib.hid (show g + 1 + 1 < W1.heap.size from HZ1.out.lt)
  have HDg := Lib.hid (show ∀ k, D k → k < g from fun k hk => by have := HD.out.lt k hk; omega)
  have HA1 := Lib.hid (show ∀ k, (fun k => A k ∨ k = g ∨ k = g + 1 ∨ k = g + 1 + 1) k → k < W1.heap.size from fun k hk => by have hs := HGs.out; rcases hk with hk | hk | hk | hk; have := HA.out k hk; omega; all_goals omega)
  have HTR := Lib.hid (show TR (fun k => A k ∨ k = g ∨ k = g + 1 ∨ k = g + 1 + 1) W1 _ s from HT.out.fr (D := fun _ => False) (Fr.of_below HB1.out) (fun _ h => h.elim) (fun k hk => by rcases hk with hk | hk | hk | hk; exact .inl hk; all_goals exact .inr (by omega)))
  have HD1 := Lib.hid (HD.out.below HB1.out)
  have HRB1 := Lib.hid (HRB.out.1.below HB1.out)
  have HKB1 := Lib.hid (HKB.out.fr (Fr.of_below HB1.out) (fun _ _ h => h.elim) (E := fun _ => False))
  clear hW1 hg
  go_at_call 29
  refine (refwrite_any i b HTR.out HOK.out HA1.out (by have := HW9.out; omega) HRB1.out).mono ?_
  rintro e w4 ⟨tv4, rfl, ht4, hb4⟩
  obtain ⟨S, hSe⟩ : ∃ S, S = s.write i b := ⟨_, rfl⟩
  have HSe := Lib.hid hSe
  rw [← hSe] at ht4 ⊢
  obtain ⟨vS4, vL4, lf4, rfl, hS4, hL4, _⟩ := id ht4
  obtain ⟨aS4, cS4, rfl, _⟩ := hS4.shape
  obtain ⟨aL4, cL4, rfl, _⟩ := hL4.shape
  obtain ⟨f4, hf4⟩ : ∃ f4, f4 = S.fuse.isSome := ⟨_, rfl⟩
  rw [← hf4] at ht4 ⊢
  have HTR4 := Lib.hid ht4
  clear hS4 hL4 hf4 ht4
  have hwb := wrote_bounds s i b
  obtain ⟨e0, he0⟩ : ∃ e0, e0 = s.wrote i b := ⟨_, rfl⟩
  rw [← he0] at hwb ⊢
  have HE0 := Lib.hid he0
  have r1 : IntKind.i64.wrap e0 = e0 := by rw [IntKind.wrap_i64]; omega
  clear he0
  have HB4 := Lib.hid (HB1.out.trans (hb4.mono HB1.out.size))
  have HX4 := Lib.hid (HX1.out.below hb4 HX1.out.lt)
  have HZ4 := Lib.hid (HZ1.out.below hb4 HZ1.out.lt)
  clear hb4 hSe
  go_wp2_with fail
  obtain ⟨g9, hg9⟩ : ∃ g9, g9 = w4.heap.size := ⟨_, rfl⟩
  obtain ⟨W5, hW5⟩ : ∃ W5, W5 = w4.alloc (Obj.cells #[Value.slice aS4 S.firm.length cS4, Value.slice aL4 S.loose.length cL4, Value.int IntKind.i64 ↑S.nw, Value.int IntKind.i64 ↑S.nf, Value.bool f4, Value.int IntKind.i64 lf4] 38) := ⟨_, rfl⟩
  rw [← hW5, ← hg9]
  have hb5 : Below w4.heap.size w4 W5 := by rw [hW5]; exact (Below.refl _ _).alloc (Nat.le_refl _) _
  have HC9 := Lib.hid (show Blk W5 g9 38 #[Value.slice aS4 S.firm.length cS4, Value.slice aL4 S.loose.length cL4, Value.int IntKind.i64 ↑S.nw, Value.int IntKind.i64 ↑S.nf, Value.bool f4, Value.int IntKind.i64 lf4] by rw [hW5, hg9]; exact heap_alloc_new w4 _)
  have HB5 := Lib.hid (HB4.out.trans (hb5.mono HB4.out.size))
  have HX5 := Lib.hid (HX4.out.below hb5 HX4.out.lt)
  have HZ5 := Lib.hid (HZ4.out.below hb5 HZ4.out.lt)
  have HTR5 := Lib.hid (HTR4.out.below hb5)
  have hgz := HZ4.out.lt
  have HG9 := Lib.hid (show g + 1 + 1 < g9 by rw [hg9]; exact hgz)
  have HD5 := Lib.hid (HD.out.below HB5.out)
  have HRB5 := Lib.hid (HRB.out.1.below HB5.out)
  clear hb5 hW5 hg9 hgz
  refine wp_region_held_drew (S := fun X => Fr (fun k => D k ∨ k = g + 1 + 1) W5 X) (by kernel_rfl) (Fr.refl _ _).drew (fun hHeld => ?_)
  refine wpAnyH_take (i := 0) (oi := { dst := some 42, op := Op.load 38 (Operand.tmp 9), type := 38, pos := "law.go:53", after := #[], guard := none }) (v := ?_) rfl (by kernel_rfl) (by kernel_rfl) (by kernel_rfl) (fun _ _ _ h => h) (Or.inl ⟨by rfl, ?_⟩) (by assumption) ?_
  rotate_left
  · intro X hSw; have hq := HC9.out.same (hSw.block g9 HC9.out.lt (fun h => by have h3 := HG9.out; rcases h with h | h; have := HDg.out g9 h; omega; omega)); have hq0 := hq.cell 0; have hq1 := hq.cell 1; have hq2 := hq.cell 2; have hq3 := hq.cell 3; have hq4 := hq.cell 4; have hq5 := hq.cell 5; go_simp; try (with_reducible rfl)
  try simp only [Act.put, List.setIfInBounds_toArray, List.set_cons_zero, List.set_cons_succ]
  refine wpAnyH_take (i := 1) (oi := { dst := some 43, op := Op.move (Operand.tmp 0), type := 23, pos := "law.go:53", after := #[], guard := none }) (v := ?_) rfl (by kernel_rfl) (by kernel_rfl) (by kernel_rfl) (fun _ _ _ h => h) (Or.inl ⟨by rfl, ?_⟩) (by assumption) ?_
  rotate_left
  · intro X hSw; go_simp; try (with_reducible rfl)
  try simp only [Act.put, List.setIfInBounds_toArray, List.set_cons_zero, List.set_cons_succ]
  refine wpAnyH_take (i := 2) (oi := { dst := some 44, op := Op.move (Operand.tmp 8), type := 3, pos := "law.go:53", after := #[], guard := none }) (v := ?_) rfl (by kernel_rfl) (by kernel_rfl) (by kernel_rfl) (fun _ _ _ h => h) (Or.inl ⟨by rfl, ?_⟩) (by assumption) ?_
  rotate_left
  · intro X hSw; go_simp; try (with_reducible rfl)
  try simp only [Act.put, List.setIfInBounds_toArray, List.set_cons_zero, List.set_cons_succ]
  refine wpAnyH_take (i := 3) (oi := { dst := some 45, op := Op.fieldAddr 44 (Operand.tmp 5) 2, type := 0, pos := "law.go:53", after := #[], guard := none }) (v := ?_) rfl (by kernel_rfl) (by kernel_rfl) (by kernel_rfl) (fun _ _ _ h => h) (Or.inl ⟨by rfl, ?_⟩) (by assumption) ?_
  rotate_left
  · intro X hSw; go_simp; try (with_reducible rfl)
  try simp only [Act.put, List.setIfInBounds_toArray, List.set_cons_zero, List.set_cons_succ]
  refine wpAnyH_take (i := 4) (oi := { dst := some 46, op := Op.load 28 (Operand.tmp 45), type := 28, pos := "law.go:53", after := #[{ on := 3, ground := Ground.data }], guard := none }) (v := ?_) rfl (by kernel_rfl) (by kernel_rfl) (by kernel_rfl) (fun _ _ _ h => h) (Or.inl ⟨by rfl, ?_⟩) (by assumption) ?_
  rotate_left
  · intro X hSw; have hq := HX5.out.same (hSw.block (g + 1) HX5.out.lt (fun h => by rcases h with h | h; have := HDg.out (g + 1) h; omega; omega)); have hq2 := hq.cell 2; have hq4 := hq.cell 4; go_simp; try (with_reducible rfl)
  try simp only [Act.put, List.setIfInBounds_toArray, List.set_cons_zero, List.set_cons_succ]
  refine wpAnyH_take (i := 7) (oi := { dst := some 49, op := Op.move (Operand.tmp 10), type := 3, pos := "law.go:53", after := #[{ on := 9, ground := Ground.gcOnly Departure.lateStores }], guard := none }) (v := ?_) rfl (by kernel_rfl) (by kernel_rfl) (by kernel_rfl) (fun _ _ _ h => h) (Or.inl ⟨by rfl, ?_⟩) (by assumption) ?_
  rotate_left
  · intro X hSw; go_simp; try (with_reducible rfl)
  try simp only [Act.put, List.setIfInBounds_toArray, List.set_cons_zero, List.set_cons_succ]
  refine wpAnyH_ready (rs := [5]) (by kernel_rfl) (by simp) ?_
  refine AllReadyH.cons (o := { dst := some 47, op := Op.call { callee := Callee.value (Operand.func 12), args := #[Operand.tmp 43, Operand.tmp 44, Operand.tmp 46], argTypes := #[23, 3, 28] }, type := 26, pos := "law.go:53", after := #[{ on := 1, ground := Ground.data }, { on := 2, ground := Ground.data }, { on := 4, ground := Ground.data }], guard := none }) rfl (fun K hK => ?_) AllReadyH.nil
  go_simp
  refine (write_any i _ b (HD5.out.below drew_b) (HRB5.out.below drew_b) (fun hl j hj hk => HRB.out.2 hl j hj (HDA.out j hk)) HW9.out HF9.out).mono ?_
  rintro e w6 ⟨rfl, E, hE1, hE2, hE3⟩
  rw [← HE0.out]
  rw [← HSe.out] at hE1
  have HE1 := Lib.hid hE1
  have HE2 := Lib.hid (hHeld.trans hE2 (fun k hk => .inl (.inl hk)))
  have HE3 := Lib.hid (show ∀ k, E k → D k ∨ W5.heap.size ≤ k from hE3)
  have HZ6 := Lib.hid (HZ5.out.same (hE2.block (g + 1 + 1) HZ5.out.lt (fun h => by have := HDg.out (g + 1 + 1) h; omega)))
  clear hE1 hE2 hE3
  go_wp2_with fail
  try (go_wp2_with fail)
  have hHeld' := HE2.out
  refine hK.out _ _ ?_ (fun _ => ?_)
  · exact hHeld'
  clear hK K hHeld
  have hHeld := hHeld'
  clear hHeld'
  try simp only [Act.put, List.setIfInBounds_toArray, List.set_cons_zero, List.set_cons_succ]
  refine wpAnyH_take (i := 6) (oi := { dst := some 48, op := Op.convert 26 3 (Operand.tmp 47), type := 3, pos := "law.go:53", after := #[{ on := 5, ground := Ground.data }, { on := 9, ground := Ground.gcOnly Departure.lateStores }], guard := none }) (v := ?_) rfl (by kernel_rfl) (by kernel_rfl) (by kernel_rfl) (fun _ _ _ h => h) (Or.inl ⟨by rfl, ?_⟩) (by assumption) ?_
  rotate_left
  · intro X hSw; go_simp; try (with_reducible rfl)
  try simp only [Act.put, List.setIfInBounds_toArray, List.set_cons_zero, List.set_cons_succ]
  refine wpAnyH_take (i := 8) (oi := { dst := some 50, op := Op.binOp BinOp.eql 3 (Operand.tmp 48) (Operand.tmp 49) 3, type := 4, pos := "law.go:53", after := #[{ on := 6, ground := Ground.data }, { on := 7, ground := Ground.data }, { on := 9, ground := Ground.gcOnly Departure.lateStores }], guard := none }) (v := ?_) rfl (by kernel_rfl) (by kernel_rfl) (by kernel_rfl) (fun _ _ _ h => h) (Or.inl ⟨by rfl, ?_⟩) (by assumption) ?_
  rotate_left
  · intro X hSw; go_simp; try (with_reducible rfl)
  try simp only [Act.put, List.setIfInBounds_toArray, List.set_cons_zero, List.set_cons_succ]
  refine wpAnyH_ready (rs := [9]) (by kernel_rfl) (by simp) ?_
  refine AllReadyH.cons (o := { dst := none, op := Op.store 38 (Operand.tmp 6) (Operand.tmp 42), type := 0, pos := "law.go:53", after := #[{ on := 0, ground := Ground.data }, { on := 5, ground := Ground.chain }, { on := 0, ground := Ground.phase }, { on := 1, ground := Ground.textOnly Departure.lateStores }, { on := 2, ground := Ground.textOnly Departure.lateStores }, { on := 3, ground := Ground.textOnly Departure.lateStores }, { on := 4, ground := Ground.textOnly Departure.lateStores }, { on := 5, ground := Ground.textOnly Departure.lateStoresUnsure }, { on := 6, ground := Ground.textOnly Departure.lateStores }, { on := 7, ground := Ground.textOnly Departure.lateStores }, { on := 8, ground := Ground.textOnly Departure.lateStores }], guard := none }) rfl (fun K hK => ?_) AllReadyH.nil
  have z0 := HZ6.out.cell 0
  have z1 := HZ6.out.cell 1
  have z2 := HZ6.out.cell 2
  have z3 := HZ6.out.cell 3
  have z4 := HZ6.out.cell 4
  have z5 := HZ6.out.cell 5
  have zf : ∀ i, w6.frozen? ⟨g + 1 + 1, i, none⟩ = false := HZ6.out.frozen
  have zl := HZ6.out.lt
  go_simp
  have hHeld' := fr_six hHeld (.inl (.inr rfl)) (.slice aS4 S.firm.length cS4) (.slice aL4 S.loose.length cL4) (.int .i64 (S.nw : Int)) (.int .i64 (S.nf : Int)) (.bool f4) (.int .i64 lf4)
  refine hK.out _ _ ?_ (fun _ => ?_)
  · exact hHeld'
  clear hK K hHeld
  have hHeld := hHeld'
  clear hHeld'
  try simp only [Act.put, List.setIfInBounds_toArray, List.set_cons_zero, List.set_cons_succ]
  refine wpAnyH_take (i := 10) (oi := { dst := some 7, op := Op.assign (Operand.tmp 50), type := 4, pos := "law.go:53", after := #[{ on := 8, ground := Ground.data }, { on := 9, ground := Ground.chain }, { on := 0, ground := Ground.phase }, { on := 1, ground := Ground.phase }, { on := 2, ground := Ground.phase }, { on := 3, ground := Ground.phase }, { on := 4, ground := Ground.phase }, { on := 5, ground := Ground.phase }, { on := 6, ground := Ground.phase }, { on := 7, ground := Ground.phase }, { on := 8, ground := Ground.phase }, { on := 9, ground := Ground.phase }], guard := none }) (v := ?_) rfl (by kernel_rfl) (by kernel_rfl) (by kernel_rfl) (fun _ _ _ h => h) (Or.inl ⟨by rfl, ?_⟩) (by assumption) ?_
  rotate_left
  · intro X hSw; go_simp; try (with_reducible rfl)
  try simp only [Act.put, List.setIfInBounds_toArray, List.set_cons_zero, List.set_cons_succ]
  refine wpAnyH_done (by kernel_rfl) ?_ _
  have hHw := hHeld
  clear hHeld
  go_wp2
  have hblk := blk_six HZ6.out (.slice aS4 S.firm.length cS4) (.slice aL4 S.loose.length cL4) (.int .i64 (S.nw : Int)) (.int .i64 (S.nf : Int)) (.bool f4) (.int .i64 lf4)
  have e0 := hblk.cell 0
  have e1 := hblk.cell 1
  have e2 := hblk.cell 2
  have e3 := hblk.cell 3
  have e4 := hblk.cell 4
  have e5 := hblk.cell 5
  refine bodyPost_ret (v := .tuple #[.agg #[.slice aS4 S.firm.length cS4, .slice aL4 S.loose.length cL4, .int .i64 (S.nw : Int), .int .i64 (S.nf : Int), .bool f4, .int .i64 lf4], .bool true]) (by simp [results, Try.results18, go_sem, e0, e1, e2, e3, e4, e5]) rfl ?_
  rw [← HSe.out]
  exact stepR_mk HG.out HDA.out (Fr.trans (D := D) (E := fun _ => False) (w := w) (Fr.refl _ _) ⟨HB5.out.os, HB5.out.tape, HB5.out.output, HB5.out.size, fun k hk _ => HB5.out.block k hk⟩ (fun _ h => h.elim)) HTR5.out (HE1.out.fr (fr_six (Fr.refl (fun k => k = g + 1 + 1) w6) (.inl rfl) (.slice aS4 S.firm.length cS4) (.slice aL4 S.loose.length cL4) (.int .i64 (S.nw : Int)) (.int .i64 (S.nf : Int)) (.bool f4) (.int .i64 lf4)) (fun k hk he => by have h3 := HZ5.out.lt; rcases HE3.out k he with h | h; have := HDg.out k h; omega; omega)) HE3.out (fr_six HE2.out (.inl (.inr rfl)) (.slice aS4 S.firm.length cS4) (.slice aL4 S.loose.length cL4) (.int .i64 (S.nw : Int)) (.int .i64 (S.nf : Int)) (.bool f4) (.int .i64 lf4))
set_option maxRecDepth 100000 in
set_option maxHeartbeats 2000000 in
theorem step_1n {D A : Nat → Prop} {w : World} {v tv uB uK : Value} {s : Sim} {b : List UInt8} {K : List Bool} (kd : Nat) (i : Int) (c : UInt8) (hd : Dev D w v s) (ht : TR A w tv s) (hDA : ∀ k, D k → A k) (hA : ∀ k, A k → k < w.heap.size) (hb : RA A w uB b) (hK : KB A w uK K) (hw : s.nw < 299) (hf : s.nf < 299) (hq : kd % 9 = 1) (hy : c.toNat % 8 = 0) :
    Calls Try.prog 18 #[v, tv, .agg #[.int .u8 (kd : Int), .int .i64 i, uB, uK, .int .u8 (c.toNat : Int)]] w (StepR D A w v (s.write (i) b)) := by
  have HD := Lib.hid hd
  have HT := Lib.hid ht
  have HDA := Lib.hid hDA
  have HA := Lib.hid hA
  have HRB := Lib.hid hb
  have HKB := Lib.hid hK
  have HOK := Lib.hid hd.ok
  obtain ⟨y, rfl, _⟩ := hd
  obtain ⟨vS, vL, lf, rfl, hS, hL, _⟩ := ht
  obtain ⟨aS, cS, rfl, _⟩ := hS.shape
  obtain ⟨aL, cL, rfl, _⟩ := hL.shape
  obtain ⟨f0, hf0⟩ : ∃ f0, f0 = s.fuse.isSome := ⟨_, rfl⟩
  rw [← hf0] at HT ⊢
  obtain ⟨⟨aB, cB, rfl, _⟩, _⟩ := hb
  obtain ⟨aK, cK, rfl, _⟩ := hK
  obtain ⟨nB, hnB⟩ : ∃ nB, nB = b.length := ⟨_, rfl⟩
  obtain ⟨nK, hnK⟩ : ∃ nK, nK = K.length := ⟨_, rfl⟩
  rw [← hnB] at HRB ⊢
  rw [← hnK] at HKB ⊢
  have HW9 := Lib.hid hw
  have HF9 := Lib.hid hf
  have HF0 := Lib.hid hf0
  have k0 : (0 : Int) ≤ (kd : Int) := by omega
  have k1 : (kd : Int) % 9 = 1 := by omega
  have k2 : (kd : Int).tmod 9 = 1 := by rw [Int.tmod_eq_emod_of_nonneg (by omega)]; omega
  have c0 : (0 : Int) ≤ (c.toNat : Int) := by omega
  have c256 : c.toNat < 256 := c.toNat_lt
  have c1 : (c.toNat : Int) % 8 = 0 := by omega
  have c2 : (c.toNat : Int).tmod 8 = 0 := by rw [Int.tmod_eq_emod_of_nonneg (by omega)]; omega
  clear hy
  clear hf0 hnB hnK hS hL hDA hA hw hf hq c256
  go_enter Try.func18, Try.ntmps18
  go_wp2_with fail
  obtain ⟨g, hg⟩ : ∃ g, g = w.heap.size := ⟨_, rfl⟩
  obtain ⟨W1, hW1⟩ : ∃ W1, W1 = ((w.alloc (Obj.cells #[Value.slice aS s.firm.length cS, Value.slice aL s.loose.length cL, Value.int IntKind.i64 ↑s.nw, Value.int IntKind.i64 ↑s.nf, Value.bool f0, Value.int IntKind.i64 lf] 38)).alloc (Obj.cells #[Value.int IntKind.u8 ↑kd, Value.int IntKind.i64 i, Value.slice aB nB cB, Value.slice aK nK cK, Value.int IntKind.u8 ↑c.toNat] 44)).alloc (Obj.cells #[Value.slice none 0 0, Value.slice none 0 0, Value.int IntKind.i64 0, Value.int IntKind.i64 0, Value.bool false, Value.int IntKind.i64 0] 38) := ⟨_, rfl⟩
  rw [← hW1, ← hg]
  have HB1 := Lib.hid (show Below w.heap.size w W1 by rw [hW1]; exact below3 w _ _ _)
  have HT1 := Lib.hid (show Blk W1 g 38 #[Value.slice aS s.firm.length cS, Value.slice aL s.loose.length cL, Value.int IntKind.i64 ↑s.nw, Value.int IntKind.i64 ↑s.nf, Value.bool f0, Value.int IntKind.i64 lf] by rw [hW1, hg]; exact (blk3 w _ _ _ _ _ _).1)
  have HX1 := Lib.hid (show Blk W1 (g + 1) 44 #[Value.int IntKind.u8 ↑kd, Value.int IntKind.i64 i, Value.slice aB nB cB, Value.slice aK nK cK, Value.int IntKind.u8 ↑c.toNat] by rw [hW1, hg]; exact (blk3 w _ _ _ _ _ _).2.1)
  have HZ1 := Lib.hid (show Blk W1 (g + 1 + 1) 38 #[Value.slice none 0 0, Value.slice none 0 0, Value.int IntKind.i64 0, Value.int IntKind.i64 0, Value.bool false, Value.int IntKind.i64 0] by rw [hW1, hg]; exact (blk3 w _ _ _ _ _ _).2.2)
  have HG := Lib.hid hg
  have HGs := Lib.hid (show g + 1 + 1 < W1.heap.size from HZ1.out.lt)
  have HDg := Lib.hid (show ∀ k, D k → k < g from fun k hk => by have := HD.out.lt k hk; omega)
  have HA1 := Lib.hid (show ∀ k, (fun k => A k ∨ k = g ∨ k = g + 1 ∨ k = g + 1 + 1) k → k < W1.heap.size from fun k hk => by have hs := HGs.out; rcases hk with hk | hk | hk | hk; have := HA.out k hk; omega; all_goals omega)
  have HTR := Lib.hid (show TR (fun k => A k ∨ k = g ∨ k = g + 1 ∨ k = g + 1 + 1) W1 _ s from HT.out.fr (D := fun _ => False) (Fr.of_below HB1.out) (fun _ h => h.elim) (fun k hk => by rcases hk with hk | hk | hk | hk; exact .inl hk; all_goals exact .inr (by omega)))
  have HD1 := Lib.hid (HD.out.below HB1.out)
  have HRB1 := Lib.hid (HRB.out.1.below HB1.out)
  have HKB1 := Lib.hid (HKB.out.fr (Fr.of_below HB1.out) (fun _ _ h => h.elim) (E := fun _ => False))
  clear hW1 hg
  go_at_call 29
  refine (refwrite_any i b HTR.out HOK.out HA1.out (by have := HW9.out; omega) HRB1.out).mono ?_
  rintro e w4 ⟨tv4, rfl, ht4, hb4⟩
  obtain ⟨S, hSe⟩ : ∃ S, S = s.write i b := ⟨_, rfl⟩
  have HSe := Lib.hid hSe
  rw [← hSe] at ht4 ⊢
  obtain ⟨vS4, vL4, lf4, rfl, hS4, hL4, _⟩ := id ht4
  obtain ⟨aS4, cS4, rfl, _⟩ := hS4.shape
  obtain ⟨aL4, cL4, rfl, _⟩ := hL4.shape
  obtain ⟨f4, hf4⟩ : ∃ f4, f4 = S.fuse.isSome := ⟨_, rfl⟩
  rw [← hf4] at ht4 ⊢
  have HTR4 := Lib.hid ht4
  clear hS4 hL4 hf4 ht4
  have hwb := wrote_bounds s i b
  obtain ⟨e0, he0⟩ : ∃ e0, e0 = s.wrote i b := ⟨_, rfl⟩
  rw [← he0] at hwb ⊢
  have HE0 := Lib.hid he0
  have r1 : IntKind.i64.wrap e0 = e0 := by rw [IntKind.wrap_i64]; omega
  clear he0
  have HB4 := Lib.hid (HB1.out.trans (hb4.mono HB1.out.size))
  have HX4 := Lib.hid (HX1.out.below hb4 HX1.out.lt)
  have HZ4 := Lib.hid (HZ1.out.below hb4 HZ1.out.lt)
  clear hb4 hSe
  go_wp2_with fail
  obtain ⟨g9, hg9⟩ : ∃ g9, g9 = w4.heap.size := ⟨_, rfl⟩
  obtain ⟨W5, hW5⟩ : ∃ W5, W5 = w4.alloc (Obj.cells #[Value.slice aS4 S.firm.length cS4, Value.slice aL4 S.loose.length cL4, Value.int IntKind.i64 ↑S.nw, Value.int IntKind.i64 ↑S.nf, Value.bool f4, Value.int IntKind.i64 lf4] 38) := ⟨_, rfl⟩
  rw [← hW5, ← hg9]
  have hb5 : Below w4.heap.size w4 W5 := by rw [hW5]; exact (Below.refl _ _).alloc (Nat.le_refl _) _
  have HC9 := Lib.hid (show Blk W5 g9 38 #[Value.slice aS4 S.firm.length cS4, Value.slice aL4 S.loose.length cL4, Value.int IntKind.i64 ↑S.nw, Value.int IntKind.i64 ↑S.nf, Value.bool f4, Value.int IntKind.i64 lf4] by rw [hW5, hg9]; exact heap_alloc_new w4 _)
  have HB5 := Lib.hid (HB4.out.trans (hb5.mono HB4.out.size))
  have HX5 := Lib.hid (HX4.out.below hb5 HX4.out.lt)
  have HZ5 := Lib.hid (HZ4.out.below hb5 HZ4.out.lt)
  have HTR5 := Lib.hid (HTR4.out.below hb5)
  have hgz := HZ4.out.lt
  have HG9 := Lib.hid (show g + 1 + 1 < g9 by rw [hg9]; exact hgz)
  have HD5 := Lib.hid (HD.out.below HB5.out)
  have HRB5 := Lib.hid (HRB.out.1.below HB5.out)
  clear hb5 hW5 hg9 hgz
  refine wp_region_held_drew (S := fun X => Fr (fun k => D k ∨ k = g + 1 + 1) W5 X) (by kernel_rfl) (Fr.refl _ _).drew (fun hHeld => ?_)
  refine wpAnyH_take (i := 0) (oi := { dst := some 42, op := Op.load 38 (Operand.tmp 9), type := 38, pos := "law.go:53", after := #[], guard := none }) (v := ?_) rfl (by kernel_rfl) (by kernel_rfl) (by kernel_rfl) (fun _ _ _ h => h) (Or.inl ⟨by rfl, ?_⟩) (by assumption) ?_
  rotate_left
  · intro X hSw; have hq := HC9.out.same (hSw.block g9 HC9.out.lt (fun h => by have h3 := HG9.out; rcases h with h | h; have := HDg.out g9 h; omega; omega)); have hq0 := hq.cell 0; have hq1 := hq.cell 1; have hq2 := hq.cell 2; have hq3 := hq.cell 3; have hq4 := hq.cell 4; have hq5 := hq.cell 5; go_simp; try (with_reducible rfl)
  try simp only [Act.put, List.setIfInBounds_toArray, List.set_cons_zero, List.set_cons_succ]
  refine wpAnyH_take (i := 1) (oi := { dst := some 43, op := Op.move (Operand.tmp 0), type := 23, pos := "law.go:53", after := #[], guard := none }) (v := ?_) rfl (by kernel_rfl) (by kernel_rfl) (by kernel_rfl) (fun _ _ _ h => h) (Or.inl ⟨by rfl, ?_⟩) (by assumption) ?_
  rotate_left
  · intro X hSw; go_simp; try (with_reducible rfl)
  try simp only [Act.put, List.setIfInBounds_toArray, List.set_cons_zero, List.set_cons_succ]
  refine wpAnyH_take (i := 2) (oi := { dst := some 44, op := Op.move (Operand.tmp 8), type := 3, pos := "law.go:53", after := #[], guard := none }) (v := ?_) rfl (by kernel_rfl) (by kernel_rfl) (by kernel_rfl) (fun _ _ _ h => h) (Or.inl ⟨by rfl, ?_⟩) (by assumption) ?_
  rotate_left
  · intro X hSw; go_simp; try (with_reducible rfl)
  try simp only [Act.put, List.setIfInBounds_toArray, List.set_cons_zero, List.set_cons_succ]
  refine wpAnyH_take (i := 3) (oi := { dst := some 45, op := Op.fieldAddr 44 (Operand.tmp 5) 2, type := 0, pos := "law.go:53", after := #[], guard := none }) (v := ?_) rfl (by kernel_rfl) (by kernel_rfl) (by kernel_rfl) (fun _ _ _ h => h) (Or.inl ⟨by rfl, ?_⟩) (by assumption) ?_
  rotate_left
  · intro X hSw; go_simp; try (with_reducible rfl)
  try simp only [Act.put, List.setIfInBounds_toArray, List.set_cons_zero, List.set_cons_succ]
  refine wpAnyH_take (i := 4) (oi := { dst := some 46, op := Op.load 28 (Operand.tmp 45), type := 28, pos := "law.go:53", after := #[{ on := 3, ground := Ground.data }], guard := none }) (v := ?_) rfl (by kernel_rfl) (by kernel_rfl) (by kernel_rfl) (fun _ _ _ h => h) (Or.inl ⟨by rfl, ?_⟩) (by assumption) ?_
  rotate_left
  · intro X hSw; have hq := HX5.out.same (hSw.block (g + 1) HX5.out.lt (fun h => by rcases h with h | h; have := HDg.out (g + 1) h; omega; omega)); have hq2 := hq.cell 2; have hq4 := hq.cell 4; go_simp; try (with_reducible rfl)
  try simp only [Act.put, List.setIfInBounds_toArray, List.set_cons_zero, List.set_cons_succ]
  refine wpAnyH_take (i := 7) (oi := { dst := some 49, op := Op.move (Operand.tmp 10), type := 3, pos := "law.go:53", after := #[{ on := 9, ground := Ground.gcOnly Departure.lateStores }], guard := none }) (v := ?_) rfl (by kernel_rfl) (by kernel_rfl) (by kernel_rfl) (fun _ _ _ h => h) (Or.inl ⟨by rfl, ?_⟩) (by assumption) ?_
  rotate_left
  · intro X hSw; go_simp; try (with_reducible rfl)
  try simp only [Act.put, List.setIfInBounds_toArray, List.set_cons_zero, List.set_cons_succ]
  refine wpAnyH_ready (rs := [5]) (by kernel_rfl) (by simp) ?_
  refine AllReadyH.cons (o := { dst := some 47, op := Op.call { callee := Callee.value (Operand.func 12), args := #[Operand.tmp 43, Operand.tmp 44, Operand.tmp 46], argTypes := #[23, 3, 28] }, type := 26, pos := "law.go:53", after := #[{ on := 1, ground := Ground.data }, { on := 2, ground := Ground.data }, { on := 4, ground := Ground.data }], guard := none }) rfl (fun K hK => ?_) AllReadyH.nil
  go_simp
  refine (write_any i _ b (HD5.out.below drew_b) (HRB5.out.below drew_b) (fun hl j hj hk => HRB.out.2 hl j hj (HDA.out j hk)) HW9.out HF9.out).mono ?_
  rintro e w6 ⟨rfl, E, hE1, hE2, hE3⟩
  rw [← HE0.out]
  rw [← HSe.out] at hE1
  have HE1 := Lib.hid hE1
  have HE2 := Lib.hid (hHeld.trans hE2 (fun k hk => .inl (.inl hk)))
  have HE3 := Lib.hid (show ∀ k, E k → D k ∨ W5.heap.size ≤ k from hE3)
  have HZ6 := Lib.hid (HZ5.out.same (hE2.block (g + 1 + 1) HZ5.out.lt (fun h => by have := HDg.out (g + 1 + 1) h; omega)))
  clear hE1 hE2 hE3
  go_wp2_with fail
  try (go_wp2_with fail)
  have hHeld' := HE2.out
  refine hK.out _ _ ?_ (fun _ => ?_)
  · exact hHeld'
  clear hK K hHeld
  have hHeld := hHeld'
  clear hHeld'
  try simp only [Act.put, List.setIfInBounds_toArray, List.set_cons_zero, List.set_cons_succ]
  refine wpAnyH_take (i := 6) (oi := { dst := some 48, op := Op.convert 26 3 (Operand.tmp 47), type := 3, pos := "law.go:53", after := #[{ on := 5, ground := Ground.data }, { on := 9, ground := Ground.gcOnly Departure.lateStores }], guard := none }) (v := ?_) rfl (by kernel_rfl) (by kernel_rfl) (by kernel_rfl) (fun _ _ _ h => h) (Or.inl ⟨by rfl, ?_⟩) (by assumption) ?_
  rotate_left
  · intro X hSw; go_simp; try (with_reducible rfl)
  try simp only [Act.put, List.setIfInBounds_toArray, List.set_cons_zero, List.set_cons_succ]
  refine wpAnyH_take (i := 8) (oi := { dst := some 50, op := Op.binOp BinOp.eql 3 (Operand.tmp 48) (Operand.tmp 49) 3, type := 4, pos := "law.go:53", after := #[{ on := 6, ground := Ground.data }, { on := 7, ground := Ground.data }, { on := 9, ground := Ground.gcOnly Departure.lateStores }], guard := none }) (v := ?_) rfl (by kernel_rfl) (by kernel_rfl) (by kernel_rfl) (fun _ _ _ h => h) (Or.inl ⟨by rfl, ?_⟩) (by assumption) ?_
  rotate_left
  · intro X hSw; go_simp; try (with_reducible rfl)
  try simp only [Act.put, List.setIfInBounds_toArray, List.set_cons_zero, List.set_cons_succ]
  refine wpAnyH_ready (rs := [9]) (by kernel_rfl) (by simp) ?_
  refine AllReadyH.cons (o := { dst := none, op := Op.store 38 (Operand.tmp 6) (Operand.tmp 42), type := 0, pos := "law.go:53", after := #[{ on := 0, ground := Ground.data }, { on := 5, ground := Ground.chain }, { on := 0, ground := Ground.phase }, { on := 1, ground := Ground.textOnly Departure.lateStores }, { on := 2, ground := Ground.textOnly Departure.lateStores }, { on := 3, ground := Ground.textOnly Departure.lateStores }, { on := 4, ground := Ground.textOnly Departure.lateStores }, { on := 5, ground := Ground.textOnly Departure.lateStoresUnsure }, { on := 6, ground := Ground.textOnly Departure.lateStores }, { on := 7, ground := Ground.textOnly Departure.lateStores }, { on := 8, ground := Ground.textOnly Departure.lateStores }], guard := none }) rfl (fun K hK => ?_) AllReadyH.nil
  have z0 := HZ6.out.cell 0
  have z1 := HZ6.out.cell 1
  have z2 := HZ6.out.cell 2
  have z3 := HZ6.out.cell 3
  have z4 := HZ6.out.cell 4
  have z5 := HZ6.out.cell 5
  have zf : ∀ i, w6.frozen? ⟨g + 1 + 1, i, none⟩ = false := HZ6.out.frozen
  have zl := HZ6.out.lt
  go_simp
  have hHeld' := fr_six hHeld (.inl (.inr rfl)) (.slice aS4 S.firm.length cS4) (.slice aL4 S.loose.length cL4) (.int .i64 (S.nw : Int)) (.int .i64 (S.nf : Int)) (.bool f4) (.int .i64 lf4)
  refine hK.out _ _ ?_ (fun _ => ?_)
  · exact hHeld'
  clear hK K hHeld
  have hHeld := hHeld'
  clear hHeld'
  try simp only [Act.put, List.setIfInBounds_toArray, List.set_cons_zero, List.set_cons_succ]
  refine wpAnyH_take (i := 10) (oi := { dst := some 7, op := Op.assign (Operand.tmp 50), type := 4, pos := "law.go:53", after := #[{ on := 8, ground := Ground.data }, { on := 9, ground := Ground.chain }, { on := 0, ground := Ground.phase }, { on := 1, ground := Ground.phase }, { on := 2, ground := Ground.phase }, { on := 3, ground := Ground.phase }, { on := 4, ground := Ground.phase }, { on := 5, ground := Ground.phase }, { on := 6, ground := Ground.phase }, { on := 7, ground := Ground.phase }, { on := 8, ground := Ground.phase }, { on := 9, ground := Ground.phase }], guard := none }) (v := ?_) rfl (by kernel_rfl) (by kernel_rfl) (by kernel_rfl) (fun _ _ _ h => h) (Or.inl ⟨by rfl, ?_⟩) (by assumption) ?_
  rotate_left
  · intro X hSw; go_simp; try (with_reducible rfl)
  try simp only [Act.put, List.setIfInBounds_toArray, List.set_cons_zero, List.set_cons_succ]
  refine wpAnyH_done (by kernel_rfl) ?_ _
  have hHw := hHeld
  clear hHeld
  go_wp2
  have hblk := blk_six HZ6.out (.slice aS4 S.firm.length cS4) (.slice aL4 S.loose.length cL4) (.int .i64 (S.nw : Int)) (.int .i64 (S.nf : Int)) (.bool f4) (.int .i64 lf4)
  have e0 := hblk.cell 0
  have e1 := hblk.cell 1
  have e2 := hblk.cell 2
  have e3 := hblk.cell 3
  have e4 := hblk.cell 4
  have e5 := hblk.cell 5
  refine bodyPost_ret (v := .tuple #[.agg #[.slice aS4 S.firm.length cS4, .slice aL4 S.loose.length cL4, .int .i64 (S.nw : Int), .int .i64 (S.nf : Int), .bool f4, .int .i64 lf4], .bool true]) (by simp [results, Try.results18, go_sem, e0, e1, e2, e3, e4, e5]) rfl ?_
  rw [← HSe.out]
  exact stepR_mk HG.out HDA.out (Fr.trans (D := D) (E := fun _ => False) (w := w) (Fr.refl _ _) ⟨HB5.out.os, HB5.out.tape, HB5.out.output, HB5.out.size, fun k hk _ => HB5.out.block k hk⟩ (fun _ h => h.elim)) HTR5.out (HE1.out.fr (fr_six (Fr.refl (fun k => k = g + 1 + 1) w6) (.inl rfl) (.slice aS4 S.firm.length cS4) (.slice aL4 S.loose.length cL4) (.int .i64 (S.nw : Int)) (.int .i64 (S.nf : Int)) (.bool f4) (.int .i64 lf4)) (fun k hk he => by have h3 := HZ5.out.lt; rcases HE3.out k he with h | h; have := HDg.out k h; omega; omega)) HE3.out (fr_six HE2.out (.inl (.inr rfl)) (.slice aS4 S.firm.length cS4) (.slice aL4 S.loose.length cL4) (.int .i64 (S.nw : Int)) (.int .i64 (S.nf : Int)) (.bool f4) (.int .i64 lf4))
set_option maxRecDepth 100000 in
set_option maxHeartbeats 2000000 in
theorem step_2n {D A : Nat → Prop} {w : World} {v tv uB uK : Value} {s : Sim} {b : List UInt8} {K : List Bool} (kd : Nat) (i : Int) (c : UInt8) (hd : Dev D w v s) (ht : TR A w tv s) (hDA : ∀ k, D k → A k) (hA : ∀ k, A k → k < w.heap.size) (hb : RA A w uB b) (hK : KB A w uK K) (hw : s.nw < 299) (hf : s.nf < 299) (hq : kd % 9 = 2) (hy : c.toNat % 8 = 0) :
    Calls Try.prog 18 #[v, tv, .agg #[.int .u8 (kd : Int), .int .i64 i, uB, uK, .int .u8 (c.toNat : Int)]] w (StepR D A w v (s.write (i) b)) := by
  have HD := Lib.hid hd
  have HT := Lib.hid ht
  have HDA := Lib.hid hDA
  have HA := Lib.hid hA
  have HRB := Lib.hid hb
  have HKB := Lib.hid hK
  have HOK := Lib.hid hd.ok
  obtain ⟨y, rfl, _⟩ := hd
  obtain ⟨vS, vL, lf, rfl, hS, hL, _⟩ := ht
  obtain ⟨aS, cS, rfl, _⟩ := hS.shape
  obtain ⟨aL, cL, rfl, _⟩ := hL.shape
  obtain ⟨f0, hf0⟩ : ∃ f0, f0 = s.fuse.isSome := ⟨_, rfl⟩
  rw [← hf0] at HT ⊢
  obtain ⟨⟨aB, cB, rfl, _⟩, _⟩ := hb
  obtain ⟨aK, cK, rfl, _⟩ := hK
  obtain ⟨nB, hnB⟩ : ∃ nB, nB = b.length := ⟨_, rfl⟩
  obtain ⟨nK, hnK⟩ : ∃ nK, nK = K.length := ⟨_, rfl⟩
  rw [← hnB] at HRB ⊢
  rw [← hnK] at HKB ⊢
  have HW9 := Lib.hid hw
  have HF9 := Lib.hid hf
  have HF0 := Lib.hid hf0
  have k0 : (0 : Int) ≤ (kd : Int) := by omega
  have k1 : (kd : Int) % 9 = 2 := by omega
  have k2 : (kd : Int).tmod 9 = 2 := by rw [Int.tmod_eq_emod_of_nonneg (by omega)]; omega
  have c0 : (0 : Int) ≤ (c.toNat : Int) := by omega
  have c256 : c.toNat < 256 := c.toNat_lt
  have c1 : (c.toNat : Int) % 8 = 0 := by omega
  have c2 : (c.toNat : Int).tmod 8 = 0 := by rw [Int.tmod_eq_emod_of_nonneg (by omega)]; omega
  clear hy
  clear hf0 hnB hnK hS hL hDA hA hw hf hq c256
  go_enter Try.func18, Try.ntmps18
  go_wp2_with fail
  obtain ⟨g, hg⟩ : ∃ g, g = w.heap.size := ⟨_, rfl⟩
  obtain ⟨W1, hW1⟩ : ∃ W1, W1 = ((w.alloc (Obj.cells #[Value.slice aS s.firm.length cS, Value.slice aL s.loose.length cL, Value.int IntKind.i64 ↑s.nw, Value.int IntKind.i64 ↑s.nf, Value.bool f0, Value.int IntKind.i64 lf] 38)).alloc (Obj.cells #[Value.int IntKind.u8 ↑kd, Value.int IntKind.i64 i, Value.slice aB nB cB, Value.slice aK nK cK, Value.int IntKind.u8 ↑c.toNat] 44)).alloc (Obj.cells #[Value.slice none 0 0, Value.slice none 0 0, Value.int IntKind.i64 0, Value.int IntKind.i64 0, Value.bool false, Value.int IntKind.i64 0] 38) := ⟨_, rfl⟩
  rw [← hW1, ← hg]
  have HB1 := Lib.hid (show Below w.heap.size w W1 by rw [hW1]; exact below3 w _ _ _)
  have HT1 := Lib.hid (show Blk W1 g 38 #[Value.slice aS s.firm.length cS, Value.slice aL s.loose.length cL, Value.int IntKind.i64 ↑s.nw, Value.int IntKind.i64 ↑s.nf, Value.bool f0, Value.int IntKind.i64 lf] by rw [hW1, hg]; exact (blk3 w _ _ _ _ _ _).1)
  have HX1 := Lib.hid (show Blk W1 (g + 1) 44 #[Value.int IntKind.u8 ↑kd, Value.int IntKind.i64 i, Value.slice aB nB cB, Value.slice aK nK cK, Value.int IntKind.u8 ↑c.toNat] by rw [hW1, hg]; exact (blk3 w _ _ _ _ _ _).2.1)
  have HZ1 := Lib.hid (show Blk W1 (g + 1 + 1) 38 #[Value.slice none 0 0, Value.slice none 0 0, Value.int IntKind.i64 0, Value.int IntKind.i64 0, Value.bool false, Value.int IntKind.i64 0] by rw [hW1, hg]; exact (blk3 w _ _ _ _ _ _).2.2)
  have HG := Lib.hid hg
  have HGs := Lib.hid (show g + 1 + 1 < W1.heap.size from HZ1.out.lt)
  have HDg := Lib.hid (show ∀ k, D k → k < g from fun k hk => by have := HD.out.lt k hk; omega)
  have HA1 := Lib.hid (show ∀ k, (fun k => A k ∨ k = g ∨ k = g + 1 ∨ k = g + 1 + 1) k → k < W1.heap.size from fun k hk => by have hs := HGs.out; rcases hk with hk | hk | hk | hk; have := HA.out k hk; omega; all_goals omega)
  have HTR := Lib.hid (show TR (fun k => A k ∨ k = g ∨ k = g + 1 ∨ k = g + 1 + 1) W1 _ s from HT.out.fr (D := fun _ => False) (Fr.of_below HB1.out) (fun _ h => h.elim) (fun k hk => by rcases hk with hk | hk | hk | hk; exact .inl hk; all_goals exact .inr (by omega)))
  have HD1 := Lib.hid (HD.out.below HB1.out)
  have HRB1 := Lib.hid (HRB.out.1.below HB1.out)
  have HKB1 := Lib.hid (HKB.out.fr (Fr.of_below HB1.out) (fun _ _ h => h.elim) (E := fun _ => False))
  clear hW1 hg
  go_at_call 29
  refine (refwrite_any i b HTR.out HOK.out HA1.out (by have := HW9.out; omega) HRB1.out).mono ?_
  rintro e w4 ⟨tv4, rfl, ht4, hb4⟩
  obtain ⟨S, hSe⟩ : ∃ S, S = s.write i b := ⟨_, rfl⟩
  have HSe := Lib.hid hSe
  rw [← hSe] at ht4 ⊢
  obtain ⟨vS4, vL4, lf4, rfl, hS4, hL4, _⟩ := id ht4
  obtain ⟨aS4, cS4, rfl, _⟩ := hS4.shape
  obtain ⟨aL4, cL4, rfl, _⟩ := hL4.shape
  obtain ⟨f4, hf4⟩ : ∃ f4, f4 = S.fuse.isSome := ⟨_, rfl⟩
  rw [← hf4] at ht4 ⊢
  have HTR4 := Lib.hid ht4
  clear hS4 hL4 hf4 ht4
  have hwb := wrote_bounds s i b
  obtain ⟨e0, he0⟩ : ∃ e0, e0 = s.wrote i b := ⟨_, rfl⟩
  rw [← he0] at hwb ⊢
  have HE0 := Lib.hid he0
  have r1 : IntKind.i64.wrap e0 = e0 := by rw [IntKind.wrap_i64]; omega
  clear he0
  have HB4 := Lib.hid (HB1.out.trans (hb4.mono HB1.out.size))
  have HX4 := Lib.hid (HX1.out.below hb4 HX1.out.lt)
  have HZ4 := Lib.hid (HZ1.out.below hb4 HZ1.out.lt)
  clear hb4 hSe
  go_wp2_with fail
  obtain ⟨g9, hg9⟩ : ∃ g9, g9 = w4.heap.size := ⟨_, rfl⟩
  obtain ⟨W5, hW5⟩ : ∃ W5, W5 = w4.alloc (Obj.cells #[Value.slice aS4 S.firm.length cS4, Value.slice aL4 S.loose.length cL4, Value.int IntKind.i64 ↑S.nw, Value.int IntKind.i64 ↑S.nf, Value.bool f4, Value.int IntKind.i64 lf4] 38) := ⟨_, rfl⟩
  rw [← hW5, ← hg9]
  have hb5 : Below w4.heap.size w4 W5 := by rw [hW5]; exact (Below.refl _ _).alloc (Nat.le_refl _) _
  have HC9 := Lib.hid (show Blk W5 g9 38 #[Value.slice aS4 S.firm.length cS4, Value.slice aL4 S.loose.length cL4, Value.int IntKind.i64 ↑S.nw, Value.int IntKind.i64 ↑S.nf, Value.bool f4, Value.int IntKind.i64 lf4] by rw [hW5, hg9]; exact heap_alloc_new w4 _)
  have HB5 := Lib.hid (HB4.out.trans (hb5.mono HB4.out.size))
  have HX5 := Lib.hid (HX4.out.below hb5 HX4.out.lt)
  have HZ5 := Lib.hid (HZ4.out.below hb5 HZ4.out.lt)
  have HTR5 := Lib.hid (HTR4.out.below hb5)
  have hgz := HZ4.out.lt
  have HG9 := Lib.hid (show g + 1 + 1 < g9 by rw [hg9]; exact hgz)
  have HD5 := Lib.hid (HD.out.below HB5.out)
  have HRB5 := Lib.hid (HRB.out.1.below HB5.out)
  clear hb5 hW5 hg9 hgz
  refine wp_region_held_drew (S := fun X => Fr (fun k => D k ∨ k = g + 1 + 1) W5 X) (by kernel_rfl) (Fr.refl _ _).drew (fun hHeld => ?_)
  refine wpAnyH_take (i := 0) (oi := { dst := some 42, op := Op.load 38 (Operand.tmp 9), type := 38, pos := "law.go:53", after := #[], guard := none }) (v := ?_) rfl (by kernel_rfl) (by kernel_rfl) (by kernel_rfl) (fun _ _ _ h => h) (Or.inl ⟨by rfl, ?_⟩) (by assumption) ?_
  rotate_left
  · intro X hSw; have hq := HC9.out.same (hSw.block g9 HC9.out.lt (fun h => by have h3 := HG9.out; rcases h with h | h; have := HDg.out g9 h; omega; omega)); have hq0 := hq.cell 0; have hq1 := hq.cell 1; have hq2 := hq.cell 2; have hq3 := hq.cell 3; have hq4 := hq.cell 4; have hq5 := hq.cell 5; go_simp; try (with_reducible rfl)
  try simp only [Act.put, List.setIfInBounds_toArray, List.set_cons_zero, List.set_cons_succ]
  refine wpAnyH_take (i := 1) (oi := { dst := some 43, op := Op.move (Operand.tmp 0), type := 23, pos := "law.go:53", after := #[], guard := none }) (v := ?_) rfl (by kernel_rfl) (by kernel_rfl) (by kernel_rfl) (fun _ _ _ h => h) (Or.inl ⟨by rfl, ?_⟩) (by assumption) ?_
  rotate_left
  · intro X hSw; go_simp; try (with_reducible rfl)
  try simp only [Act.put, List.setIfInBounds_toArray, List.set_cons_zero, List.set_cons_succ]
  refine wpAnyH_take (i := 2) (oi := { dst := some 44, op := Op.move (Operand.tmp 8), type := 3, pos := "law.go:53", after := #[], guard := none }) (v := ?_) rfl (by kernel_rfl) (by kernel_rfl) (by kernel_rfl) (fun _ _ _ h => h) (Or.inl ⟨by rfl, ?_⟩) (by assumption) ?_
  rotate_left
  · intro X hSw; go_simp; try (with_reducible rfl)
  try simp only [Act.put, List.setIfInBounds_toArray, List.set_cons_zero, List.set_cons_succ]
  refine wpAnyH_take (i := 3) (oi := { dst := some 45, op := Op.fieldAddr 44 (Operand.tmp 5) 2, type := 0, pos := "law.go:53", after := #[], guard := none }) (v := ?_) rfl (by kernel_rfl) (by kernel_rfl) (by kernel_rfl) (fun _ _ _ h => h) (Or.inl ⟨by rfl, ?_⟩) (by assumption) ?_
  rotate_left
  · intro X hSw; go_simp; try (with_reducible rfl)
  try simp only [Act.put, List.setIfInBounds_toArray, List.set_cons_zero, List.set_cons_succ]
  refine wpAnyH_take (i := 4) (oi := { dst := some 46, op := Op.load 28 (Operand.tmp 45), type := 28, pos := "law.go:53", after := #[{ on := 3, ground := Ground.data }], guard := none }) (v := ?_) rfl (by kernel_rfl) (by kernel_rfl) (by kernel_rfl) (fun _ _ _ h => h) (Or.inl ⟨by rfl, ?_⟩) (by assumption) ?_
  rotate_left
  · intro X hSw; have hq := HX5.out.same (hSw.block (g + 1) HX5.out.lt (fun h => by rcases h with h | h; have := HDg.out (g + 1) h; omega; omega)); have hq2 := hq.cell 2; have hq4 := hq.cell 4; go_simp; try (with_reducible rfl)
  try simp only [Act.put, List.setIfInBounds_toArray, List.set_cons_zero, List.set_cons_succ]
  refine wpAnyH_take (i := 7) (oi := { dst := some 49, op := Op.move (Operand.tmp 10), type := 3, pos := "law.go:53", after := #[{ on := 9, ground := Ground.gcOnly Departure.lateStores }], guard := none }) (v := ?_) rfl (by kernel_rfl) (by kernel_rfl) (by kernel_rfl) (fun _ _ _ h => h) (Or.inl ⟨by rfl, ?_⟩) (by assumption) ?_
  rotate_left
  · intro X hSw; go_simp; try (with_reducible rfl)
  try simp only [Act.put, List.setIfInBounds_toArray, List.set_cons_zero, List.set_cons_succ]
  refine wpAnyH_ready (rs := [5]) (by kernel_rfl) (by simp) ?_
  refine AllReadyH.cons (o := { dst := some 47, op := Op.call { callee := Callee.value (Operand.func 12), args := #[Operand.tmp 43, Operand.tmp 44, Operand.tmp 46], argTypes := #[23, 3, 28] }, type := 26, pos := "law.go:53", after := #[{ on := 1, ground := Ground.data }, { on := 2, ground := Ground.data }, { on := 4, ground := Ground.data }], guard := none }) rfl (fun K hK => ?_) AllReadyH.nil
  go_simp
  refine (write_any i _ b (HD5.out.below drew_b) (HRB5.out.below drew_b) (fun hl j hj hk => HRB.out.2 hl j hj (HDA.out j hk)) HW9.out HF9.out).mono ?_
  rintro e w6 ⟨rfl, E, hE1, hE2, hE3⟩
  rw [← HE0.out]
  rw [← HSe.out] at hE1
  have HE1 := Lib.hid hE1
  have HE2 := Lib.hid (hHeld.trans hE2 (fun k hk => .inl (.inl hk)))
  have HE3 := Lib.hid (show ∀ k, E k → D k ∨ W5.heap.size ≤ k from hE3)
  have HZ6 := Lib.hid (HZ5.out.same (hE2.block (g + 1 + 1) HZ5.out.lt (fun h => by have := HDg.out (g + 1 + 1) h; omega)))
  clear hE1 hE2 hE3
  go_wp2_with fail
  try (go_wp2_with fail)
  have hHeld' := HE2.out
  refine hK.out _ _ ?_ (fun _ => ?_)
  · exact hHeld'
  clear hK K hHeld
  have hHeld := hHeld'
  clear hHeld'
  try simp only [Act.put, List.setIfInBounds_toArray, List.set_cons_zero, List.set_cons_succ]
  refine wpAnyH_take (i := 6) (oi := { dst := some 48, op := Op.convert 26 3 (Operand.tmp 47), type := 3, pos := "law.go:53", after := #[{ on := 5, ground := Ground.data }, { on := 9, ground := Ground.gcOnly Departure.lateStores }], guard := none }) (v := ?_) rfl (by kernel_rfl) (by kernel_rfl) (by kernel_rfl) (fun _ _ _ h => h) (Or.inl ⟨by rfl, ?_⟩) (by assumption) ?_
  rotate_left
  · intro X hSw; go_simp; try (with_reducible rfl)
  try simp only [Act.put, List.setIfInBounds_toArray, List.set_cons_zero, List.set_cons_succ]
  refine wpAnyH_take (i := 8) (oi := { dst := some 50, op := Op.binOp BinOp.eql 3 (Operand.tmp 48) (Operand.tmp 49) 3, type := 4, pos := "law.go:53", after := #[{ on := 6, ground := Ground.data }, { on := 7, ground := Ground.data }, { on := 9, ground := Ground.gcOnly Departure.lateStores }], guard := none }) (v := ?_) rfl (by kernel_rfl) (by kernel_rfl) (by kernel_rfl) (fun _ _ _ h => h) (Or.inl ⟨by rfl, ?_⟩) (by assumption) ?_
  rotate_left
  · intro X hSw; go_simp; try (with_reducible rfl)
  try simp only [Act.put, List.setIfInBounds_toArray, List.set_cons_zero, List.set_cons_succ]
  refine wpAnyH_ready (rs := [9]) (by kernel_rfl) (by simp) ?_
  refine AllReadyH.cons (o := { dst := none, op := Op.store 38 (Operand.tmp 6) (Operand.tmp 42), type := 0, pos := "law.go:53", after := #[{ on := 0, ground := Ground.data }, { on := 5, ground := Ground.chain }, { on := 0, ground := Ground.phase }, { on := 1, ground := Ground.textOnly Departure.lateStores }, { on := 2, ground := Ground.textOnly Departure.lateStores }, { on := 3, ground := Ground.textOnly Departure.lateStores }, { on := 4, ground := Ground.textOnly Departure.lateStores }, { on := 5, ground := Ground.textOnly Departure.lateStoresUnsure }, { on := 6, ground := Ground.textOnly Departure.lateStores }, { on := 7, ground := Ground.textOnly Departure.lateStores }, { on := 8, ground := Ground.textOnly Departure.lateStores }], guard := none }) rfl (fun K hK => ?_) AllReadyH.nil
  have z0 := HZ6.out.cell 0
  have z1 := HZ6.out.cell 1
  have z2 := HZ6.out.cell 2
  have z3 := HZ6.out.cell 3
  have z4 := HZ6.out.cell 4
  have z5 := HZ6.out.cell 5
  have zf : ∀ i, w6.frozen? ⟨g + 1 + 1, i, none⟩ = false := HZ6.out.frozen
  have zl := HZ6.out.lt
  go_simp
  have hHeld' := fr_six hHeld (.inl (.inr rfl)) (.slice aS4 S.firm.length cS4) (.slice aL4 S.loose.length cL4) (.int .i64 (S.nw : Int)) (.int .i64 (S.nf : Int)) (.bool f4) (.int .i64 lf4)
  refine hK.out _ _ ?_ (fun _ => ?_)
  · exact hHeld'
  clear hK K hHeld
  have hHeld := hHeld'
  clear hHeld'
  try simp only [Act.put, List.setIfInBounds_toArray, List.set_cons_zero, List.set_cons_succ]
  refine wpAnyH_take (i := 10) (oi := { dst := some 7, op := Op.assign (Operand.tmp 50), type := 4, pos := "law.go:53", after := #[{ on := 8, ground := Ground.data }, { on := 9, ground := Ground.chain }, { on := 0, ground := Ground.phase }, { on := 1, ground := Ground.phase }, { on := 2, ground := Ground.phase }, { on := 3, ground := Ground.phase }, { on := 4, ground := Ground.phase }, { on := 5, ground := Ground.phase }, { on := 6, ground := Ground.phase }, { on := 7, ground := Ground.phase }, { on := 8, ground := Ground.phase }, { on := 9, ground := Ground.phase }], guard := none }) (v := ?_) rfl (by kernel_rfl) (by kernel_rfl) (by kernel_rfl) (fun _ _ _ h => h) (Or.inl ⟨by rfl, ?_⟩) (by assumption) ?_
  rotate_left
  · intro X hSw; go_simp; try (with_reducible rfl)
  try simp only [Act.put, List.setIfInBounds_toArray, List.set_cons_zero, List.set_cons_succ]
  refine wpAnyH_done (by kernel_rfl) ?_ _
  have hHw := hHeld
  clear hHeld
  go_wp2
  have hblk := blk_six HZ6.out (.slice aS4 S.firm.length cS4) (.slice aL4 S.loose.length cL4) (.int .i64 (S.nw : Int)) (.int .i64 (S.nf : Int)) (.bool f4) (.int .i64 lf4)
  have e0 := hblk.cell 0
  have e1 := hblk.cell 1
  have e2 := hblk.cell 2
  have e3 := hblk.cell 3
  have e4 := hblk.cell 4
  have e5 := hblk.cell 5
  refine bodyPost_ret (v := .tuple #[.agg #[.slice aS4 S.firm.length cS4, .slice aL4 S.loose.length cL4, .int .i64 (S.nw : Int), .int .i64 (S.nf : Int), .bool f4, .int .i64 lf4], .bool true]) (by simp [results, Try.results18, go_sem, e0, e1, e2, e3, e4, e5]) rfl ?_
  rw [← HSe.out]
  exact stepR_mk HG.out HDA.out (Fr.trans (D := D) (E := fun _ => False) (w := w) (Fr.refl _ _) ⟨HB5.out.os, HB5.out.tape, HB5.out.output, HB5.out.size, fun k hk _ => HB5.out.block k hk⟩ (fun _ h => h.elim)) HTR5.out (HE1.out.fr (fr_six (Fr.refl (fun k => k = g + 1 + 1) w6) (.inl rfl) (.slice aS4 S.firm.length cS4) (.slice aL4 S.loose.length cL4) (.int .i64 (S.nw : Int)) (.int .i64 (S.nf : Int)) (.bool f4) (.int .i64 lf4)) (fun k hk he => by have h3 := HZ5.out.lt; rcases HE3.out k he with h | h; have := HDg.out k h; omega; omega)) HE3.out (fr_six HE2.out (.inl (.inr rfl)) (.slice aS4 S.firm.length cS4) (.slice aL4 S.loose.length cL4) (.int .i64 (S.nw : Int)) (.int .i64 (S.nf : Int)) (.bool f4) (.int .i64 lf4))
end Go.Proofs.Ytpaahbohbnfibaa
