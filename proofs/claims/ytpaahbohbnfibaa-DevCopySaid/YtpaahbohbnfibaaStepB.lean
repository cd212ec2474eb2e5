/-
  The contract of step, of a fuse: a device and the document's own are turned alike, and told the same.
-/
import Derived.Test.YtpaahbohbnfibaaStepA
namespace Go.Proofs.Ytpaahbohbnfibaa
open Go.RowKit Go.Rst Go.Dv
set_option maxRecDepth 100000 in
set_option maxHeartbeats 2000000 in
theorem step_6y {D A : Nat → Prop} {w : World} {v tv uB uK : Value} {s : Sim} {b : List UInt8} {K : List Bool} (kd : Nat) (i : Int) (c : UInt8) (hd : Dev D w v s) (ht : TR A w tv s) (hDA : ∀ k, D k → A k) (hA : ∀ k, A k → k < w.heap.size) (hb : RA A w uB b) (hK : KB A w uK K) (hw : s.nw < 299) (hf : s.nf < 299) (hq : kd % 9 = 6) (hy : 0 < c.toNat % 8) :
    Calls Try.prog 18 #[v, tv, .agg #[.int .u8 (kd : Int), .int .i64 i, uB, uK, .int .u8 (c.toNat : Int)]] w (StepR D A w v (s.setFuse (((c.toNat % 12 : Nat) : Int) - 2))) := by
  have HD := Lib.hid hd
  have HT := Lib.hid ht
  have HDA := Lib.hid hDA
  have HA := Lib.hid hA
  have HRB := Lib.hid hb
  have HKB := Lib.hid hK
  have HOK := Lib.hid hd.ok
  obtain ⟨y, rfl, _⟩ := hd
  obtain ⟨vS, vL, lf, rfl, hS, hL, _⟩ := ht
  obtain ⟨aS, cS, rfl, _⟩ := hS.shape
  obtain ⟨aL, cL, rfl, _⟩ := hL.shape
  obtain ⟨f0, hf0⟩ : ∃ f0, f0 = s.fuse.isSome := ⟨_, rfl⟩
  rw [← hf0] at HT ⊢
  obtain ⟨⟨aB, cB, rfl, _⟩, _⟩ := hb
  obtain ⟨aK, cK, rfl, _⟩ := hK
  obtain ⟨nB, hnB⟩ : ∃ nB, nB = b.length := ⟨_, rfl⟩
  obtain ⟨nK, hnK⟩ : ∃ nK, nK = K.length := ⟨_, rfl⟩
  rw [← hnB] at HRB ⊢
  rw [← hnK] at HKB ⊢
  have HW9 := Lib.hid hw
  have HF9 := Lib.hid hf
  have HF0 := Lib.hid hf0
  have k0 : (0 : Int) ≤ (kd : Int) := by omega
  have k1 : (kd : Int) % 9 = 6 := by omega
  have k2 : (kd : Int).tmod 9 = 6 := by rw [Int.tmod_eq_emod_of_nonneg (by omega)]; omega
  have c0 : (0 : Int) ≤ (c.toNat : Int) := by omega
  have c256 : c.toNat < 256 := c.toNat_lt
  obtain ⟨e8, he8⟩ : ∃ e8, e8 = c.toNat % 8 := ⟨_, rfl⟩
  obtain ⟨n9, hn9⟩ : ∃ n9, n9 = c.toNat % 9 := ⟨_, rfl⟩
  skip
  have c1 : (c.toNat : Int) % 8 = (e8 : Int) := by omega
  have c2 : (c.toNat : Int).tmod 8 = (e8 : Int) := by rw [Int.tmod_eq_emod_of_nonneg (by omega)]; omega
  have c3 : (0 : Int) < (e8 : Int) := by omega
  have c4 : (c.toNat : Int) % 9 = (n9 : Int) := by omega
  have c5 : (c.toNat : Int).tmod 9 = (n9 : Int) := by rw [Int.tmod_eq_emod_of_nonneg (by omega)]; omega
  have c6 : IntKind.i64.wrap (n9 : Int) = (n9 : Int) := by rw [IntKind.wrap_i64]; omega
  clear he8 hn9 hy
  obtain ⟨m, hm⟩ : ∃ m, m = c.toNat % 12 := ⟨_, rfl⟩
  have d1 : (c.toNat : Int) % 12 = (m : Int) := by omega
  have d2 : (c.toNat : Int).tmod 12 = (m : Int) := by rw [Int.tmod_eq_emod_of_nonneg (by omega)]; omega
  have d3 : IntKind.i64.wrap (m : Int) = (m : Int) := by rw [IntKind.wrap_i64]; omega
  have d4 : (m : Int) < 12 := by omega
  have d5 : IntKind.i64.wrap ((m : Int) - 2) = (m : Int) - 2 := by rw [IntKind.wrap_i64]; omega
  rw [show ((c.toNat % 12 : Nat) : Int) = (m : Int) by rw [hm]]
  clear hm
  clear hf0 hnB hnK hS hL hDA hA hw hf hq c256
  go_enter Try.func18, Try.ntmps18
  go_wp2_with fail
  obtain ⟨g, hg⟩ : ∃ g, g = w.heap.size := ⟨_, rfl⟩
  obtain ⟨W1, hW1⟩ : ∃ W1, W1 = ((w.alloc (Obj.cells #[Value.slice aS s.firm.length cS, Value.slice aL s.loose.length cL, Value.int IntKind.i64 ↑s.nw, Value.int IntKind.i64 ↑s.nf, Value.bool f0, Value.int IntKind.i64 lf] 38)).alloc (Obj.cells #[Value.int IntKind.u8 ↑kd, Value.int IntKind.i64 i, Value.slice aB nB cB, Value.slice aK nK cK, Value.int IntKind.u8 ↑c.toNat] 44)).alloc (Obj.cells #[Value.slice none 0 0, Value.slice none 0 0, Value.int IntKind.i64 0, Value.int IntKind.i64 0, Value.bool false, Value.int IntKind.i64 0] 38) := ⟨_, rfl⟩
  rw [← hW1, ← hg]
  have HB1 := Lib.hid (show Below w.heap.size w W1 by rw [hW1]; exact below3 w _ _ _)
  have HT1 := Lib.hid (show Blk W1 g 38 #[Value.slice aS s.firm.length cS, Value.slice aL s.loose.length cL, Value.int IntKind.i64 ↑s.nw, Value.int IntKind.i64 ↑s.nf, Value.bool f0, Value.int IntKind.i64 lf] by rw [hW1, hg]; exact (blk3 w _ _ _ _ _ _).1)
  have HX1 := Lib.hid (show Blk W1 (g + 1) 44 #[Value.int IntKind.u8 ↑kd, Value.int IntKind.i64 i, Value.slice aB nB cB, Value.slice aK nK cK, Value.int IntKind.u8 ↑c.toNat] by rw [hW1, hg]; exact (blk3 w _ _ _ _ _ _).2.1)
  have HZ1 := Lib.hid (show Blk W1 (g + 1 + 1) 38 #[Value.slice none 0 0, Value.slice none 0 0, Value.int IntKind.i64 0, Value.int IntKind.i64 0, Value.bool false, Value.int IntKind.i64 0] by rw [hW1, hg]; exact (blk3 w _ _ _ _ _ _).2.2)
  have HG := Lib.hid hg
  have HGs := Lib.hid (show g + 1 + 1 < W1.heap.size from HZ1.out.lt)
  have HDg := Lib.hid (show ∀ k, D k → k < g from fun k hk => by have := HD.out.lt k hk; omega)
  have HA1 := Lib.hid (show ∀ k, (fun k => A k ∨ k = g ∨ k = g + 1 ∨ k = g + 1 + 1) k → k < W1.heap.size from fun k hk => by have hs := HGs.out; rcases hk with hk | hk | hk | hk; have := HA.out k hk; omega; all_goals omega)
  have HTR := Lib.hid (show TR (fun k => A k ∨ k = g ∨ k = g + 1 ∨ k = g + 1 + 1) W1 _ s from HT.out.fr (D := fun _ => False) (Fr.of_below HB1.out) (fun _ h => h.elim) (fun k hk => by rcases hk with hk | hk | hk | hk; exact .inl hk; all_goals exact .inr (by omega)))
  have HD1 := Lib.hid (HD.out.below HB1.out)
  have HRB1 := Lib.hid (HRB.out.1.below HB1.out)
  have HKB1 := Lib.hid (HKB.out.fr (Fr.of_below HB1.out) (fun _ _ h => h.elim) (E := fun _ => False))
  clear hW1 hg
  go_at_call 23
  refine (fuse_any ((m : Int) - 2) (by omega) HD1.out).mono ?_
  rintro e w2 ⟨rfl, hfr, hdv⟩
  have HCt := Lib.hid (HT1.out.same (hfr.block g (by have := HGs.out; omega) (fun h => by have := HDg.out g h; omega)))
  have HCx := Lib.hid (HX1.out.same (hfr.block (g + 1) (by have := HGs.out; omega) (fun h => by have := HDg.out (g + 1) h; omega)))
  have HCz := Lib.hid (HZ1.out.same (hfr.block (g + 1 + 1) HGs.out (fun h => by have := HDg.out (g + 1 + 1) h; omega)))
  have HTR2 := Lib.hid (HTR.out.fr (A' := (fun k => A k ∨ k = g ∨ k = g + 1 ∨ k = g + 1 + 1)) hfr (fun k hk => .inl (HDA.out k hk)) (fun k hk => .inl hk))
  have HA2 := Lib.hid (show ∀ k, (fun k => A k ∨ k = g ∨ k = g + 1 ∨ k = g + 1 + 1) k → k < w2.heap.size from fun k hk => Nat.lt_of_lt_of_le (HA1.out k hk) hfr.size)
  have HFr := Lib.hid (Fr.trans (D := D) (w := W1) ⟨HB1.out.os, HB1.out.tape, HB1.out.output, HB1.out.size, fun k hk _ => HB1.out.block k hk⟩ hfr (fun k hk => .inl hk))
  have HFr2 := Lib.hid hfr
  have HDv := Lib.hid hdv
  clear hfr hdv
  have t0 : w2.cell? ⟨g, 0, none⟩ = some (.slice aS s.firm.length cS) := HCt.out.cell 0
  have t1 : w2.cell? ⟨g, 1, none⟩ = some (.slice aL s.loose.length cL) := HCt.out.cell 1
  have t2 : w2.cell? ⟨g, 2, none⟩ = some (.int .i64 (s.nw : Int)) := HCt.out.cell 2
  have t3 : w2.cell? ⟨g, 3, none⟩ = some (.int .i64 (s.nf : Int)) := HCt.out.cell 3
  have t4 : w2.cell? ⟨g, 4, none⟩ = some (.bool f0) := HCt.out.cell 4
  have t5 : w2.cell? ⟨g, 5, none⟩ = some (.int .i64 lf) := HCt.out.cell 5
  have x0 : w2.cell? ⟨(g + 1), 0, none⟩ = some (.int .u8 (kd : Int)) := HCx.out.cell 0
  have x1 : w2.cell? ⟨(g + 1), 1, none⟩ = some (.int .i64 i) := HCx.out.cell 1
  have x2 : w2.cell? ⟨(g + 1), 2, none⟩ = some (.slice aB nB cB) := HCx.out.cell 2
  have x3 : w2.cell? ⟨(g + 1), 3, none⟩ = some (.slice aK nK cK) := HCx.out.cell 3
  have x4 : w2.cell? ⟨(g + 1), 4, none⟩ = some (.int .u8 (c.toNat : Int)) := HCx.out.cell 4
  go_wp2_with fail
  go_at_call 32
  refine (reffuse_any ((m : Int) - 2) HTR2.out).mono ?_
  rintro e w4 ⟨tv4, rfl, ht4, hb4⟩
  obtain ⟨S, hSe⟩ : ∃ S, S = s.setFuse ((m : Int) - 2) := ⟨_, rfl⟩
  have HSe := Lib.hid hSe
  rw [← hSe] at ht4 ⊢
  obtain ⟨vS4, vL4, lf4, rfl, hS4, hL4, _⟩ := id ht4
  obtain ⟨aS4, cS4, rfl, _⟩ := hS4.shape
  obtain ⟨aL4, cL4, rfl, _⟩ := hL4.shape
  obtain ⟨f4, hf4⟩ : ∃ f4, f4 = S.fuse.isSome := ⟨_, rfl⟩
  rw [← hf4] at ht4 ⊢
  have HTR4 := Lib.hid ht4
  clear hS4 hL4 hf4 ht4
  rw [← hSe] at HDv
  have HDv4 := Lib.hid (HDv.out.below hb4)
  have HCz4 := Lib.hid (HCz.out.below hb4 HCz.out.lt)
  have HF4 := Lib.hid (Fr.trans (D := D) (E := fun _ => False) HFr.out (Fr.of_below hb4) (fun _ h => h.elim))
  clear hb4 hSe t0 t1 t2 t3 t4 t5 x0 x1 x2 x3 x4
  have z0 : w4.cell? ⟨(g + 1 + 1), 0, none⟩ = some (.slice none 0 0) := HCz4.out.cell 0
  have z1 : w4.cell? ⟨(g + 1 + 1), 1, none⟩ = some (.slice none 0 0) := HCz4.out.cell 1
  have z2 : w4.cell? ⟨(g + 1 + 1), 2, none⟩ = some (.int .i64 0) := HCz4.out.cell 2
  have z3 : w4.cell? ⟨(g + 1 + 1), 3, none⟩ = some (.int .i64 0) := HCz4.out.cell 3
  have z4 : w4.cell? ⟨(g + 1 + 1), 4, none⟩ = some (.bool false) := HCz4.out.cell 4
  have z5 : w4.cell? ⟨(g + 1 + 1), 5, none⟩ = some (.int .i64 0) := HCz4.out.cell 5
  have zf : ∀ i, w4.frozen? ⟨g + 1 + 1, i, none⟩ = false := HCz4.out.frozen
  have zl := HCz4.out.lt
  go_wp2
  have hblk := blk_six HCz4.out (.slice aS4 S.firm.length cS4) (.slice aL4 S.loose.length cL4) (.int .i64 (S.nw : Int)) (.int .i64 (S.nf : Int)) (.bool f4) (.int .i64 lf4)
  have e0 := hblk.cell 0
  have e1 := hblk.cell 1
  have e2 := hblk.cell 2
  have e3 := hblk.cell 3
  have e4 := hblk.cell 4
  have e5 := hblk.cell 5
  refine bodyPost_ret (v := .tuple #[.agg #[.slice aS4 S.firm.length cS4, .slice aL4 S.loose.length cL4, .int .i64 (S.nw : Int), .int .i64 (S.nf : Int), .bool f4, .int .i64 lf4], .bool true]) (by simp [results, Try.results18, go_sem, e0, e1, e2, e3, e4, e5]) rfl ?_
  rw [← HSe.out]
  exact stepR_mk HG.out HDA.out HF4.out HTR4.out (HDv4.out.fr (fr_six (Fr.refl (fun k => k = g + 1 + 1) w4) (.inl rfl) (.slice aS4 S.firm.length cS4) (.slice aL4 S.loose.length cL4) (.int .i64 (S.nw : Int)) (.int .i64 (S.nf : Int)) (.bool f4) (.int .i64 lf4)) (fun k hk hd => by have := HDg.out k hd; omega)) (fun k hk => .inl hk) (fr_six (Fr.refl _ _) (.inl (.inr rfl)) (.slice aS4 S.firm.length cS4) (.slice aL4 S.loose.length cL4) (.int .i64 (S.nw : Int)) (.int .i64 (S.nf : Int)) (.bool f4) (.int .i64 lf4))
set_option maxRecDepth 100000 in
set_option maxHeartbeats 2000000 in
theorem step_6n {D A : Nat → Prop} {w : World} {v tv uB uK : Value} {s : Sim} {b : List UInt8} {K : List Bool} (kd : Nat) (i : Int) (c : UInt8) (hd : Dev D w v s) (ht : TR A w tv s) (hDA : ∀ k, D k → A k) (hA : ∀ k, A k → k < w.heap.size) (hb : RA A w uB b) (hK : KB A w uK K) (hw : s.nw < 299) (hf : s.nf < 299) (hq : kd % 9 = 6) (hy : c.toNat % 8 = 0) :
    Calls Try.prog 18 #[v, tv, .agg #[.int .u8 (kd : Int), .int .i64 i, uB, uK, .int .u8 (c.toNat : Int)]] w (StepR D A w v (s.setFuse (((c.toNat % 12 : Nat) : Int) - 2))) := by
  have HD := Lib.hid hd
  have HT := Lib.hid ht
  have HDA := Lib.hid hDA
  have HA := Lib.hid hA
  have HRB := Lib.hid hb
  have HKB := Lib.hid hK
  have HOK := Lib.hid hd.ok
  obtain ⟨y, rfl, _⟩ := hd
  obtain ⟨vS, vL, lf, rfl, hS, hL, _⟩ := ht
  obtain ⟨aS, cS, rfl, _⟩ := hS.shape
  obtain ⟨aL, cL, rfl, _⟩ := hL.shape
  obtain ⟨f0, hf0⟩ : ∃ f0, f0 = s.fuse.isSome := ⟨_, rfl⟩
  rw [← hf0] at HT ⊢
  obtain ⟨⟨aB, cB, rfl, _⟩, _⟩ := hb
  obtain ⟨aK, cK, rfl, _⟩ := hK
  obtain ⟨nB, hnB⟩ : ∃ nB, nB = b.length := ⟨_, rfl⟩
  obtain ⟨nK, hnK⟩ : ∃ nK, nK = K.length := ⟨_, rfl⟩
  rw [← hnB] at HRB ⊢
  rw [← hnK] at HKB ⊢
  have HW9 := Lib.hid hw
  have HF9 := Lib.hid hf
  have HF0 := Lib.hid hf0
  have k0 : (0 : Int) ≤ (kd : Int) := by omega
  have k1 : (kd : Int) % 9 = 6 := by omega
  have k2 : (kd : Int).tmod 9 = 6 := by rw [Int.tmod_eq_emod_of_nonneg (by omega)]; omega
  have c0 : (0 : Int) ≤ (c.toNat : Int) := by omega
  have c256 : c.toNat < 256 := c.toNat_lt
  have c1 : (c.toNat : Int) % 8 = 0 := by omega
  have c2 : (c.toNat : Int).tmod 8 = 0 := by rw [Int.tmod_eq_emod_of_nonneg (by omega)]; omega
  clear hy
  obtain ⟨m, hm⟩ : ∃ m, m = c.toNat % 12 := ⟨_, rfl⟩
  have d1 : (c.toNat : Int) % 12 = (m : Int) := by omega
  have d2 : (c.toNat : Int).tmod 12 = (m : Int) := by rw [Int.tmod_eq_emod_of_nonneg (by omega)]; omega
  have d3 : IntKind.i64.wrap (m : Int) = (m : Int) := by rw [IntKind.wrap_i64]; omega
  have d4 : (m : Int) < 12 := by omega
  have d5 : IntKind.i64.wrap ((m : Int) - 2) = (m : Int) - 2 := by rw [IntKind.wrap_i64]; omega
  rw [show ((c.toNat % 12 : Nat) : Int) = (m : Int) by rw [hm]]
  clear hm
  clear hf0 hnB hnK hS hL hDA hA hw hf hq c256
  go_enter Try.func18, Try.ntmps18
  go_wp2_with fail
  obtain ⟨g, hg⟩ : ∃ g, g = w.heap.size := ⟨_, rfl⟩
  obtain ⟨W1, hW1⟩ : ∃ W1, W1 = ((w.alloc (Obj.cells #[Value.slice aS s.firm.length cS, Value.slice aL s.loose.length cL, Value.int IntKind.i64 ↑s.nw, Value.int IntKind.i64 ↑s.nf, Value.bool f0, Value.int IntKind.i64 lf] 38)).alloc (Obj.cells #[Value.int IntKind.u8 ↑kd, Value.int IntKind.i64 i, Value.slice aB nB cB, Value.slice aK nK cK, Value.int IntKind.u8 ↑c.toNat] 44)).alloc (Obj.cells #[Value.slice none 0 0, Value.slice none 0 0, Value.int IntKind.i64 0, Value.int IntKind.i64 0, Value.bool false, Value.int IntKind.i64 0] 38) := ⟨_, rfl⟩
  rw [← hW1, ← hg]
  have HB1 := Lib.hid (show Below w.heap.size w W1 by rw [hW1]; exact below3 w _ _ _)
  have HT1 := Lib.hid (show Blk W1 g 38 #[Value.slice aS s.firm.length cS, Value.slice aL s.loose.length cL, Value.int IntKind.i64 ↑s.nw, Value.int IntKind.i64 ↑s.nf, Value.bool f0, Value.int IntKind.i64 lf] by rw [hW1, hg]; exact (blk3 w _ _ _ _ _ _).1)
  have HX1 := Lib.hid (show Blk W1 (g + 1) 44 #[Value.int IntKind.u8 ↑kd, Value.int IntKind.i64 i, Value.slice aB nB cB, Value.slice aK nK cK, Value.int IntKind.u8 ↑c.toNat] by rw [hW1, hg]; exact (blk3 w _ _ _ _ _ _).2.1)
  have HZ1 := Lib.hid (show Blk W1 (g + 1 + 1) 38 #[Value.slice none 0 0, Value.slice none 0 0, Value.int IntKind.i64 0, Value.int IntKind.i64 0, Value.bool false, Value.int IntKind.i64 0] by rw [hW1, hg]; exact (blk3 w _ _ _ _ _ _).2.2)
  have HG := Lib.hid hg
  have HGs := Lib.hid (show g + 1 + 1 < W1.heap.size from HZ1.out.lt)
  have HDg := Lib.hid (show ∀ k, D k → k < g from fun k hk => by have := HD.out.lt k hk; omega)
  have HA1 := Lib.hid (show ∀ k, (fun k => A k ∨ k = g ∨ k = g + 1 ∨ k = g + 1 + 1) k → k < W1.heap.size from fun k hk => by have hs := HGs.out; rcases hk with hk | hk | hk | hk; have := HA.out k hk; omega; all_goals omega)
  have HTR := Lib.hid (show TR (fun k => A k ∨ k = g ∨ k = g + 1 ∨ k = g + 1 + 1) W1 _ s from HT.out.fr (D := fun _ => False) (Fr.of_below HB1.out) (fun _ h => h.elim) (fun k hk => by rcases hk with hk | hk | hk | hk; exact .inl hk; all_goals exact .inr (by omega)))
  have HD1 := Lib.hid (HD.out.below HB1.out)
  have HRB1 := Lib.hid (HRB.out.1.below HB1.out)
  have HKB1 := Lib.hid (HKB.out.fr (Fr.of_below HB1.out) (fun _ _ h => h.elim) (E := fun _ => False))
  clear hW1 hg
  go_at_call 23
  refine (fuse_any ((m : Int) - 2) (by omega) HD1.out).mono ?_
  rintro e w2 ⟨rfl, hfr, hdv⟩
  have HCt := Lib.hid (HT1.out.same (hfr.block g (by have := HGs.out; omega) (fun h => by have := HDg.out g h; omega)))
  have HCx := Lib.hid (HX1.out.same (hfr.block (g + 1) (by have := HGs.out; omega) (fun h => by have := HDg.out (g + 1) h; omega)))
  have HCz := Lib.hid (HZ1.out.same (hfr.block (g + 1 + 1) HGs.out (fun h => by have := HDg.out (g + 1 + 1) h; omega)))
  have HTR2 := Lib.hid (HTR.out.fr (A' := (fun k => A k ∨ k = g ∨ k = g + 1 ∨ k = g + 1 + 1)) hfr (fun k hk => .inl (HDA.out k hk)) (fun k hk => .inl hk))
  have HA2 := Lib.hid (show ∀ k, (fun k => A k ∨ k = g ∨ k = g + 1 ∨ k = g + 1 + 1) k → k < w2.heap.size from fun k hk => Nat.lt_of_lt_of_le (HA1.out k hk) hfr.size)
  have HFr := Lib.hid (Fr.trans (D := D) (w := W1) ⟨HB1.out.os, HB1.out.tape, HB1.out.output, HB1.out.size, fun k hk _ => HB1.out.block k hk⟩ hfr (fun k hk => .inl hk))
  have HFr2 := Lib.hid hfr
  have HDv := Lib.hid hdv
  clear hfr hdv
  have t0 : w2.cell? ⟨g, 0, none⟩ = some (.slice aS s.firm.length cS) := HCt.out.cell 0
  have t1 : w2.cell? ⟨g, 1, none⟩ = some (.slice aL s.loose.length cL) := HCt.out.cell 1
  have t2 : w2.cell? ⟨g, 2, none⟩ = some (.int .i64 (s.nw : Int)) := HCt.out.cell 2
  have t3 : w2.cell? ⟨g, 3, none⟩ = some (.int .i64 (s.nf : Int)) := HCt.out.cell 3
  have t4 : w2.cell? ⟨g, 4, none⟩ = some (.bool f0) := HCt.out.cell 4
  have t5 : w2.cell? ⟨g, 5, none⟩ = some (.int .i64 lf) := HCt.out.cell 5
  have x0 : w2.cell? ⟨(g + 1), 0, none⟩ = some (.int .u8 (kd : Int)) := HCx.out.cell 0
  have x1 : w2.cell? ⟨(g + 1), 1, none⟩ = some (.int .i64 i) := HCx.out.cell 1
  have x2 : w2.cell? ⟨(g + 1), 2, none⟩ = some (.slice aB nB cB) := HCx.out.cell 2
  have x3 : w2.cell? ⟨(g + 1), 3, none⟩ = some (.slice aK nK cK) := HCx.out.cell 3
  have x4 : w2.cell? ⟨(g + 1), 4, none⟩ = some (.int .u8 (c.toNat : Int)) := HCx.out.cell 4
  go_wp2_with fail
  go_at_call 32
  refine (reffuse_any ((m : Int) - 2) HTR2.out).mono ?_
  rintro e w4 ⟨tv4, rfl, ht4, hb4⟩
  obtain ⟨S, hSe⟩ : ∃ S, S = s.setFuse ((m : Int) - 2) := ⟨_, rfl⟩
  have HSe := Lib.hid hSe
  rw [← hSe] at ht4 ⊢
  obtain ⟨vS4, vL4, lf4, rfl, hS4, hL4, _⟩ := id ht4
  obtain ⟨aS4, cS4, rfl, _⟩ := hS4.shape
  obtain ⟨aL4, cL4, rfl, _⟩ := hL4.shape
  obtain ⟨f4, hf4⟩ : ∃ f4, f4 = S.fuse.isSome := ⟨_, rfl⟩
  rw [← hf4] at ht4 ⊢
  have HTR4 := Lib.hid ht4
  clear hS4 hL4 hf4 ht4
  rw [← hSe] at HDv
  have HDv4 := Lib.hid (HDv.out.below hb4)
  have HCz4 := Lib.hid (HCz.out.below hb4 HCz.out.lt)
  have HF4 := Lib.hid (Fr.trans (D := D) (E := fun _ => False) HFr.out (Fr.of_below hb4) (fun _ h => h.elim))
  clear hb4 hSe t0 t1 t2 t3 t4 t5 x0 x1 x2 x3 x4
  have z0 : w4.cell? ⟨(g + 1 + 1), 0, none⟩ = some (.slice none 0 0) := HCz4.out.cell 0
  have z1 : w4.cell? ⟨(g + 1 + 1), 1, none⟩ = some (.slice none 0 0) := HCz4.out.cell 1
  have z2 : w4.cell? ⟨(g + 1 + 1), 2, none⟩ = some (.int .i64 0) := HCz4.out.cell 2
  have z3 : w4.cell? ⟨(g + 1 + 1), 3, none⟩ = some (.int .i64 0) := HCz4.out.cell 3
  have z4 : w4.cell? ⟨(g + 1 + 1), 4, none⟩ = some (.bool false) := HCz4.out.cell 4
  have z5 : w4.cell? ⟨(g + 1 + 1), 5, none⟩ = some (.int .i64 0) := HCz4.out.cell 5
  have zf : ∀ i, w4.frozen? ⟨g + 1 + 1, i, none⟩ = false := HCz4.out.frozen
  have zl := HCz4.out.lt
  go_wp2
  have hblk := blk_six HCz4.out (.slice aS4 S.firm.length cS4) (.slice aL4 S.loose.length cL4) (.int .i64 (S.nw : Int)) (.int .i64 (S.nf : Int)) (.bool f4) (.int .i64 lf4)
  have e0 := hblk.cell 0
  have e1 := hblk.cell 1
  have e2 := hblk.cell 2
  have e3 := hblk.cell 3
  have e4 := hblk.cell 4
  have e5 := hblk.cell 5
  refine bodyPost_ret (v := .tuple #[.agg #[.slice aS4 S.firm.length cS4, .slice aL4 S.loose.length cL4, .int .i64 (S.nw : Int), .int .i64 (S.nf : Int), .bool f4, .int .i64 lf4], .bool true]) (by simp [results, Try.results18, go_sem, e0, e1, e2, e3, e4, e5]) rfl ?_
  rw [← HSe.out]
  exact stepR_mk HG.out HDA.out HF4.out HTR4.out (HDv4.out.fr (fr_six (Fr.refl (fun k => k = g + 1 + 1) w4) (.inl rfl) (.slice aS4 S.firm.length cS4) (.slice aL4 S.loose.length cL4) (.int .i64 (S.nw : Int)) (.int .i64 (S.nf : Int)) (.bool f4) (.int .i64 lf4)) (fun k hk hd => by have := HDg.out k hd; omega)) (fun k hk => .inl hk) (fr_six (Fr.refl _ _) (.inl (.inr rfl)) (.slice aS4 S.firm.length cS4) (.slice aL4 S.loose.length cL4) (.int .i64 (S.nw : Int)) (.int .i64 (S.nf : Int)) (.bool f4) (.int .i64 lf4))
end Go.Proofs.Ytpaahbohbnfibaa
