/-
  The contract of step, of reads: a device and the document's own are turned alike, and told the same.
-/
import Derived.Test.YtpaahbohbnfibaaStepA
namespace Go.Proofs.Ytpaahbohbnfibaa
open Go.RowKit Go.Rst Go.Dv
set_option maxRecDepth 100000 in
set_option maxHeartbeats 2000000 in
theorem step_8y {D A : Nat → Prop} {w : World} {v tv uB uK : Value} {s : Sim} {b : List UInt8} {K : List Bool} (kd : Nat) (i : Int) (c : UInt8) (hd : Dev D w v s) (ht : TR A w tv s) (hDA : ∀ k, D k → A k) (hA : ∀ k, A k → k < w.heap.size) (hb : RA A w uB b) (hK : KB A w uK K) (hw : s.nw < 299) (hf : s.nf < 299) (hq : kd % 9 = 8) (hy : 0 < c.toNat % 8) :
    Calls Try.prog 18 #[v, tv, .agg #[.int .u8 (kd : Int), .int .i64 i, uB, uK, .int .u8 (c.toNat : Int)]] w (StepR D A w v (s)) := by
  have HD := Lib.hid hd
  have HT := Lib.hid ht
  have HDA := Lib.hid hDA
  have HA := Lib.hid hA
  have HRB := Lib.hid hb
  have HKB := Lib.hid hK
  have HOK := Lib.hid hd.ok
  obtain ⟨y, rfl, _⟩ := hd
  obtain ⟨vS, vL, lf, rfl, hS, hL, _⟩ := ht
  obtain ⟨aS, cS, rfl, _⟩ := hS.shape
  obtain ⟨aL, cL, rfl, _⟩ := hL.shape
  obtain ⟨f0, hf0⟩ : ∃ f0, f0 = s.fuse.isSome := ⟨_, rfl⟩
  rw [← hf0] at HT ⊢
  obtain ⟨⟨aB, cB, rfl, _⟩, _⟩ := hb
  obtain ⟨aK, cK, rfl, _⟩ := hK
  obtain ⟨nB, hnB⟩ : ∃ nB, nB = b.length := ⟨_, rfl⟩
  obtain ⟨nK, hnK⟩ : ∃ nK, nK = K.length := ⟨_, rfl⟩
  rw [← hnB] at HRB ⊢
  rw [← hnK] at HKB ⊢
  have HW9 := Lib.hid hw
  have HF9 := Lib.hid hf
  have HF0 := Lib.hid hf0
  have k0 : (0 : Int) ≤ (kd : Int) := by omega
  have k1 : (kd : Int) % 9 = 8 := by omega
  have k2 : (kd : Int).tmod 9 = 8 := by rw [Int.tmod_eq_emod_of_nonneg (by omega)]; omega
  have c0 : (0 : Int) ≤ (c.toNat : Int) := by omega
  have c256 : c.toNat < 256 := c.toNat_lt
  obtain ⟨e8, he8⟩ : ∃ e8, e8 = c.toNat % 8 := ⟨_, rfl⟩
  obtain ⟨n9, hn9⟩ : ∃ n9, n9 = c.toNat % 9 := ⟨_, rfl⟩
  skip
  have c1 : (c.toNat : Int) % 8 = (e8 : Int) := by omega
  have c2 : (c.toNat : Int).tmod 8 = (e8 : Int) := by rw [Int.tmod_eq_emod_of_nonneg (by omega)]; omega
  have c3 : (0 : Int) < (e8 : Int) := by omega
  have c4 : (c.toNat : Int) % 9 = (n9 : Int) := by omega
  have c5 : (c.toNat : Int).tmod 9 = (n9 : Int) := by rw [Int.tmod_eq_emod_of_nonneg (by omega)]; omega
  have c6 : IntKind.i64.wrap (n9 : Int) = (n9 : Int) := by rw [IntKind.wrap_i64]; omega
  clear he8 hn9 hy
  clear hf0 hnB hnK hS hL hDA hA hw hf hq c256
  go_enter Try.func18, Try.ntmps18
  go_wp2_with fail
  obtain ⟨g, hg⟩ : ∃ g, g = w.heap.size := ⟨_, rfl⟩
  obtain ⟨W1, hW1⟩ : ∃ W1, W1 = ((w.alloc (Obj.cells #[Value.slice aS s.firm.length cS, Value.slice aL s.loose.length cL, Value.int IntKind.i64 ↑s.nw, Value.int IntKind.i64 ↑s.nf, Value.bool f0, Value.int IntKind.i64 lf] 38)).alloc (Obj.cells #[Value.int IntKind.u8 ↑kd, Value.int IntKind.i64 i, Value.slice aB nB cB, Value.slice aK nK cK, Value.int IntKind.u8 ↑c.toNat] 44)).alloc (Obj.cells #[Value.slice none 0 0, Value.slice none 0 0, Value.int IntKind.i64 0, Value.int IntKind.i64 0, Value.bool false, Value.int IntKind.i64 0] 38) := ⟨_, rfl⟩
  rw [← hW1, ← hg]
  have HB1 := Lib.hid (show Below w.heap.size w W1 by rw [hW1]; exact below3 w _ _ _)
  have HT1 := Lib.hid (show Blk W1 g 38 #[Value.slice aS s.firm.length cS, Value.slice aL s.loose.length cL, Value.int IntKind.i64 ↑s.nw, Value.int IntKind.i64 ↑s.nf, Value.bool f0, Value.int IntKind.i64 lf] by rw [hW1, hg]; exact (blk3 w _ _ _ _ _ _).1)
  have HX1 := Lib.hid (show Blk W1 (g + 1) 44 #[Value.int IntKind.u8 ↑kd, Value.int IntKind.i64 i, Value.slice aB nB cB, Value.slice aK nK cK, Value.int IntKind.u8 ↑c.toNat] by rw [hW1, hg]; exact (blk3 w _ _ _ _ _ _).2.1)
  have HZ1 := Lib.hid (show Blk W1 (g + 1 + 1) 38 #[Value.slice none 0 0, Value.slice none 0 0, Value.int IntKind.i64 0, Value.int IntKind.i64 0, Value.bool false, Value.int IntKind.i64 0] by rw [hW1, hg]; exact (blk3 w _ _ _ _ _ _).2.2)
  have HG := Lib.hid hg
  have HGs := Lib.hid (show g + 1 + 1 < W1.heap.size from HZ1.out.lt)
  have HDg := Lib.hid (show ∀ k, D k → k < g from fun k hk => by have := HD.out.lt k hk; omega)
  have HA1 := Lib.hid (show ∀ k, (fun k => A k ∨ k = g ∨ k = g + 1 ∨ k = g + 1 + 1) k → k < W1.heap.size from fun k hk => by have hs := HGs.out; rcases hk with hk | hk | hk | hk; have := HA.out k hk; omega; all_goals omega)
  have HTR := Lib.hid (show TR (fun k => A k ∨ k = g ∨ k = g + 1 ∨ k = g + 1 + 1) W1 _ s from HT.out.fr (D := fun _ => False) (Fr.of_below HB1.out) (fun _ h => h.elim) (fun k hk => by rcases hk with hk | hk | hk | hk; exact .inl hk; all_goals exact .inr (by omega)))
  have HD1 := Lib.hid (HD.out.below HB1.out)
  have HRB1 := Lib.hid (HRB.out.1.below HB1.out)
  have HKB1 := Lib.hid (HKB.out.fr (Fr.of_below HB1.out) (fun _ _ h => h.elim) (E := fun _ => False))
  clear hW1 hg
  cases hh : s.has i with
  | false =>
    have HH := Lib.hid hh
    clear hh
    go_at_call 15
    refine (read_no i HD1.out HH.out).mono ?_
    rintro e w2 ⟨rfl, rfl⟩
    have HCt := HT1
    have t0 : W1.cell? ⟨g, 0, none⟩ = some (.slice aS s.firm.length cS) := HCt.out.cell 0
    have t1 : W1.cell? ⟨g, 1, none⟩ = some (.slice aL s.loose.length cL) := HCt.out.cell 1
    have t2 : W1.cell? ⟨g, 2, none⟩ = some (.int .i64 (s.nw : Int)) := HCt.out.cell 2
    have t3 : W1.cell? ⟨g, 3, none⟩ = some (.int .i64 (s.nf : Int)) := HCt.out.cell 3
    have t4 : W1.cell? ⟨g, 4, none⟩ = some (.bool f0) := HCt.out.cell 4
    have t5 : W1.cell? ⟨g, 5, none⟩ = some (.int .i64 lf) := HCt.out.cell 5
    have HCx := HX1
    have x0 : W1.cell? ⟨(g + 1), 0, none⟩ = some (.int .u8 (kd : Int)) := HCx.out.cell 0
    have x1 : W1.cell? ⟨(g + 1), 1, none⟩ = some (.int .i64 i) := HCx.out.cell 1
    have x2 : W1.cell? ⟨(g + 1), 2, none⟩ = some (.slice aB nB cB) := HCx.out.cell 2
    have x3 : W1.cell? ⟨(g + 1), 3, none⟩ = some (.slice aK nK cK) := HCx.out.cell 3
    have x4 : W1.cell? ⟨(g + 1), 4, none⟩ = some (.int .u8 (c.toNat : Int)) := HCx.out.cell 4
    go_wp2_with fail
    go_at_call 34
    refine (refread_no i HTR.out HH.out).mono ?_
    rintro e w4 ⟨rfl, hb4⟩
    have HB4 := Lib.hid (HB1.out.trans (hb4.mono HB1.out.size))
    have HTR4 := Lib.hid (HTR.out.below hb4)
    have HT4 := Lib.hid (HT1.out.below hb4 HT1.out.lt)
    have HZ4 := Lib.hid (HZ1.out.below hb4 HZ1.out.lt)
    clear hb4 t0 t1 t2 t3 t4 t5 x0 x1 x2 x3 x4
    have HCt := HT4
    have t0 : w4.cell? ⟨g, 0, none⟩ = some (.slice aS s.firm.length cS) := HCt.out.cell 0
    have t1 : w4.cell? ⟨g, 1, none⟩ = some (.slice aL s.loose.length cL) := HCt.out.cell 1
    have t2 : w4.cell? ⟨g, 2, none⟩ = some (.int .i64 (s.nw : Int)) := HCt.out.cell 2
    have t3 : w4.cell? ⟨g, 3, none⟩ = some (.int .i64 (s.nf : Int)) := HCt.out.cell 3
    have t4 : w4.cell? ⟨g, 4, none⟩ = some (.bool f0) := HCt.out.cell 4
    have t5 : w4.cell? ⟨g, 5, none⟩ = some (.int .i64 lf) := HCt.out.cell 5
    have HCz := HZ4
    have z0 : w4.cell? ⟨(g + 1 + 1), 0, none⟩ = some (.slice none 0 0) := HCz.out.cell 0
    have z1 : w4.cell? ⟨(g + 1 + 1), 1, none⟩ = some (.slice none 0 0) := HCz.out.cell 1
    have z2 : w4.cell? ⟨(g + 1 + 1), 2, none⟩ = some (.int .i64 0) := HCz.out.cell 2
    have z3 : w4.cell? ⟨(g + 1 + 1), 3, none⟩ = some (.int .i64 0) := HCz.out.cell 3
    have z4 : w4.cell? ⟨(g + 1 + 1), 4, none⟩ = some (.bool false) := HCz.out.cell 4
    have z5 : w4.cell? ⟨(g + 1 + 1), 5, none⟩ = some (.int .i64 0) := HCz.out.cell 5
    have zf : ∀ i, w4.frozen? ⟨g + 1 + 1, i, none⟩ = false := HZ4.out.frozen
    have zl := HZ4.out.lt
    have hs1 := str28 (RB.nil_ w4)
    have r1 : IntKind.i64.wrap 20 = 20 := by decide
    go_wp2
    have hblk := blk_six HZ4.out (.slice aS s.firm.length cS) (.slice aL s.loose.length cL) (.int .i64 (s.nw : Int)) (.int .i64 (s.nf : Int)) (.bool f0) (.int .i64 lf)
    have e0 := hblk.cell 0
    have e1 := hblk.cell 1
    have e2 := hblk.cell 2
    have e3 := hblk.cell 3
    have e4 := hblk.cell 4
    have e5 := hblk.cell 5
    refine bodyPost_ret (v := .tuple #[.agg #[.slice aS s.firm.length cS, .slice aL s.loose.length cL, .int .i64 (s.nw : Int), .int .i64 (s.nf : Int), .bool f0, .int .i64 lf], .bool true]) (by simp [results, Try.results18, go_sem, e0, e1, e2, e3, e4, e5]) rfl ?_
    exact stepR_mk HG.out HDA.out (Fr.trans (D := D) (E := fun _ => False) (w := w) (Fr.refl _ _) ⟨HB4.out.os, HB4.out.tape, HB4.out.output, HB4.out.size, fun k hk _ => HB4.out.block k hk⟩ (fun _ h => h.elim)) HTR4.out ((HD.out.below HB4.out).fr (fr_six (Fr.refl (fun k => k = g + 1 + 1) w4) (.inl rfl) (.slice aS s.firm.length cS) (.slice aL s.loose.length cL) (.int .i64 (s.nw : Int)) (.int .i64 (s.nf : Int)) (.bool f0) (.int .i64 lf)) (fun k hk hd => by have := HDg.out k hd; omega)) (fun k hk => .inl hk) (fr_six (Fr.refl _ _) (.inl (.inr rfl)) (.slice aS s.firm.length cS) (.slice aL s.loose.length cL) (.int .i64 (s.nw : Int)) (.int .i64 (s.nf : Int)) (.bool f0) (.int .i64 lf))
  | true =>
    have hi := Sim.has_iff.1 hh
    obtain ⟨k, rfl⟩ := Int.eq_ofNat_of_zero_le hi.1
    have hk : k < s.firm.length := by omega
    have HK := Lib.hid hk
    have HLL := Lib.hid (show s.loose.length ≤ 100000 from Nat.le_trans HOK.out.w (by have := HW9.out; omega))
    clear hh hi hk
    go_at_call 15
    refine (read_any k HD1.out HK.out (by have := HW9.out; omega)).mono ?_
    rintro e w2 ⟨u1, rfl, hr1, _, hb1⟩
    have HR1 := Lib.hid hr1
    have HB2 := Lib.hid (HB1.out.trans (hb1.mono HB1.out.size))
    have HTR2 := Lib.hid (HTR.out.below hb1)
    have HCt := Lib.hid (HT1.out.below hb1 HT1.out.lt)
    have HCx := Lib.hid (HX1.out.below hb1 HX1.out.lt)
    have HZ2 := Lib.hid (HZ1.out.below hb1 HZ1.out.lt)
    clear hr1 hb1
    have t0 : w2.cell? ⟨g, 0, none⟩ = some (.slice aS s.firm.length cS) := HCt.out.cell 0
    have t1 : w2.cell? ⟨g, 1, none⟩ = some (.slice aL s.loose.length cL) := HCt.out.cell 1
    have t2 : w2.cell? ⟨g, 2, none⟩ = some (.int .i64 (s.nw : Int)) := HCt.out.cell 2
    have t3 : w2.cell? ⟨g, 3, none⟩ = some (.int .i64 (s.nf : Int)) := HCt.out.cell 3
    have t4 : w2.cell? ⟨g, 4, none⟩ = some (.bool f0) := HCt.out.cell 4
    have t5 : w2.cell? ⟨g, 5, none⟩ = some (.int .i64 lf) := HCt.out.cell 5
    have x0 : w2.cell? ⟨(g + 1), 0, none⟩ = some (.int .u8 (kd : Int)) := HCx.out.cell 0
    have x1 : w2.cell? ⟨(g + 1), 1, none⟩ = some (.int .i64 (k : Int)) := HCx.out.cell 1
    have x2 : w2.cell? ⟨(g + 1), 2, none⟩ = some (.slice aB nB cB) := HCx.out.cell 2
    have x3 : w2.cell? ⟨(g + 1), 3, none⟩ = some (.slice aK nK cK) := HCx.out.cell 3
    have x4 : w2.cell? ⟨(g + 1), 4, none⟩ = some (.int .u8 (c.toNat : Int)) := HCx.out.cell 4
    go_wp2_with fail
    go_at_call 34
    refine (refread_any k HTR2.out HK.out HLL.out HOK.out.n).mono ?_
    rintro e w4 ⟨u2, rfl, hr2, hb4⟩
    have hs2 := str28 hr2.1
    have hs1 := str28 (HR1.out.below hb4)
    have HB4 := Lib.hid (HB2.out.trans (hb4.mono HB2.out.size))
    have HTR4 := Lib.hid (HTR2.out.below hb4)
    have HT4 := Lib.hid (HCt.out.below hb4 HCt.out.lt)
    have HZ4 := Lib.hid (HZ2.out.below hb4 HZ2.out.lt)
    clear hr2 hb4 HCt t0 t1 t2 t3 t4 t5 x0 x1 x2 x3 x4
    have HCt := HT4
    have t0 : w4.cell? ⟨g, 0, none⟩ = some (.slice aS s.firm.length cS) := HCt.out.cell 0
    have t1 : w4.cell? ⟨g, 1, none⟩ = some (.slice aL s.loose.length cL) := HCt.out.cell 1
    have t2 : w4.cell? ⟨g, 2, none⟩ = some (.int .i64 (s.nw : Int)) := HCt.out.cell 2
    have t3 : w4.cell? ⟨g, 3, none⟩ = some (.int .i64 (s.nf : Int)) := HCt.out.cell 3
    have t4 : w4.cell? ⟨g, 4, none⟩ = some (.bool f0) := HCt.out.cell 4
    have t5 : w4.cell? ⟨g, 5, none⟩ = some (.int .i64 lf) := HCt.out.cell 5
    have HCz := HZ4
    have z0 : w4.cell? ⟨(g + 1 + 1), 0, none⟩ = some (.slice none 0 0) := HCz.out.cell 0
    have z1 : w4.cell? ⟨(g + 1 + 1), 1, none⟩ = some (.slice none 0 0) := HCz.out.cell 1
    have z2 : w4.cell? ⟨(g + 1 + 1), 2, none⟩ = some (.int .i64 0) := HCz.out.cell 2
    have z3 : w4.cell? ⟨(g + 1 + 1), 3, none⟩ = some (.int .i64 0) := HCz.out.cell 3
    have z4 : w4.cell? ⟨(g + 1 + 1), 4, none⟩ = some (.bool false) := HCz.out.cell 4
    have z5 : w4.cell? ⟨(g + 1 + 1), 5, none⟩ = some (.int .i64 0) := HCz.out.cell 5
    have zf : ∀ i, w4.frozen? ⟨g + 1 + 1, i, none⟩ = false := HZ4.out.frozen
    have zl := HZ4.out.lt
    have r1 : IntKind.i64.wrap 0 = 0 := by decide
    go_wp2
    have hblk := blk_six HZ4.out (.slice aS s.firm.length cS) (.slice aL s.loose.length cL) (.int .i64 (s.nw : Int)) (.int .i64 (s.nf : Int)) (.bool f0) (.int .i64 lf)
    have e0 := hblk.cell 0
    have e1 := hblk.cell 1
    have e2 := hblk.cell 2
    have e3 := hblk.cell 3
    have e4 := hblk.cell 4
    have e5 := hblk.cell 5
    refine bodyPost_ret (v := .tuple #[.agg #[.slice aS s.firm.length cS, .slice aL s.loose.length cL, .int .i64 (s.nw : Int), .int .i64 (s.nf : Int), .bool f0, .int .i64 lf], .bool true]) (by simp [results, Try.results18, go_sem, e0, e1, e2, e3, e4, e5]) rfl ?_
    exact stepR_mk HG.out HDA.out (Fr.trans (D := D) (E := fun _ => False) (w := w) (Fr.refl _ _) ⟨HB4.out.os, HB4.out.tape, HB4.out.output, HB4.out.size, fun k hk _ => HB4.out.block k hk⟩ (fun _ h => h.elim)) HTR4.out ((HD.out.below HB4.out).fr (fr_six (Fr.refl (fun k => k = g + 1 + 1) w4) (.inl rfl) (.slice aS s.firm.length cS) (.slice aL s.loose.length cL) (.int .i64 (s.nw : Int)) (.int .i64 (s.nf : Int)) (.bool f0) (.int .i64 lf)) (fun k hk hd => by have := HDg.out k hd; omega)) (fun k hk => .inl hk) (fr_six (Fr.refl _ _) (.inl (.inr rfl)) (.slice aS s.firm.length cS) (.slice aL s.loose.length cL) (.int .i64 (s.nw : Int)) (.int .i64 (s.nf : Int)) (.bool f0) (.int .i64 lf))
set_option maxRecDepth 100000 in
set_option maxHeartbeats 2000000 in
theorem step_8n {D A : Nat → Prop} {w : World} {v tv uB uK : Value} {s : Sim} {b : List UInt8} {K : List Bool} (kd : Nat) (i : Int) (c : UInt8) (hd : Dev D w v s) (ht : TR A w tv s) (hDA : ∀ k, D k → A k) (hA : ∀ k, A k → k < w.heap.size) (hb : RA A w uB b) (hK : KB A w uK K) (hw : s.nw < 299) (hf : s.nf < 299) (hq : kd % 9 = 8) (hy : c.toNat % 8 = 0) :
    Calls Try.prog 18 #[v, tv, .agg #[.int .u8 (kd : Int), .int .i64 i, uB, uK, .int .u8 (c.toNat : Int)]] w (StepR D A w v (s)) := by
  have HD := Lib.hid hd
  have HT := Lib.hid ht
  have HDA := Lib.hid hDA
  have HA := Lib.hid hA
  have HRB := Lib.hid hb
  have HKB := Lib.hid hK
  have HOK := Lib.hid hd.ok
  obtain ⟨y, rfl, _⟩ := hd
  obtain ⟨vS, vL, lf, rfl, hS, hL, _⟩ := ht
  obtain ⟨aS, cS, rfl, _⟩ := hS.shape
  obtain ⟨aL, cL, rfl, _⟩ := hL.shape
  obtain ⟨f0, hf0⟩ : ∃ f0, f0 = s.fuse.isSome := ⟨_, rfl⟩
  rw [← hf0] at HT ⊢
  obtain ⟨⟨aB, cB, rfl, _⟩, _⟩ := hb
  obtain ⟨aK, cK, rfl, _⟩ := hK
  obtain ⟨nB, hnB⟩ : ∃ nB, nB = b.length := ⟨_, rfl⟩
  obtain ⟨nK, hnK⟩ : ∃ nK, nK = K.length := ⟨_, rfl⟩
  rw [← hnB] at HRB ⊢
  rw [← hnK] at HKB ⊢
  have HW9 := Lib.hid hw
  have HF9 := Lib.hid hf
  have HF0 := Lib.hid hf0
  have k0 : (0 : Int) ≤ (kd : Int) := by omega
  have k1 : (kd : Int) % 9 = 8 := by omega
  have k2 : (kd : Int).tmod 9 = 8 := by rw [Int.tmod_eq_emod_of_nonneg (by omega)]; omega
  have c0 : (0 : Int) ≤ (c.toNat : Int) := by omega
  have c256 : c.toNat < 256 := c.toNat_lt
  have c1 : (c.toNat : Int) % 8 = 0 := by omega
  have c2 : (c.toNat : Int).tmod 8 = 0 := by rw [Int.tmod_eq_emod_of_nonneg (by omega)]; omega
  clear hy
  clear hf0 hnB hnK hS hL hDA hA hw hf hq c256
  go_enter Try.func18, Try.ntmps18
  go_wp2_with fail
  obtain ⟨g, hg⟩ : ∃ g, g = w.heap.size := ⟨_, rfl⟩
  obtain ⟨W1, hW1⟩ : ∃ W1, W1 = ((w.alloc (Obj.cells #[Value.slice aS s.firm.length cS, Value.slice aL s.loose.length cL, Value.int IntKind.i64 ↑s.nw, Value.int IntKind.i64 ↑s.nf, Value.bool f0, Value.int IntKind.i64 lf] 38)).alloc (Obj.cells #[Value.int IntKind.u8 ↑kd, Value.int IntKind.i64 i, Value.slice aB nB cB, Value.slice aK nK cK, Value.int IntKind.u8 ↑c.toNat] 44)).alloc (Obj.cells #[Value.slice none 0 0, Value.slice none 0 0, Value.int IntKind.i64 0, Value.int IntKind.i64 0, Value.bool false, Value.int IntKind.i64 0] 38) := ⟨_, rfl⟩
  rw [← hW1, ← hg]
  have HB1 := Lib.hid (show Below w.heap.size w W1 by rw [hW1]; exact below3 w _ _ _)
  have HT1 := Lib.hid (show Blk W1 g 38 #[Value.slice aS s.firm.length cS, Value.slice aL s.loose.length cL, Value.int IntKind.i64 ↑s.nw, Value.int IntKind.i64 ↑s.nf, Value.bool f0, Value.int IntKind.i64 lf] by rw [hW1, hg]; exact (blk3 w _ _ _ _ _ _).1)
  have HX1 := Lib.hid (show Blk W1 (g + 1) 44 #[Value.int IntKind.u8 ↑kd, Value.int IntKind.i64 i, Value.slice aB nB cB, Value.slice aK nK cK, Value.int IntKind.u8 ↑c.toNat] by rw [hW1, hg]; exact (blk3 w _ _ _ _ _ _).2.1)
  have HZ1 := Lib.hid (show Blk W1 (g + 1 + 1) 38 #[Value.slice none 0 0, Value.slice none 0 0, Value.int IntKind.i64 0, Value.int IntKind.i64 0, Value.bool false, Value.int IntKind.i64 0] by rw [hW1, hg]; exact (blk3 w _ _ _ _ _ _).2.2)
  have HG := Lib.hid hg
  have HGs := Lib.hid (show g + 1 + 1 < W1.heap.size from HZ1.out.lt)
  have HDg := Lib.hid (show ∀ k, D k → k < g from fun k hk => by have := HD.out.lt k hk; omega)
  have HA1 := Lib.hid (show ∀ k, (fun k => A k ∨ k = g ∨ k = g + 1 ∨ k = g + 1 + 1) k → k < W1.heap.size from fun k hk => by have hs := HGs.out; rcases hk with hk | hk | hk | hk; have := HA.out k hk; omega; all_goals omega)
  have HTR := Lib.hid (show TR (fun k => A k ∨ k = g ∨ k = g + 1 ∨ k = g + 1 + 1) W1 _ s from HT.out.fr (D := fun _ => False) (Fr.of_below HB1.out) (fun _ h => h.elim) (fun k hk => by rcases hk with hk | hk | hk | hk; exact .inl hk; all_goals exact .inr (by omega)))
  have HD1 := Lib.hid (HD.out.below HB1.out)
  have HRB1 := Lib.hid (HRB.out.1.below HB1.out)
  have HKB1 := Lib.hid (HKB.out.fr (Fr.of_below HB1.out) (fun _ _ h => h.elim) (E := fun _ => False))
  clear hW1 hg
  cases hh : s.has i with
  | false =>
    have HH := Lib.hid hh
    clear hh
    go_at_call 15
    refine (read_no i HD1.out HH.out).mono ?_
    rintro e w2 ⟨rfl, rfl⟩
    have HCt := HT1
    have t0 : W1.cell? ⟨g, 0, none⟩ = some (.slice aS s.firm.length cS) := HCt.out.cell 0
    have t1 : W1.cell? ⟨g, 1, none⟩ = some (.slice aL s.loose.length cL) := HCt.out.cell 1
    have t2 : W1.cell? ⟨g, 2, none⟩ = some (.int .i64 (s.nw : Int)) := HCt.out.cell 2
    have t3 : W1.cell? ⟨g, 3, none⟩ = some (.int .i64 (s.nf : Int)) := HCt.out.cell 3
    have t4 : W1.cell? ⟨g, 4, none⟩ = some (.bool f0) := HCt.out.cell 4
    have t5 : W1.cell? ⟨g, 5, none⟩ = some (.int .i64 lf) := HCt.out.cell 5
    have HCx := HX1
    have x0 : W1.cell? ⟨(g + 1), 0, none⟩ = some (.int .u8 (kd : Int)) := HCx.out.cell 0
    have x1 : W1.cell? ⟨(g + 1), 1, none⟩ = some (.int .i64 i) := HCx.out.cell 1
    have x2 : W1.cell? ⟨(g + 1), 2, none⟩ = some (.slice aB nB cB) := HCx.out.cell 2
    have x3 : W1.cell? ⟨(g + 1), 3, none⟩ = some (.slice aK nK cK) := HCx.out.cell 3
    have x4 : W1.cell? ⟨(g + 1), 4, none⟩ = some (.int .u8 (c.toNat : Int)) := HCx.out.cell 4
    go_wp2_with fail
    go_at_call 34
    refine (refread_no i HTR.out HH.out).mono ?_
    rintro e w4 ⟨rfl, hb4⟩
    have HB4 := Lib.hid (HB1.out.trans (hb4.mono HB1.out.size))
    have HTR4 := Lib.hid (HTR.out.below hb4)
    have HT4 := Lib.hid (HT1.out.below hb4 HT1.out.lt)
    have HZ4 := Lib.hid (HZ1.out.below hb4 HZ1.out.lt)
    clear hb4 t0 t1 t2 t3 t4 t5 x0 x1 x2 x3 x4
    have HCt := HT4
    have t0 : w4.cell? ⟨g, 0, none⟩ = some (.slice aS s.firm.length cS) := HCt.out.cell 0
    have t1 : w4.cell? ⟨g, 1, none⟩ = some (.slice aL s.loose.length cL) := HCt.out.cell 1
    have t2 : w4.cell? ⟨g, 2, none⟩ = some (.int .i64 (s.nw : Int)) := HCt.out.cell 2
    have t3 : w4.cell? ⟨g, 3, none⟩ = some (.int .i64 (s.nf : Int)) := HCt.out.cell 3
    have t4 : w4.cell? ⟨g, 4, none⟩ = some (.bool f0) := HCt.out.cell 4
    have t5 : w4.cell? ⟨g, 5, none⟩ = some (.int .i64 lf) := HCt.out.cell 5
    have HCz := HZ4
    have z0 : w4.cell? ⟨(g + 1 + 1), 0, none⟩ = some (.slice none 0 0) := HCz.out.cell 0
    have z1 : w4.cell? ⟨(g + 1 + 1), 1, none⟩ = some (.slice none 0 0) := HCz.out.cell 1
    have z2 : w4.cell? ⟨(g + 1 + 1), 2, none⟩ = some (.int .i64 0) := HCz.out.cell 2
    have z3 : w4.cell? ⟨(g + 1 + 1), 3, none⟩ = some (.int .i64 0) := HCz.out.cell 3
    have z4 : w4.cell? ⟨(g + 1 + 1), 4, none⟩ = some (.bool false) := HCz.out.cell 4
    have z5 : w4.cell? ⟨(g + 1 + 1), 5, none⟩ = some (.int .i64 0) := HCz.out.cell 5
    have zf : ∀ i, w4.frozen? ⟨g + 1 + 1, i, none⟩ = false := HZ4.out.frozen
    have zl := HZ4.out.lt
    have hs1 := str28 (RB.nil_ w4)
    have r1 : IntKind.i64.wrap 20 = 20 := by decide
    go_wp2
    have hblk := blk_six HZ4.out (.slice aS s.firm.length cS) (.slice aL s.loose.length cL) (.int .i64 (s.nw : Int)) (.int .i64 (s.nf : Int)) (.bool f0) (.int .i64 lf)
    have e0 := hblk.cell 0
    have e1 := hblk.cell 1
    have e2 := hblk.cell 2
    have e3 := hblk.cell 3
    have e4 := hblk.cell 4
    have e5 := hblk.cell 5
    refine bodyPost_ret (v := .tuple #[.agg #[.slice aS s.firm.length cS, .slice aL s.loose.length cL, .int .i64 (s.nw : Int), .int .i64 (s.nf : Int), .bool f0, .int .i64 lf], .bool true]) (by simp [results, Try.results18, go_sem, e0, e1, e2, e3, e4, e5]) rfl ?_
    exact stepR_mk HG.out HDA.out (Fr.trans (D := D) (E := fun _ => False) (w := w) (Fr.refl _ _) ⟨HB4.out.os, HB4.out.tape, HB4.out.output, HB4.out.size, fun k hk _ => HB4.out.block k hk⟩ (fun _ h => h.elim)) HTR4.out ((HD.out.below HB4.out).fr (fr_six (Fr.refl (fun k => k = g + 1 + 1) w4) (.inl rfl) (.slice aS s.firm.length cS) (.slice aL s.loose.length cL) (.int .i64 (s.nw : Int)) (.int .i64 (s.nf : Int)) (.bool f0) (.int .i64 lf)) (fun k hk hd => by have := HDg.out k hd; omega)) (fun k hk => .inl hk) (fr_six (Fr.refl _ _) (.inl (.inr rfl)) (.slice aS s.firm.length cS) (.slice aL s.loose.length cL) (.int .i64 (s.nw : Int)) (.int .i64 (s.nf : Int)) (.bool f0) (.int .i64 lf))
  | true =>
    have hi := Sim.has_iff.1 hh
    obtain ⟨k, rfl⟩ := Int.eq_ofNat_of_zero_le hi.1
    have hk : k < s.firm.length := by omega
    have HK := Lib.hid hk
    have HLL := Lib.hid (show s.loose.length ≤ 100000 from Nat.le_trans HOK.out.w (by have := HW9.out; omega))
    clear hh hi hk
    go_at_call 15
    refine (read_any k HD1.out HK.out (by have := HW9.out; omega)).mono ?_
    rintro e w2 ⟨u1, rfl, hr1, _, hb1⟩
    have HR1 := Lib.hid hr1
    have HB2 := Lib.hid (HB1.out.trans (hb1.mono HB1.out.size))
    have HTR2 := Lib.hid (HTR.out.below hb1)
    have HCt := Lib.hid (HT1.out.below hb1 HT1.out.lt)
    have HCx := Lib.hid (HX1.out.below hb1 HX1.out.lt)
    have HZ2 := Lib.hid (HZ1.out.below hb1 HZ1.out.lt)
    clear hr1 hb1
    have t0 : w2.cell? ⟨g, 0, none⟩ = some (.slice aS s.firm.length cS) := HCt.out.cell 0
    have t1 : w2.cell? ⟨g, 1, none⟩ = some (.slice aL s.loose.length cL) := HCt.out.cell 1
    have t2 : w2.cell? ⟨g, 2, none⟩ = some (.int .i64 (s.nw : Int)) := HCt.out.cell 2
    have t3 : w2.cell? ⟨g, 3, none⟩ = some (.int .i64 (s.nf : Int)) := HCt.out.cell 3
    have t4 : w2.cell? ⟨g, 4, none⟩ = some (.bool f0) := HCt.out.cell 4
    have t5 : w2.cell? ⟨g, 5, none⟩ = some (.int .i64 lf) := HCt.out.cell 5
    have x0 : w2.cell? ⟨(g + 1), 0, none⟩ = some (.int .u8 (kd : Int)) := HCx.out.cell 0
    have x1 : w2.cell? ⟨(g + 1), 1, none⟩ = some (.int .i64 (k : Int)) := HCx.out.cell 1
    have x2 : w2.cell? ⟨(g + 1), 2, none⟩ = some (.slice aB nB cB) := HCx.out.cell 2
    have x3 : w2.cell? ⟨(g + 1), 3, none⟩ = some (.slice aK nK cK) := HCx.out.cell 3
    have x4 : w2.cell? ⟨(g + 1), 4, none⟩ = some (.int .u8 (c.toNat : Int)) := HCx.out.cell 4
    go_wp2_with fail
    go_at_call 34
    refine (refread_any k HTR2.out HK.out HLL.out HOK.out.n).mono ?_
    rintro e w4 ⟨u2, rfl, hr2, hb4⟩
    have hs2 := str28 hr2.1
    have hs1 := str28 (HR1.out.below hb4)
    have HB4 := Lib.hid (HB2.out.trans (hb4.mono HB2.out.size))
    have HTR4 := Lib.hid (HTR2.out.below hb4)
    have HT4 := Lib.hid (HCt.out.below hb4 HCt.out.lt)
    have HZ4 := Lib.hid (HZ2.out.below hb4 HZ2.out.lt)
    clear hr2 hb4 HCt t0 t1 t2 t3 t4 t5 x0 x1 x2 x3 x4
    have HCt := HT4
    have t0 : w4.cell? ⟨g, 0, none⟩ = some (.slice aS s.firm.length cS) := HCt.out.cell 0
    have t1 : w4.cell? ⟨g, 1, none⟩ = some (.slice aL s.loose.length cL) := HCt.out.cell 1
    have t2 : w4.cell? ⟨g, 2, none⟩ = some (.int .i64 (s.nw : Int)) := HCt.out.cell 2
    have t3 : w4.cell? ⟨g, 3, none⟩ = some (.int .i64 (s.nf : Int)) := HCt.out.cell 3
    have t4 : w4.cell? ⟨g, 4, none⟩ = some (.bool f0) := HCt.out.cell 4
    have t5 : w4.cell? ⟨g, 5, none⟩ = some (.int .i64 lf) := HCt.out.cell 5
    have HCz := HZ4
    have z0 : w4.cell? ⟨(g + 1 + 1), 0, none⟩ = some (.slice none 0 0) := HCz.out.cell 0
    have z1 : w4.cell? ⟨(g + 1 + 1), 1, none⟩ = some (.slice none 0 0) := HCz.out.cell 1
    have z2 : w4.cell? ⟨(g + 1 + 1), 2, none⟩ = some (.int .i64 0) := HCz.out.cell 2
    have z3 : w4.cell? ⟨(g + 1 + 1), 3, none⟩ = some (.int .i64 0) := HCz.out.cell 3
    have z4 : w4.cell? ⟨(g + 1 + 1), 4, none⟩ = some (.bool false) := HCz.out.cell 4
    have z5 : w4.cell? ⟨(g + 1 + 1), 5, none⟩ = some (.int .i64 0) := HCz.out.cell 5
    have zf : ∀ i, w4.frozen? ⟨g + 1 + 1, i, none⟩ = false := HZ4.out.frozen
    have zl := HZ4.out.lt
    have r1 : IntKind.i64.wrap 0 = 0 := by decide
    go_wp2
    have hblk := blk_six HZ4.out (.slice aS s.firm.length cS) (.slice aL s.loose.length cL) (.int .i64 (s.nw : Int)) (.int .i64 (s.nf : Int)) (.bool f0) (.int .i64 lf)
    have e0 := hblk.cell 0
    have e1 := hblk.cell 1
    have e2 := hblk.cell 2
    have e3 := hblk.cell 3
    have e4 := hblk.cell 4
    have e5 := hblk.cell 5
    refine bodyPost_ret (v := .tuple #[.agg #[.slice aS s.firm.length cS, .slice aL s.loose.length cL, .int .i64 (s.nw : Int), .int .i64 (s.nf : Int), .bool f0, .int .i64 lf], .bool true]) (by simp [results, Try.results18, go_sem, e0, e1, e2, e3, e4, e5]) rfl ?_
    exact stepR_mk HG.out HDA.out (Fr.trans (D := D) (E := fun _ => False) (w := w) (Fr.refl _ _) ⟨HB4.out.os, HB4.out.tape, HB4.out.output, HB4.out.size, fun k hk _ => HB4.out.block k hk⟩ (fun _ h => h.elim)) HTR4.out ((HD.out.below HB4.out).fr (fr_six (Fr.refl (fun k => k = g + 1 + 1) w4) (.inl rfl) (.slice aS s.firm.length cS) (.slice aL s.loose.length cL) (.int .i64 (s.nw : Int)) (.int .i64 (s.nf : Int)) (.bool f0) (.int .i64 lf)) (fun k hk hd => by have := HDg.out k hd; omega)) (fun k hk => .inl hk) (fr_six (Fr.refl _ _) (.inl (.inr rfl)) (.slice aS s.firm.length cS) (.slice aL s.loose.length cL) (.int .i64 (s.nw : Int)) (.int .i64 (s.nf : Int)) (.bool f0) (.int .i64 lf))
end Go.Proofs.Ytpaahbohbnfibaa
