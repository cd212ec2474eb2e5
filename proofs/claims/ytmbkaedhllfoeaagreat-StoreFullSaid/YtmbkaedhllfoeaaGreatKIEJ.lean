/-
 The contract of the statements' own pair: a device, and the document's own one beside it.; Deeds that came in: how they lie; the contract of the statements' own much.; The walk of StoreGets: it answers true of any deeds and key.; Changes as literals, whose bytes are made on the spot.; The contracts of a device and of a store that lie apart from given blocks: these stay.; Plain mathematics of StoreFull: rows of the same size, and one less. No program.; The walk of StoreAgain: it answers true of any number, deeds, numbers and marks that no machine has trouble with.; The walk of StoreFull: it answers true of any number, choices and number of commits.
-/
import Derived.BigQuiet
import Derived.Test.YtmbkaedhllfoeaaGreatKIC
import Derived.Test.YtmbkaedhllfoeaaGreatKIJ
import Derived.Test.YtmbkaedhllfoeaaGreatKICD
import Derived.Test.YtmbkaedhllfoeaaGreatKICE
import Derived.Test.YtmbkaedhllfoeaaGreatKIDC
import Derived.Test.YtmbkaedhllfoeaaGreatKIEI
set_option linter.unusedVariables false
namespace Go.Proofs.YtmbkaedhllfoeaaGreat
open Go.RowKit Go.Rst Go.Dv Go.Crc Go.Str Go.Pg
theorem leavePR {W : World} {tmps : Array Value} {g : Nat} {z0 z1 z2 z3 z4 z5 d : Value} (h4 : tmps.getD 3 undef = .pointer (some ⟨g, 0, none⟩)) (h5 : tmps.getD 2 undef = d) (hb : Dv.Blk W g 29 #[z0, z1, z2, z3, z4, z5]) :
  (results Tryz.f11 tmps).run Tryz.prog W = .ok (.tuple #[d, .agg #[z0, z1, z2, z3, z4, z5]]) W := by
 have r0 := hb.cell 0
 have r1 := hb.cell 1
 have r2 := hb.cell 2
 have r3 := hb.cell 3
 have r4 := hb.cell 4
 have r5 := hb.cell 5
 simp at r0 r1 r2 r3 r4 r5
 rw [Array.getD_eq_getD_getElem?] at h4 h5

 simp [results, h4, h5, r0, r1, r2, r3, r4, r5, go_sem]
def sixD (w : World) (g : Nat) (v0 v1 v2 v3 v4 v5 : Value) : World := ((((((w.setCell ⟨g, 0, none⟩ v0).setCell ⟨g, 1, none⟩ v1).setCell ⟨g, 2, none⟩ v2).setCell ⟨g, 3, none⟩ v3).setCell ⟨g, 4, none⟩ v4).setCell ⟨g, 5, none⟩ v5).drew
theorem sixD_far {w : World} {g b : Nat} {t : TypeId} {cs : Array Value} (h : Dv.Blk w b t cs) (hne : b ≠ g) (v0 v1 v2 v3 v4 v5 : Value) : Dv.Blk (sixD w g v0 v1 v2 v3 v4 v5) b t cs := by
 have h6 := (((((h.far (p := ⟨g, 0, none⟩) hne v0).far (p := ⟨g, 1, none⟩) hne v1).far (p := ⟨g, 2, none⟩) hne v2).far (p := ⟨g, 3, none⟩) hne v3).far (p := ⟨g, 4, none⟩) hne v4).far (p := ⟨g, 5, none⟩) hne v5
 unfold sixD
 exact h6.below (Below.refl _ _).drew h6.lt
theorem sixD_here {w : World} {g : Nat} {t : TypeId} {z0 z1 z2 z3 z4 z5 : Value} (h : Dv.Blk w g t #[z0, z1, z2, z3, z4, z5]) (v0 v1 v2 v3 v4 v5 : Value) : Dv.Blk (sixD w g v0 v1 v2 v3 v4 v5) g t #[v0, v1, v2, v3, v4, v5] := by
 have h6 := blk_six h v0 v1 v2 v3 v4 v5
 unfold sixD
 exact h6.below (Below.refl _ _).drew h6.lt
theorem sixD_fr (w : World) (g : Nat) (v0 v1 v2 v3 v4 v5 : Value) : Fr (fun j => j = g) w (sixD w g v0 v1 v2 v3 v4 v5) := (fr_six (Fr.refl (fun j => j = g) w) (.inl rfl) v0 v1 v2 v3 v4 v5).drew
theorem sixD_def (w : World) (g : Nat) (v0 v1 v2 v3 v4 v5 : Value) : ((((((w.setCell ⟨g, 0, none⟩ v0).setCell ⟨g, 1, none⟩ v1).setCell ⟨g, 2, none⟩ v2).setCell ⟨g, 3, none⟩ v3).setCell ⟨g, 4, none⟩ v4).setCell ⟨g, 5, none⟩ v5).drew = sixD w g v0 v1 v2 v3 v4 v5 := rfl
set_option maxRecDepth 100000 in
set_option maxHeartbeats 2000000 in
theorem pair_any (k : Nat) (hk : k ≤ 255) (w : World) : Calls Tryz.prog 11 #[.int .u8 (k : Int)] w fun e w' => ∃ dg tv, e = .returned (.tuple #[dp dg, tv]) ∧
  (∃ (D : Nat → Prop) (m : Nat), Dev D w' (dp dg) (Sim.new (sizeN k)) ∧ (∀ j, D j → w.heap.size ≤ j ∧ j < m) ∧ TRd (fun j => j < m) w' tv (Sim.new (sizeN k))) ∧ Below w.heap.size w w' := by
 obtain ⟨s1, s2⟩ := sizeN_in k
 have hs := fun X => size_any k hk X
 obtain ⟨n, hn⟩ : ∃ n, n = sizeN k := ⟨_, rfl⟩
 rw [← hn] at hs s1 s2 ⊢
 have HSZ := Lib.hid hs
 clear hs hn
 obtain ⟨Z, hZ⟩ : ∃ Z, Z = Obj.cells (tsD (.slice none 0 0)) 29 := ⟨_, rfl⟩
 have HZ := Lib.hid hZ
 clear hZ
 go_enter Tryz.func11, Tryz.ntmps11
 go_wp2_with (go_at_call 27; refine (HSZ.out _).mono ?_; rintro e w1 ⟨rfl, hb1⟩)
 have hbz : Below w.heap.size w (w.alloc (Obj.cells (tsD (.slice none 0 0)) 29)) := (Below.refl _ _).alloc (Nat.le_refl _) _
 have hk0 : Dv.Blk (w.alloc (Obj.cells (tsD (.slice none 0 0)) 29)) w.heap.size 29 (tsD (.slice none 0 0)) := heap_alloc_new w _
 have hbw1 : Below w.heap.size w w1 := hbz.trans (hb1.mono hbz.size)
 have hk1 := hk0.below hb1 hk0.lt
 refine (own_new (B := w1.heap.size) n w1 (by omega) (Nat.le_refl _)).mono ?_
 rintro e w2 ⟨dg, rfl, hown, hb2⟩
 have HK2 := Lib.hid (hk1.below hb2 hk1.lt)
 have HB2 := Lib.hid (hbw1.trans (hb2.mono hbw1.size))
 obtain ⟨D, hD1, hD2, hD3⟩ := hown
 have HD := Lib.hid hD1
 have HDB := Lib.hid (fun k (hk : D k) => Nat.le_trans hbw1.size (hD2 k hk))
 have HLD := Lib.hid (fun k (hk : D k) => Nat.lt_of_lt_of_le hk1.lt (hD2 k hk))
 clear hb1 hb2 hk0 hk1 hbz hbw1 hD1 hD2 hD3
 go_wp2_with (go_at_call 27; refine (HSZ.out _).mono ?_; rintro e w3 ⟨rfl, hb3⟩)
 have hk3 := HK2.out.below hb3 HK2.out.lt
 have hd3 := HD.out.below hb3
 have hbw3 := HB2.out.trans (hb3.mono HB2.out.size)
 refine (refnew_any (A := fun j => j < w3.heap.size) n w3 (by omega) (fun k hk => hk)).mono ?_
 rintro e w4 ⟨tv, rfl, htr, hb4⟩
 have HTR := Lib.hid htr
 obtain ⟨vS, vL, lf, c2, c3, rfl, hS, hL, _⟩ := htr
 obtain ⟨aS, cS, rfl, _⟩ := hS.shape
 obtain ⟨aL, cL, rfl, _⟩ := hL.shape
 rw [show (Sim.new n).loose.length = 0 from rfl, show (Sim.new n).fuse.isSome = false from rfl, new_firm] at HTR ⊢
 have HK4 := Lib.hid (hk3.below hb4 hk3.lt)
 have HD4 := Lib.hid (hd3.below hb4)
 have HB4 := Lib.hid (hbw3.trans (hb4.mono hbw3.size))
 have HLT := Lib.hid hd3.lt
 have HSW3 := Lib.hid (show w.heap.size < w3.heap.size from hk3.lt)
 have HS34 := Lib.hid hb4.size
 clear hk3 hd3 hbw3 hb3 hb4 hS hL
 obtain ⟨Q, hQ⟩ : ∃ Q, Q = Obj.cells #[.slice aS n cS, .slice aL 0 cL, .int .i64 c2, .int .i64 c3, .bool false, .int .i64 lf] 29 := ⟨_, rfl⟩
 have hk5 : Dv.Blk (w4.alloc Q) w4.heap.size 29 #[.slice aS n cS, .slice aL 0 cL, .int .i64 c2, .int .i64 c3, .bool false, .int .i64 lf] := by rw [hQ]; exact heap_alloc_new w4 _
 have hb5 : Below w4.heap.size w4 (w4.alloc Q) := (Below.refl _ _).alloc (Nat.le_refl _) _
 have HK5 := Lib.hid (show Dv.Blk (w4.alloc Q) w4.heap.size 29 #[.slice aS n cS, .slice aL 0 cL, .int .i64 c2, .int .i64 c3, .bool false, .int .i64 lf] from hk5)
 have HK0 := Lib.hid (HK4.out.below hb5 HK4.out.lt)
 have HB5 := Lib.hid hb5
 have HQ := Lib.hid hQ
 have HNE := Lib.hid (show w4.heap.size ≠ w.heap.size by have := HK4.out.lt; omega)
 clear hk5 hb5 hQ
 go_wp2_with fail
 rw [← HQ.out]
 refine wp_region_held_drew (S := fun X => Dv.Blk X w4.heap.size 29 #[.slice aS n cS, .slice aL 0 cL, .int .i64 c2, .int .i64 c3, .bool false, .int .i64 lf] ∧ True) (by kernel_rfl) ⟨HK5.out, trivial⟩ (fun hHeld => ?_)
 refine wpAnyH_take (i := 0) (oi := { dst := some 16, op := Op.move (Operand.tmp 4), type := 25, pos := "law.go:49", after := #[], guard := none }) (v := ?_) rfl (by kernel_rfl) (by kernel_rfl) (by kernel_rfl) (fun _ _ _ h => h) (Or.inl ⟨by rfl, ?_⟩) (by assumption) ?_
 rotate_left
 ·intro X hSw; go_simp; try (with_reducible rfl)
 try simp only [Act.put, List.setIfInBounds_toArray, List.set_cons_zero, List.set_cons_succ]
 refine wpAnyH_take (i := 1) (oi := { dst := some 17, op := Op.load 29 (Operand.tmp 5), type := 29, pos := "law.go:49", after := #[{ on := 2, ground := Ground.gcOnly Departure.lateStores }], guard := none }) (v := ?_) rfl (by kernel_rfl) (by kernel_rfl) (by kernel_rfl) (fun _ _ _ h => h) (Or.inl ⟨by rfl, ?_⟩) (by assumption) ?_
 rotate_left
 ·intro X hSw; have z0 := hSw.1.cell 0; have z1 := hSw.1.cell 1; have z2 := hSw.1.cell 2; have z3 := hSw.1.cell 3; have z4 := hSw.1.cell 4; have z5 := hSw.1.cell 5; simp at z0 z1 z2 z3 z4 z5; go_simp; try (with_reducible rfl)
 try simp only [Act.put, List.setIfInBounds_toArray, List.set_cons_zero, List.set_cons_succ]
 refine wpAnyH_take (i := 2) (oi := { dst := some 2, op := Op.assign (Operand.tmp 16), type := 25, pos := "law.go:49", after := #[{ on := 0, ground := Ground.data }, { on := 0, ground := Ground.phase }, { on := 1, ground := Ground.textOnly Departure.lateStores }], guard := none }) (v := ?_) rfl (by kernel_rfl) (by kernel_rfl) (by kernel_rfl) (fun _ _ _ h => h) (Or.inl ⟨by rfl, ?_⟩) (by assumption) ?_
 rotate_left
 ·intro X hSw; go_simp; try (with_reducible rfl)
 try simp only [Act.put, List.setIfInBounds_toArray, List.set_cons_zero, List.set_cons_succ]
 refine wpAnyH_ready (rs := [3]) (by kernel_rfl) (by simp) ?_
 refine AllReadyH.cons (o := { dst := none, op := Op.store 29 (Operand.tmp 3) (Operand.tmp 17), type := 0, pos := "law.go:49", after := #[{ on := 1, ground := Ground.data }, { on := 2, ground := Ground.chain }, { on := 0, ground := Ground.phase }, { on := 1, ground := Ground.phase }, { on := 2, ground := Ground.phase }], guard := none }) rfl (fun K hK => ?_) AllReadyH.nil
 have y0 := HK0.out.cell 0; have y1 := HK0.out.cell 1; have y2 := HK0.out.cell 2; have y3 := HK0.out.cell 3; have y4 := HK0.out.cell 4; have y5 := HK0.out.cell 5; unfold tsD at y0 y1 y2 y3 y4 y5; simp at y0 y1 y2 y3 y4 y5
 have yf0 := HK0.out.frozen 0
 have yf1 := HK0.out.frozen 1
 have yf2 := HK0.out.frozen 2
 have yf3 := HK0.out.frozen 3
 have yf4 := HK0.out.frozen 4
 have yf5 := HK0.out.frozen 5
 go_simp
 rw [sixD_def]
 clear y0 y1 y2 y3 y4 y5 yf0 yf1 yf2 yf3 yf4 yf5
 have hHeld' := (show Dv.Blk (sixD (w4.alloc Q) w.heap.size (.slice aS n cS) (.slice aL 0 cL) (.int .i64 c2) (.int .i64 c3) (.bool false) (.int .i64 lf)) w4.heap.size 29 #[.slice aS n cS, .slice aL 0 cL, .int .i64 c2, .int .i64 c3, .bool false, .int .i64 lf] ∧ True from ⟨sixD_far HK5.out HNE.out _ _ _ _ _ _, trivial⟩)
 refine hK.out _ _ ?_ (fun _ => ?_)
 ·exact hHeld'
 clear hK K hHeld
 have hHeld := hHeld'
 clear hHeld'
 try simp only [Act.put, List.setIfInBounds_toArray, List.set_cons_zero, List.set_cons_succ]
 refine wpAnyH_done (by kernel_rfl) ?_ _
 clear hHeld
 have hblk := sixD_here (w := w4.alloc Q) (g := w.heap.size) (by have h := HK0.out; unfold tsD at h; exact h) (.slice aS n cS) (.slice aL 0 cL) (.int .i64 c2) (.int .i64 c3) (.bool false) (.int .i64 lf)
 have hfr := sixD_fr (w4.alloc Q) w.heap.size (.slice aS n cS) (.slice aL 0 cL) (.int .i64 c2) (.int .i64 c3) (.bool false) (.int .i64 lf)
 generalize (sixD (w4.alloc Q) w.heap.size (.slice aS n cS) (.slice aL 0 cL) (.int .i64 c2) (.int .i64 c3) (.bool false) (.int .i64 lf)) = W6 at hblk hfr ⊢
 have HBK := Lib.hid hblk
 have HFR := Lib.hid hfr
 clear hblk hfr
 go_wp2
 refine bodyPost_ret (leavePR rfl rfl HBK.out) rfl ?_
 have hb5 := HB5.out
 have hlt := HS34.out
 have hw3 := HSW3.out
 have hf := (Fr.of_below (D := fun j => j = w.heap.size) hb5).trans HFR.out (fun _ h => .inl h)
 refine ⟨_, _, rfl, ⟨D, w3.heap.size, HD4.out.fr hf (fun j hj hd => ?_), fun j hj => ⟨HDB.out j hj, HLT.out j hj⟩, HTR.out.fr hf (fun j hj => ?_) (fun j hj => .inl hj)⟩, HB4.out.trans (hf.below (fun j hj => ?_) HB4.out.size)⟩
 ·have := HLD.out j hd; omega
 ·omega
 ·omega
end Go.Proofs.YtmbkaedhllfoeaaGreat
namespace Go.Proofs.YtmbkaedhllfoeaaGreat
open Go.RowKit Go.Rst Go.Dv Go.Crc Go.Str Go.Pg
def BK (w : World) (v : Value) (K : List Bool) : Prop :=
 ∃ A c, v = .slice A K.length c ∧ (K = [] ∨ ∃ b off, A = some ⟨b, off, none⟩ ∧ b < w.heap.size ∧ ∀ j (h : j < K.length), w.cell? ⟨b, off + j, none⟩ = some (.bool K[j]))
structure Deed where
 kind : Nat
 c : List UInt8
 keep : List Bool
 fuse : Nat
def DeedAt (w : World) (b o : Nat) (x : Deed) : Prop :=
 w.cell? ⟨b, o, none⟩ = some (.int .u8 (x.kind : Int)) ∧ (∃ u, w.cell? ⟨b, o + 1, none⟩ = some u ∧ RB w u x.c) ∧ (∃ u, w.cell? ⟨b, o + 2, none⟩ = some u ∧ BK w u x.keep) ∧ w.cell? ⟨b, o + 3, none⟩ = some (.int .u8 (x.fuse : Int)) ∧
  x.kind ≤ 255 ∧ x.fuse ≤ 255 ∧ x.c.length ≤ 140737488351232 ∧ x.keep.length ≤ 140737488351232
def DS (w : World) (v : Value) (l : List Deed) : Prop :=
 ∃ A c, v = .slice A l.length c ∧ l.length ≤ 140737488351232 ∧ (l = [] ∨ ∃ b off, A = some ⟨b, off, none⟩ ∧ b < w.heap.size ∧ ∀ j (h : j < l.length), DeedAt w b (off + j * 4) l[j])
theorem BK.below {w w' : World} {v : Value} {K : List Bool} (h : BK w v K) (hb : Below w.heap.size w w') : BK w' v K := by
 obtain ⟨A, c, rfl, h1⟩ := h
 refine ⟨A, c, rfl, ?_⟩
 rcases h1 with h1 | ⟨b, off, rfl, hbb, hc⟩
 ·exact .inl h1
 ·exact .inr ⟨b, off, rfl, Nat.lt_of_lt_of_le hbb hb.size, fun j hj => (hb.cell (p := ⟨b, off + j, none⟩) hbb).trans (hc j hj)⟩
theorem BK.kb {w : World} {v : Value} {K : List Bool} (h : BK w v K) {D : Nat → Prop} (hD : ∀ k, D k → w.heap.size ≤ k) : KB D w v K := by
 obtain ⟨A, c, rfl, h1⟩ := h
 exact ⟨A, c, rfl, h1.imp id fun ⟨b, off, e, hb, hc⟩ => ⟨b, off, e, hb, fun hd => by have := hD b hd; omega, hc⟩⟩
theorem DS.below {w w' : World} {v : Value} {l : List Deed} (h : DS w v l) (hb : Below w.heap.size w w') : DS w' v l := by
 obtain ⟨A, c, rfl, h1, h2⟩ := h
 refine ⟨A, c, rfl, h1, ?_⟩
 rcases h2 with h2 | ⟨b, off, rfl, hbb, hd⟩
 ·exact .inl h2
 ·refine .inr ⟨b, off, rfl, Nat.lt_of_lt_of_le hbb hb.size, fun j hj => ?_⟩
  obtain ⟨d0, ⟨u1, d2, d3⟩, ⟨u2, d4, d5⟩, d6, d7⟩ := hd j hj
  have e : ∀ o, w'.cell? ⟨b, o, none⟩ = w.cell? ⟨b, o, none⟩ := fun o => hb.cell (p := ⟨b, o, none⟩) hbb
  exact ⟨(e _).trans d0, ⟨u1, (e _).trans d2, d3.below hb⟩, ⟨u2, (e _).trans d4, d5.below hb⟩, (e _).trans d6, d7⟩
theorem DS.at_ {w : World} {A : Option Addr} {c m k : Nat} {l : List Deed} (h : DS w (.slice A m c) l) (hm : m = l.length) (hk : k < m) :
  ∃ b off x, A = some ⟨b, off, none⟩ ∧ b < w.heap.size ∧ l[k]? = some x ∧ DeedAt w b (off + k * 4) x := by
 subst hm
 obtain ⟨A', c', he, _, h2⟩ := h
 injection he with he _ _
 subst he
 rcases h2 with h2 | ⟨b, off, rfl, hb, hd⟩
 ·rw [h2] at hk; cases hk
 ·exact ⟨b, off, _, rfl, hb, List.getElem?_eq_getElem hk, hd k hk⟩
end Go.Proofs.YtmbkaedhllfoeaaGreat
namespace Go.Proofs.YtmbkaedhllfoeaaGreat
open Go.RowKit Go.Rst Go.Dv Go.Crc Go.Str Go.Pg
theorem size_open (k : Nat) : openR (formatS (Sim.new (sizeN k))) = (0, openedS (Sim.new (sizeN k))) ∧ InvS (openedS (Sim.new (sizeN k))) ∧ (openedS (Sim.new (sizeN k))).d.fuse = none ∧ (openedS (Sim.new (sizeN k))).n = sizeN k ∧ (formatS (Sim.new (sizeN k))).loose = [] ∧ 64 ≤ (formatS (Sim.new (sizeN k))).firm.length := by
 obtain ⟨h1, h2⟩ := sizeN_in k
 have h := open_format (s := Sim.new (sizeN k)) (OK.new (by omega)) rfl rfl (by rw [new_firm]; exact h1)
 rw [new_firm] at h
 exact h
theorem pair_own {k : Nat} {w w' : World} {dg : Nat} {tv : Value} {B : Nat} (hB : B ≤ w.heap.size) (h : (∃ (D : Nat → Prop) (m : Nat), Dev D w' (dp dg) (Sim.new (sizeN k)) ∧ (∀ j, D j → w.heap.size ≤ j ∧ j < m) ∧ TRd (fun j => j < m) w' tv (Sim.new (sizeN k)))) (hs : w.heap.size ≤ w'.heap.size) :
  Dv.Own B w' (dp dg) (Sim.new (sizeN k)) ∧ ∃ v0 v1 v2 v3 v4 v5, tv = .agg #[v0, v1, v2, v3, v4, v5] ∧ (∃ a c, v0 = .slice a (sizeN k) c) ∧ (∃ c a, v1 = .slice a 0 c) ∧ (∃ n, v2 = .int .i64 n) ∧ (∃ n, v3 = .int .i64 n) ∧ (∃ n, v4 = .bool n) ∧ (∃ n, v5 = .int .i64 n) := by
 obtain ⟨D, m, h1, h2, vS, vL, lf, c2, c3, rfl, hS, hL, _⟩ := h
 obtain ⟨aS, cS, rfl, _⟩ := hS.shape
 obtain ⟨aL, cL, rfl, _⟩ := hL.shape
 rw [new_firm]
 exact ⟨⟨D, h1, fun j hj => Nat.le_trans hB (h2 j hj).1, Nat.le_trans hB hs⟩, _, _, _, _, _, _, rfl, ⟨_, _, rfl⟩, ⟨_, _, rfl⟩, ⟨_, rfl⟩, ⟨_, rfl⟩, ⟨_, rfl⟩, ⟨_, rfl⟩⟩
end Go.Proofs.YtmbkaedhllfoeaaGreat
namespace Go.Proofs.YtmbkaedhllfoeaaGreat
open Go.RowKit Go.Rst Go.Dv Go.Crc Go.Str Go.Pg
theorem rb_two {W w : World} {p q : Nat} (hp : p ≤ 255) (hq : q ≤ 255) (h : w = W.alloc (.cells #[.int .u8 (p : Int), .int .u8 (q : Int)] 5) ∨ w = (W.alloc (.cells #[.int .u8 (p : Int), .int .u8 (q : Int)] 5)).drew) :
  RB w (.slice (some ⟨W.heap.size, 0, none⟩) 2 2) [UInt8.ofNat p, UInt8.ofNat q] := by
 have e : #[Value.int .u8 (p : Int), .int .u8 (q : Int)] = (bvs [UInt8.ofNat p, UInt8.ofNat q]).toArray := by
  have h1 := bv_nat (n := p) (by omega)
  have h2 := bv_nat (n := q) (by omega)
  simp [bvs, ← h1, ← h2]
 have hf : FB 5 (W.alloc (.cells #[.int .u8 (p : Int), .int .u8 (q : Int)] 5)) 0 (.slice (some ⟨W.heap.size, 0, none⟩) 2 2) [UInt8.ofNat p, UInt8.ofNat q] := fb_lit (Nat.zero_le _) e rfl (by omega)
 rcases h with rfl | rfl
 ·exact hf.rb
 ·exact (FB.drew hf).rb
theorem oc_drew {w : World} {b0 : Nat} {v : Value} {cs : List Chg} (h : OC 5 76 w b0 v cs) : OC 5 76 w.drew b0 v cs := h.below (Below.refl _ _).drew
theorem oc_lit_ {W w : World} {b0 : Nat} {k : ByteArray} {u : Value} {l : List UInt8} {g : Bool} (hu : FB 5 W b0 u l) (hb : b0 ≤ W.heap.size) (h : w = W.alloc (.cells #[.string k, u, .bool g] 76) ∨ w = (W.alloc (.cells #[.string k, u, .bool g] 76)).drew) :
  OC 5 76 w b0 (.slice (some ⟨W.heap.size, 0, none⟩) 1 1) [(k, l, g)] := by
 rcases h with rfl | rfl
 ·exact oc_lit1 hu hb
 ·exact oc_drew (oc_lit1 hu hb)
theorem fb_made {w : World} {b0 g n : Nat} (h : w.ownsRow b0 5 1 (.slice (some ⟨g, 0, none⟩) n n) n (madeCells (Value.int .u8 0).cells (n * 1)).toList) : FB 5 w b0 (.slice (some ⟨g, 0, none⟩) n n) (List.replicate n 0) := by
 have e : (madeCells (Value.int .u8 0).cells (n * 1)).toList = bvs (List.replicate n 0) := by
  rw [Nat.mul_one]
  exact madeL n
 rw [e] at h
 have := FB.own (l := List.replicate n 0) (by simpa using h)
 simpa using this
end Go.Proofs.YtmbkaedhllfoeaaGreat
namespace Go.Proofs.YtmbkaedhllfoeaaGreat
open Go.RowKit Go.Rst Go.Dv Go.Crc Go.Str Go.Pg
def OwnX (P : Nat → Prop) (B : Nat) (w : World) (v : Value) (s : Sim) : Prop := ∃ D : Nat → Prop, Dev D w v s ∧ (∀ k, D k → B ≤ k ∧ ¬ P k) ∧ B ≤ w.heap.size ∧ ∀ k, P k → k < w.heap.size
def OwnSX (P : Nat → Prop) (B dg : Nat) (w : World) (sv : Value) (x : Ss) : Prop := ∃ M : Nat → Prop, Sto dg M w sv x ∧ (∀ k, M k → B ≤ k ∧ ¬ P k) ∧ B ≤ w.heap.size ∧ ∀ k, P k → k < w.heap.size
structure Stay (P : Nat → Prop) (B : Nat) (w w' : World) : Prop where
 bel : Below B w w'
 same : ∀ k, P k → w'.heap[k]? = w.heap[k]?
section
variable {P P' : Nat → Prop} {B dg : Nat} {w w' w0 : World} {sv v : Value} {x : Ss} {s : Sim}
theorem Stay.ro (h : Stay P B w w') {rv : Value} {rs : List Rw} (hr : RO P w rv rs) : RO P w' rv rs := hr.keep h.bel.size h.same
theorem Stay.trans_ {a : World} (h : Stay P B a w) (k : Stay P B w w') : Stay P B a w' := ⟨h.bel.trans k.bel, fun j hj => (k.same j hj).trans (h.same j hj)⟩
theorem Stay.of_below (h : Below w.heap.size w w') (hB : B ≤ w.heap.size) (hP : ∀ k, P k → k < w.heap.size) : Stay P B w w' := ⟨h.mono hB, fun k hk => h.block k (hP k hk)⟩
theorem ro_more {R R' : Nat → Prop} {rv : Value} {rs : List Rw} (h : RO R w rv rs) (hR : ∀ k, R k → R' k) : RO R' w rv rs := fun w' h1 h2 => h w' h1 (fun k hk => h2 k (hR k hk))
theorem OwnX.below (h : OwnX P B w v s) (hb : Below w.heap.size w w') : OwnX P B w' v s := by
 obtain ⟨D, h1, h2, h3, h4⟩ := h
 exact ⟨D, h1.below hb, h2, Nat.le_trans h3 hb.size, fun k hk => Nat.lt_of_lt_of_le (h4 k hk) hb.size⟩
theorem OwnSX.below (h : OwnSX P B dg w sv x) (hb : Below w.heap.size w w') : OwnSX P B dg w' sv x := by
 obtain ⟨D, h1, h2, h3, h4⟩ := h
 exact ⟨D, h1.below hb, h2, Nat.le_trans h3 hb.size, fun k hk => Nat.lt_of_lt_of_le (h4 k hk) hb.size⟩
theorem OwnSX.own (h : OwnSX P B dg w sv x) : OwnS B dg w sv x := by
 obtain ⟨M, h1, h2, h3, h4⟩ := h
 exact ⟨M, h1, fun k hk => (h2 k hk).1, h3⟩
theorem OwnS.sx (h : OwnS B dg w sv x) : OwnSX (fun _ => False) B dg w sv x := by
 obtain ⟨M, h1, h2, h3⟩ := h
 exact ⟨M, h1, fun k hk => ⟨h2 k hk, fun h => h⟩, h3, fun _ h => h.elim⟩
theorem OwnSX.dev (h : OwnSX P B dg w sv x) : OwnX P B w (dp dg) x.d := by
 obtain ⟨M, ⟨D, R, g, rv, _, h1⟩, h2, h3⟩ := h
 exact ⟨D, h1.dev, fun k hk => h2 k ((h1.hM k).2 (.inl hk)), h3⟩
theorem OwnSX.more (h : OwnSX P B dg w sv x) (hb : Below w.heap.size w w') (hP : ∀ k, P' k → P k ∨ (w.heap.size ≤ k ∧ k < w'.heap.size)) : OwnSX P' B dg w' sv x := by
 obtain ⟨M, h1, h2, h3, h4⟩ := h
 refine ⟨M, h1.below hb, fun k hk => ⟨(h2 k hk).1, fun hp => ?_⟩, Nat.le_trans h3 hb.size, fun k hk => ?_⟩
 ·rcases hP k hp with h | h
  ·exact (h2 k hk).2 h
  ·have := h1.lt k hk; omega
 ·rcases hP k hk with h | h
  ·have := h4 k h; have := hb.size; omega
  ·exact h.2
theorem OwnX.more (h : OwnX P B w v s) (hb : Below w.heap.size w w') (hP : ∀ k, P' k → P k ∨ (w.heap.size ≤ k ∧ k < w'.heap.size)) : OwnX P' B w' v s := by
 obtain ⟨M, h1, h2, h3, h4⟩ := h
 refine ⟨M, h1.below hb, fun k hk => ⟨(h2 k hk).1, fun hp => ?_⟩, Nat.le_trans h3 hb.size, fun k hk => ?_⟩
 ·rcases hP k hp with h | h
  ·exact (h2 k hk).2 h
  ·have := h1.lt k hk; omega
 ·rcases hP k hk with h | h
  ·have := h4 k h; have := hb.size; omega
  ·exact h.2
theorem sdid_x {M : Nat → Prop} (hM : ∀ k, M k → B ≤ k ∧ ¬ P k) (hB : B ≤ w.heap.size) (hP : ∀ k, P k → k < w.heap.size) (h : SDid dg M w sv x w') : OwnSX P B dg w' sv x ∧ Stay P B w w' := by
 obtain ⟨E, h1, h2, h3⟩ := h
 refine ⟨⟨E, h1, fun k hk => ?_, Nat.le_trans hB h2.size, fun k hk => Nat.lt_of_lt_of_le (hP k hk) h2.size⟩, h2.below (fun k hk => (hM k hk).1) hB, fun k hk => h2.block k (hP k hk) (fun hd => (hM k hd).2 hk)⟩
 rcases h3 k hk with h | h
 ·exact hM k h
 ·exact ⟨Nat.le_trans hB h, fun hp => by have := hP k hp; omega⟩
theorem sx_commit {lv : Value} {cs : List Chg} (h : OwnSX P B dg w0 sv x) (hbel : Below w0.heap.size w0 w) (hG : GoodX x) (hc : OC 5 76 w w0.heap.size lv cs) (hcn : cs.length ≤ 5000) (hcs : sizesC cs ≤ 90000) :
  Calls Tryz.prog 25 #[sv, lv] w fun e w' => e = .returned (.int .u16 ((commitR x cs).2 : Int)) ∧ OwnSX P B dg w' sv (commitR x cs).1 ∧ Stay P B w w' ∧ OC 5 76 w' w0.heap.size lv cs := by
 obtain ⟨M, h1, h2, h3, h4⟩ := h
 obtain ⟨q1, q2⟩ := chgsB_few cs hcs
 refine (commit_any (h1.below hbel) hG (oc_co hc h1.lt) (by omega) (by omega) q2).mono ?_
 rintro e w' ⟨he, hd⟩
 obtain ⟨a1, a2⟩ := sdid_x h2 (Nat.le_trans h3 hbel.size) (fun k hk => Nat.lt_of_lt_of_le (h4 k hk) hbel.size) hd
 obtain ⟨M', _, d2, _⟩ := hd
 exact ⟨he, a1, a2, oc_fr hc d2 h1.lt⟩
end
end Go.Proofs.YtmbkaedhllfoeaaGreat
namespace Go.Proofs.YtmbkaedhllfoeaaGreat
open Go.RowKit Go.Rst Go.Dv Go.Crc Go.Str Go.Pg
theorem fit_few {n : Nat} {l : List Rw} (hs : Sorted l) (hn : l.length ≤ 40) (hr : ∀ r ∈ l, r.1.size ≤ 2 ∧ r.2.length ≤ 150) : fitB n l = decide (pgs l ≤ aN n) := by
 obtain ⟨ps, h1, h2, _⟩ := build_two hs hn hr
 unfold fitB
 rw [h1]
 simp only
 rw [h2]
theorem chgsL_one (c : Chg) : (chgsL [c]).length = 1 + (chgL c).length := by
 unfold chgsL
 have h1 : (numL 1).length = 1 := by decide +kernel
 have h2 : chgsB [c] = chgL c := by simp [chgsB]
 rw [List.length_append, h2, List.length_singleton, h1]
theorem one_commit {x : Ss} {k : ByteArray} {v : List UInt8} {g : Bool} (hI : InvS x) (hk : k.size ≤ 2) (hv : v.length ≤ 150) (hep : x.ep < 1073741824) :
  ((commitR x [(k, v, g)]).2 = if fitB x.n (stepL x.rows (k, v, g)) = true then 0 else 21) ∧ ((commitR x [(k, v, g)]).2 = 0 → (commitR x [(k, v, g)]).1.rows = stepL x.rows (k, v, g)) := by
 have hG := hI.good
 have hJ := (aN_pos hG.n).2
 have hlong : ([(k, v, g)] : List Chg).any longC = false := by
  simp only [List.any_cons, List.any_nil, Bool.or_false]
  unfold longC
  rw [decide_eq_false (by show ¬ 30 < k.size; omega), decide_eq_false (by show ¬ 150 < v.length; omega)]
  rfl
 have hcl : (chgsL [(k, v, g)]).length ≤ 176 := by
  rw [chgsL_one]
  have := chgL_few (k, v, g) (by show k.size ≤ _; omega) (by show v.length ≤ _; omega)
  show 1 + (chgL (k, v, g)).length ≤ 176
  have h2 : (chgL (k, v, g)).length ≤ 18 + (k.size + v.length) := this
  omega
 have hof : ofL (chgsL [(k, v, g)]) ≤ 5 := by unfold ofL; omega
 have hp : ∀ e f : Nat, e ≤ 1073741824 → f ≤ 1073741824 → (partsL (e : Int) (f : Int) [(k, v, g)]).2 = true := by
  intro e f he hf
  unfold partsL
  rw [if_neg (by omega), if_neg (by omega)]
 have hfr : x.fr ≤ 1073741824 := by have := hG.fr; have := hG.us; have := jN_le x.n; have := hG.ok.n; have : x.n ≤ 4096 := hG.ok.n; omega
 have hp1 := hp x.ep x.fr (by omega) hfr
 have hpl := parts_count hp1
 have ha : applyL x.rows [(k, v, g)] = stepL x.rows (k, v, g) := rfl
 have hj2 := (aN_pos hG.n).2
 unfold commitR
 rw [if_neg (by simp), if_neg (by rw [hlong]; decide), if_neg (by rw [hp1, hpl]; rintro (h | h); cases h; omega), ha]
 by_cases hf : fitB x.n (stepL x.rows (k, v, g)) = true
 ·rw [if_neg (by rw [hf]; decide), if_pos hf]
  by_cases hr : x.us + (partsL (x.ep : Int) (x.fr : Int) [(k, v, g)]).1.length ≤ jN x.n
  ·rw [if_pos hr]
   exact ⟨rfl, fun _ => rfl⟩
  ·rw [if_neg hr, if_neg (by omega)]
   exact ⟨rfl, fun _ => rfl⟩
 ·have hf' : fitB x.n (stepL x.rows (k, v, g)) = false := by simpa using hf
  rw [if_pos hf', if_neg hf]
  exact ⟨rfl, fun h => (by cases h)⟩
def keyN (i : Nat) : ByteArray := ⟨#[UInt8.ofNat (97 + i % 26), UInt8.ofNat (97 + i / 26)]⟩
theorem keyN_inj {i j : Nat} (hi : i < 40) (hj : j < 40) (h : keyN i = keyN j) : i = j := by
 unfold keyN at h
 injection h with h
 have h1 := congrArg (fun a : Array UInt8 => (a.getD 0 0).toNat) h
 have h2 := congrArg (fun a : Array UInt8 => (a.getD 1 0).toNat) h
 simp at h1 h2
 omega
theorem keyN_size (i : Nat) : (keyN i).size = 2 := rfl
def RowsV (V j : Nat) (rs : List Rw) : Prop := Sorted rs ∧ ∀ r ∈ rs, (∃ i, i < j ∧ r.1 = keyN i) ∧ r.2 = List.replicate V 0
theorem rsz_v {V : Nat} {r : Rw} {i : Nat} (hV : V ≤ 149) (h1 : r.1 = keyN i) (h2 : r.2 = List.replicate V 0) : rsz r = 5 + (numL V).length + V - 1 := by
 have hs : r.1.data.toList.length = 2 := by rw [h1]; rfl
 have hn : (numL 2).length = 1 := by decide +kernel
 have hp := numL_pos V
 unfold rsz rowB rowL textL
 simp only [List.length_append]
 rw [hs, hn, h2, List.length_replicate]
 omega
theorem RowsV.same {V j : Nat} {rs : List Rw} (h : RowsV V j rs) (hV : V ≤ 149) : ∀ r ∈ rs, r.1.size ≤ 30 ∧ r.2.length ≤ 150 ∧ rsz r = 5 + (numL V).length + V - 1 := by
 intro r hr
 obtain ⟨⟨i, _, h1⟩, h2⟩ := h.2 r hr
 refine ⟨by rw [h1, keyN_size]; omega, by rw [h2, List.length_replicate]; omega, rsz_v hV h1 h2⟩
theorem RowsV.few {V j : Nat} {rs : List Rw} (h : RowsV V j rs) (hV : V ≤ 149) : ∀ r ∈ rs, r.1.size ≤ 2 ∧ r.2.length ≤ 150 := by
 intro r hr
 obtain ⟨⟨i, _, h1⟩, h2⟩ := h.2 r hr
 exact ⟨by rw [h1, keyN_size]; exact Nat.le_refl _, by rw [h2, List.length_replicate]; omega⟩
theorem RowsV.new {V j : Nat} {rs : List Rw} (h : RowsV V j rs) (hj : j < 40) : hasL (keyN j) rs = false := by
 cases hh : hasL (keyN j) rs with
 | false => rfl
 | true =>
  exfalso
  unfold hasL at hh
  split at hh
  ·rename_i y e
   have hy : y ∈ rs := List.mem_of_getElem? e
   obtain ⟨⟨i, hi, h1⟩, _⟩ := h.2 y hy
   have h2 : y.1 = keyN j := ba_ext (eq_of_beq hh)
   rw [h1] at h2
   have := keyN_inj (by omega) hj h2
   omega
  ·cases hh
theorem RowsV.put {V j : Nat} {rs : List Rw} (h : RowsV V j rs) (hj : j < 40) : RowsV V (j + 1) (stepL rs (keyN j, List.replicate V 0, false)) ∧ (stepL rs (keyN j, List.replicate V 0, false)).length = rs.length + 1 := by
 have hn := h.new hj
 have hp := posL_le (keyN j) rs
 refine ⟨⟨stepL_sorted h.1, fun r hr => ?_⟩, ?_⟩
 ·rw [step_ins h.1 hn] at hr
  rcases List.mem_append.1 hr with hr | hr
  ·obtain ⟨⟨i, hi, h1⟩, h2⟩ := h.2 r (List.mem_of_mem_take hr)
   exact ⟨⟨i, by omega, h1⟩, h2⟩
  ·rcases List.mem_cons.1 hr with rfl | hr
   ·exact ⟨⟨j, by omega, rfl⟩, rfl⟩
   ·obtain ⟨⟨i, hi, h1⟩, h2⟩ := h.2 r (List.mem_of_mem_drop hr)
    exact ⟨⟨i, by omega, h1⟩, h2⟩
 ·rw [step_ins h.1 hn, List.length_append, List.length_cons, List.length_take, List.length_drop]
  omega
theorem RowsV.more {V j j' : Nat} {rs : List Rw} (h : RowsV V j rs) (hj : j ≤ j') : RowsV V j' rs := ⟨h.1, fun r hr => by
 obtain ⟨⟨i, hi, h1⟩, h2⟩ := h.2 r hr
 exact ⟨⟨i, by omega, h1⟩, h2⟩⟩
theorem sorted_out {r : Rw} {rs : List Rw} (h : Sorted (r :: rs)) : stepL (r :: rs) (r.1, [], true) = rs := by
 have h2 := List.pairwise_cons.1 h
 show (if true = true then outL r.1 (r :: rs) else _) = rs
 rw [if_pos rfl, outL_cons, if_pos (by exact beq_self_eq_true _)]
 exact outL_same (fun y hy => lt_beq (h2.1 y hy))
theorem RowsV.less {V j n : Nat} {r : Rw} {rs : List Rw} (h : RowsV V j (r :: rs)) (hV : V ≤ 149) (hV2 : 100 ≤ V) (hl : (r :: rs).length ≤ 40) (hf : fitB n (r :: rs) = true) : RowsV V j rs ∧ fitB n rs = true := by
 have h' : RowsV V j rs := ⟨(List.pairwise_cons.1 h.1).2, fun y hy => h.2 y (List.mem_cons_of_mem _ hy)⟩
 refine ⟨h', ?_⟩
 rw [fit_few h.1 hl (h.few hV), decide_eq_true_eq] at hf
 rw [fit_few h'.1 (by rw [List.length_cons] at hl; omega) (h'.few hV), decide_eq_true_eq]
 have hnl := numL_len 1 V (by omega)
 have hp := numL_pos V
 exact Nat.le_trans (pgs_less (by omega) (by omega) (by rw [List.length_cons]; omega) (h.same hV) (h'.same hV)) hf
end Go.Proofs.YtmbkaedhllfoeaaGreat
namespace Go.Proofs.YtmbkaedhllfoeaaGreat
open Go.RowKit Go.Rst Go.Dv Go.Crc Go.Str Go.Pg
theorem putS_fuse {x : Ss} {cs : List Chg} (h : x.d.fuse = none) : (putS x cs).d.fuse = none := flush_fuse (writeL_fuse h _ _ _)
theorem ckS_fuse {x : Ss} (h : x.d.fuse = none) : (ckS x).d.fuse = none := layS_fuse h _ _ _
theorem commit_fuse {x : Ss} (cs : List Chg) (h : x.d.fuse = none) : (commitR x cs).1.d.fuse = none := by
 unfold commitR
 split
 ·exact h
 ·split
  ·exact h
  ·split
   ·exact h
   ·split
    ·exact h
    ·split
     ·exact putS_fuse h
     ·split
      ·exact h
      ·exact putS_fuse (ckS_fuse h)
end Go.Proofs.YtmbkaedhllfoeaaGreat
namespace Go.Proofs.YtmbkaedhllfoeaaGreat
open Go.RowKit Go.Rst Go.Dv Go.Crc Go.Str Go.Pg
structure FI (V n j : Nat) (x : Ss) : Prop where
 inv : InvS x
 n : x.n = n
 fu : x.d.fuse = none
 ep : x.ep ≤ 2 + j
 rows : RowsV V j x.rows
 len : x.rows.length ≤ j
theorem FI.put {V n j : Nat} {x : Ss} (h : FI V n j x) (hj : j < 40) (hV : V ≤ 149) :
  FI V n (j + 1) (commitR x [(keyN j, List.replicate V 0, false)]).1 ∧ (((commitR x [(keyN j, List.replicate V 0, false)]).2 = 0 ∧ (commitR x [(keyN j, List.replicate V 0, false)]).1.rows.length = x.rows.length + 1) ∨ ((commitR x [(keyN j, List.replicate V 0, false)]).2 = 21 ∧ (commitR x [(keyN j, List.replicate V 0, false)]).1.rows = x.rows)) := by
 have hr : readChgs (chgsL [(keyN j, List.replicate V 0, false)]) = ([(keyN j, List.replicate V 0, false)], 0) := by
  refine readChgs_back _ (by simp) (fun c hc => ?_)
  simp only [List.mem_singleton] at hc
  subst hc
  exact ⟨by show (keyN j).data.toList.length ≤ 30; rw [size_list, keyN_size]; omega, by show (List.replicate V (0 : UInt8)).length ≤ 150; rw [List.length_replicate]; omega, fun h => by cases h⟩
 obtain ⟨s1, s2, s3, _, _, s6, s7⟩ := commit_step (cs := [(keyN j, List.replicate V 0, false)]) h.inv (fun _ => hr)
 obtain ⟨o1, o2⟩ := one_commit (k := keyN j) (v := List.replicate V 0) (g := false) h.inv (by rw [keyN_size]; exact Nat.le_refl _) (by rw [List.length_replicate]; omega) (by have := h.ep; omega)
 have hf := commit_fuse [(keyN j, List.replicate V 0, false)] h.fu
 generalize commitR x [(keyN j, List.replicate V 0, false)] = R at *
 obtain ⟨p1, p2⟩ := h.rows.put hj
 by_cases h0 : R.2 = 0
 ·have hrw := o2 h0
  refine ⟨⟨s1, s2.trans h.n, hf, by have := h.ep; omega, by rw [hrw]; exact p1, by rw [hrw, p2]; have := h.len; omega⟩, .inl ⟨h0, by rw [hrw]; exact p2⟩⟩
 ·have hx := s7 h0
  rw [hx]
  refine ⟨⟨h.inv, h.n, h.fu, by have := h.ep; omega, h.rows.more (by omega), by have := h.len; omega⟩, .inr ⟨?_, rfl⟩⟩
  rw [o1] at h0 ⊢
  split
  ·rename_i hc
   rw [if_pos hc] at h0
   exact (h0 rfl).elim
  ·rfl
theorem FI.less {V n j : Nat} {x : Ss} {r : Rw} {rs : List Rw} (h : FI V n j x) (hj : j ≤ 40) (hV : V ≤ 149) (hV2 : 100 ≤ V) (hr : x.rows = r :: rs) :
  (commitR x [(r.1, [], true)]).2 = 0 ∧ (commitR x [(r.1, [], true)]).1.rows = rs ∧ InvS (commitR x [(r.1, [], true)]).1 ∧ (commitR x [(r.1, [], true)]).1.d.fuse = none ∧ (commitR x [(r.1, [], true)]).1.n = n ∧ (commitR x [(r.1, [], true)]).1.ep ≤ 50 := by
 have hrows := h.rows
 have hlen := h.len
 have hfit := good_fit h.inv.good
 rw [hr] at hrows hlen hfit
 obtain ⟨⟨i, _, hk⟩, _⟩ := hrows.2 r List.mem_cons_self
 have hrc : readChgs (chgsL [(r.1, [], true)]) = ([(r.1, [], true)], 0) := by
  refine readChgs_back _ (by simp) (fun c hc => ?_)
  simp only [List.mem_singleton] at hc
  subst hc
  exact ⟨by show r.1.data.toList.length ≤ 30; rw [size_list, hk, keyN_size]; omega, by simp, fun _ => rfl⟩
 obtain ⟨s1, s2, s3, _, _, s6, s7⟩ := commit_step (cs := [(r.1, [], true)]) h.inv (fun _ => hrc)
 obtain ⟨o1, o2⟩ := one_commit (k := r.1) (v := []) (g := true) h.inv (by rw [hk, keyN_size]; exact Nat.le_refl _) (by simp) (by have := h.ep; omega)
 have hf := commit_fuse [(r.1, [], true)] h.fu
 have hst : stepL x.rows (r.1, [], true) = rs := by rw [hr]; exact sorted_out hrows.1
 rw [hst] at o1 o2
 rw [if_pos (hrows.less hV hV2 (by omega) hfit).2] at o1
 exact ⟨o1, o2 o1, s1, hf, s2.trans h.n, by have := h.ep; omega⟩
theorem open_again {x : Ss} (hI : InvS x) (hf : x.d.fuse = none) (he : x.ep ≤ 50) : ∃ y, openR x.d = (0, y) ∧ InvS y ∧ y.rows = x.rows ∧ x.d.loose = [] ∧ 64 ≤ x.d.firm.length := by
 have hg := goes_none hf
 obtain ⟨y, a1, a2, a3, _⟩ := open_step hI.good.ok (hI.live hg).1 (hI.rcv hg) (by omega)
 exact ⟨y, a1, a2, a3, (hI.live hg).1, hI.good.n⟩
theorem sizes_key (j : Nat) {V : Nat} (hV : V ≤ 149) : sizesC [(keyN j, List.replicate V (0 : UInt8), false)] ≤ 90000 := by
 simp only [sizesC, List.map_cons, List.map_nil, List.sum_cons, List.sum_nil, List.length_replicate, keyN_size]
 omega
theorem sizes_gone {k : ByteArray} (hk : k.size ≤ 30) : sizesC [(k, ([] : List UInt8), true)] ≤ 90000 := by
 simp only [sizesC, List.map_cons, List.map_nil, List.sum_cons, List.sum_nil, List.length_nil]
 omega
theorem sto_open {B dg : Nat} {w : World} {sv : Value} {x y : Ss} (h : OwnS B dg w sv x) (hn : 64 ≤ x.d.firm.length) (hlo : x.d.loose = []) (ho : openR x.d = (0, y)) :
  Calls Tryz.prog 14 #[dp dg] w fun e w' => ∃ sv2, e = .returned (.tuple #[sv2, .int .u16 0]) ∧ OwnS B dg w' sv2 y ∧ OwnS B dg w' sv { x with d := y.d } ∧ Below B w w' := by
 obtain ⟨M, ⟨D, R, g, rv, h0, h1⟩, h2, h3⟩ := h
 refine (open_any h1.dev hn (by rw [hlo]; exact Nat.zero_le _) (fun _ => hlo)).mono ?_
 rintro e w' ⟨sv2, he, h4⟩
 rw [ho] at he h4
 rcases h4 with ⟨a1, _⟩ | ⟨_, M', a2, a3, a4⟩
 ·exact (a1 rfl).elim
 ·have hDM : ∀ k, D k → M k := fun k hk => (h1.hM k).2 (.inl hk)
  have hs := a3.size
  refine ⟨sv2, he, ⟨M', a2, fun k hk => ?_, Nat.le_trans h3 hs⟩, ?_, a3.below (fun k hk => h2 k (hDM k hk)) h3⟩
  ·rcases a4 k hk with h | h
   ·exact h2 k (hDM k h)
   ·exact Nat.le_trans h3 h
  ·obtain ⟨D2, R2, g2, rv2, _, q1⟩ := a2
   refine ⟨_, ⟨D2, R, g, rv, h0, h1.redev a3 q1.dev (fun k hk => a4 k ((q1.hM k).2 (.inl hk)))⟩, fun k hk => ?_, Nat.le_trans h3 hs⟩
   rcases hk with h | h | h
   ·rcases a4 k ((q1.hM k).2 (.inl h)) with h | h
    ·exact h2 k (hDM k h)
    ·exact Nat.le_trans h3 h
   ·exact h2 k ((h1.hM k).2 (.inr (.inl h)))
   ·exact h2 k ((h1.hM k).2 (.inr (.inr h)))
theorem own_rowsD {B dg : Nat} {w : World} {sv : Value} {x : Ss} {s : Sim} (h : OwnS B dg w sv { x with d := s }) (hG : GoodX x) : Calls Tryz.prog 32 #[sv] w fun e w' => ∃ v, e = .returned v ∧ OR 5 78 w' w.heap.size v x.rows ∧ Below w.heap.size w w' := by
 obtain ⟨M, h1, _⟩ := h
 have h2 := rowsS_any (x := { x with d := s }) h1 (by have := (rows_few_ hG).2; show x.rows.length ≤ _; omega) (fun r hr => by have := rows_val hG r hr; omega)
 exact h2
theorem below_dl {B : Nat} {w w' : World} (h : Below B w w') : Below B w.drew w' := ⟨h.os, h.tape, h.output, h.size, h.block⟩
set_option maxRecDepth 100000 in
set_option maxHeartbeats 6000000 in
theorem full_walk (k : Nat) (cv : Value) (l : List UInt8) (n : Nat) (w : World) (hk : k ≤ 255) (hc : RB w cv l) (hcl : l.length ≤ 140737488351232) (hn : n ≤ 255) :
  Calls Tryz.prog 7 #[.int .u8 (k : Int), cv, .int .u8 (n : Int)] w fun e w' => e = .returned (.bool true) ∧ Below w.heap.size w w' := by
 obtain ⟨A, c, rfl⟩ := rb_shape hc
 obtain ⟨i5, hi5, hz5, hs5, hb5⟩ := info_parts info5
 have HI5 := Lib.hid hi5
 have HZ5 := Lib.hid hz5
 have HS5 := Lib.hid hs5
 have HB5' := Lib.hid hb5
 clear hi5 hz5 hs5 hb5
 obtain ⟨K3, hK3⟩ : ∃ K3, K3 = k % 3 := ⟨_, rfl⟩
 have hm3 : (k : Int).tmod 3 = (K3 : Int) := by rw [Int.tmod_eq_emod_of_nonneg (by omega)]; omega
 have hk3 : K3 ≤ 255 := by omega
 have hw3 : IntKind.u8.wrap (K3 : Int) = (K3 : Int) := by rw [IntKind.wrap_u8]; omega
 obtain ⟨V, hV⟩ : ∃ V, V = 100 + k % 50 := ⟨_, rfl⟩
 have HVE := Lib.hid hV
 have HKE := Lib.hid hK3
 have HB1 := Lib.hid (Below.refl w.heap.size w)
 have HKN := Lib.hid knownS_any
 have HSZ := Lib.hid (sizeN_in K3)
 have hV1 : V ≤ 149 := by omega
 have hV2 : 100 ≤ V := by omega
 have HV1 := Lib.hid hV1
 have HV2 := Lib.hid hV2
 obtain ⟨N, hN⟩ : ∃ N, N = n % 40 := ⟨_, rfl⟩
 have hmn : (n : Int).tmod 40 = (N : Int) := by rw [Int.tmod_eq_emod_of_nonneg (by omega)]; omega
 have hN40 : N < 40 := by omega
 clear hK3 hV hN hV1 hV2 hc
 go_enter Tryz.func7, Tryz.ntmps7
 go_wp2_with fail
 go_at_call 11
 refine (pair_any K3 hk3 w).mono ?_
 rintro e w2 ⟨dg, tv, rfl, hpr, hb2⟩
 obtain ⟨hown, v0, v1, v2, v3, v4, v5, rfl, ⟨_, _, rfl⟩, ⟨_, _, rfl⟩, ⟨_, rfl⟩, ⟨_, rfl⟩, ⟨_, rfl⟩, ⟨_, rfl⟩⟩ := pair_own (B := w.heap.size) HB1.out.size hpr hb2.size
 obtain ⟨o1, o2, o3, o4, o5, o6⟩ := size_open K3
 have hof := fun X (hX : Below w2.heap.size w2 X) => own_formatS (w := X) (hown.below hX) (by rw [new_firm]; exact (sizeN_in K3).1) (Nat.zero_le _)
 obtain ⟨Y, hY⟩ : ∃ Y, Y = openedS (Sim.new (sizeN K3)) := ⟨_, rfl⟩
 obtain ⟨Q, hQ⟩ : ∃ Q, Q = formatS (Sim.new (sizeN K3)) := ⟨_, rfl⟩
 have hYe : Y.ep = 2 ∧ Y.rows = [] := by rw [hY]; exact ⟨rfl, rfl⟩

 rw [← hY] at o1 o2 o3 o4
 rw [← hQ] at o1 o5 o6 hof
 have HOF := Lib.hid hof
 have HO1 := Lib.hid o1
 have HI := Lib.hid o2
 have HFU := Lib.hid o3
 have HYN := Lib.hid o4
 have HYE := Lib.hid hYe
 have HO5 := Lib.hid o5
 have HO6 := Lib.hid o6
 have HB2 := Lib.hid (HB1.out.trans (hb2.mono HB1.out.size))
 clear hpr hb2 hown o1 o2 o3 o4 o5 o6 hof hY hQ hYe
 go_wp2_with fail
 go_at_call 12
 refine (HOF.out _ ((Below.refl _ _).alloc (Nat.le_refl _) _)).mono ?_
 rintro e w3 ⟨rfl, hown3, hb3⟩
 have hb3' := (HB2.out.alloc HB2.out.size _).trans hb3
 have HB3 := Lib.hid hb3'
 have HOP := Lib.hid (own_openOk hown3 HO6.out HO5.out HO1.out)
 clear hown3 hb3 hb3'
 by_cases hl1 : 100 < l.length
 ·have hl2 : (100 : Int) < (l.length : Int) := by omega
  go_wp2_with fail
  go_at_call 10
  refine (HKN.out _).mono ?_
  rintro e wk ⟨rfl, hbk⟩
  have HBK := Lib.hid (HB3.out.trans (hbk.mono HB3.out.size))
  clear hbk
  go_wp2
  go_ret
  exact ⟨rfl, HBK.out⟩
 have hl2 : ¬ (100 : Int) < (l.length : Int) := by omega
 clear hl1
 go_wp2_with fail
 go_at_call 14
 refine HOP.out.mono ?_
 rintro e w4 ⟨sv, rfl, hst, hb4⟩
 have HB4 := Lib.hid (HB3.out.trans hb4)
 obtain ⟨g, rfl⟩ := hst.ptr
 have HST := Lib.hid hst
 clear hst hb4
 go_wp2_with fail
 go_loopw [11] (fun i wr => ∃ (j : Nat) (x : Ss), j ≤ N ∧ i = .int .i64 j ∧ FI V (sizeN K3) j x ∧ OwnS w.heap.size dg wr (.pointer (some ⟨g, 0, none⟩)) x ∧ Below w.heap.size w wr) (fun i _ => N - (intOf i).toNat)
 case atStart => exact ⟨0, Y, Nat.zero_le _, rfl, ⟨HI.out, HYN.out, HFU.out, by rw [HYE.out.1]; omega, by rw [HYE.out.2]; exact ⟨List.Pairwise.nil, fun r hr => by cases hr⟩, by rw [HYE.out.2]; exact Nat.le_refl _⟩, HST.out, HB4.out⟩
 case round =>
  obtain ⟨j, x, hj, rfl, hfi, hS, hbw⟩ := hrel
  have HIx := Lib.hid hfi
  have HSx := Lib.hid hS
  have HBw := Lib.hid hbw
  clear hfi hS hbw
  by_cases hlt : j < N
  ·have hlt2 : (j : Int) < (N : Int) := by omega
   have HRW := Lib.hid (own_rowsS HSx.out HIx.out.inv.good)
   go_wp2_with fail
   go_at_call 32
   refine HRW.out.mono ?_
   rintro e w7 ⟨rv7, rfl, hor7, hb7⟩
   obtain ⟨A7, c7, hrv7⟩ := or_shape hor7
   subst hrv7
   obtain ⟨P', hP'⟩ : ∃ P' : Nat → Prop, P' = fun k => wr.heap.size ≤ k ∧ k < w7.heap.size := ⟨_, rfl⟩
   have hsx7 : OwnSX P' w.heap.size dg w7 (.pointer (some ⟨g, 0, none⟩)) x := HSx.out.sx.more hb7 (fun k hk => by rw [hP'] at hk; exact .inr hk)
   have hrn7 : RO P' w7 (.slice A7 x.rows.length c7) x.rows := ro_more (or_ro hor7 (Nat.le_refl _)) (fun k hk => by rw [hP']; exact hk)
   have HS7 := Lib.hid hsx7
   have HN7 := Lib.hid hrn7
   clear hsx7 hrn7 hP'
   have HB7 := Lib.hid (HBw.out.trans (hb7.mono HBw.out.size))
   clear hor7 hb7
   obtain ⟨p, hp⟩ : ∃ p, p = j % 26 := ⟨_, rfl⟩
   obtain ⟨q, hq⟩ : ∃ q, q = j / 26 := ⟨_, rfl⟩
   obtain ⟨P1, hP1⟩ : ∃ P1, P1 = 97 + p := ⟨_, rfl⟩
   obtain ⟨Q1, hQ1⟩ : ∃ Q1, Q1 = 97 + q := ⟨_, rfl⟩
   obtain ⟨c5, hc5⟩ : ∃ c5, c5 = k % 50 := ⟨_, rfl⟩
   have m1 : (j : Int).tmod 26 = (p : Int) := by rw [Int.tmod_eq_emod_of_nonneg (by omega)]; omega
   have m2 : (j : Int).tdiv 26 = (q : Int) := by rw [Int.tdiv_eq_ediv_of_nonneg (by omega)]; omega
   have m3 : IntKind.u8.wrap (p : Int) = (p : Int) := by rw [IntKind.wrap_u8]; omega
   have m4 : IntKind.u8.wrap (q : Int) = (q : Int) := by rw [IntKind.wrap_u8]; omega
   have m5 : IntKind.u8.wrap (97 + (p : Int)) = (P1 : Int) := by rw [IntKind.wrap_u8]; omega
   have m6 : IntKind.u8.wrap (97 + (q : Int)) = (Q1 : Int) := by rw [IntKind.wrap_u8]; omega
   have m7 : (k : Int).tmod 50 = (c5 : Int) := by rw [Int.tmod_eq_emod_of_nonneg (by omega)]; omega
   have m8 : IntKind.i64.wrap (100 + (c5 : Int)) = (V : Int) := by rw [IntKind.wrap_i64]; have := HVE.out; omega
   have m9 : IntKind.u8.wrap (c5 : Int) = (c5 : Int) := by rw [IntKind.wrap_u8]; omega
   have m10 : IntKind.i64.wrap (q : Int) = (q : Int) := by rw [IntKind.wrap_i64]; omega
   have m11 : IntKind.i64.wrap (p : Int) = (p : Int) := by rw [IntKind.wrap_i64]; omega
   have m12 : IntKind.i64.wrap (c5 : Int) = (c5 : Int) := by rw [IntKind.wrap_i64]; omega
   have hkey : keyN j = ⟨#[UInt8.ofNat P1, UInt8.ofNat Q1]⟩ := by unfold keyN; rw [hP1, hQ1, hp, hq]
   have hP255 : P1 ≤ 255 := by omega
   have hQ255 : Q1 ≤ 255 := by omega
   have hc50 : c5 < 50 := by omega
   have hp26 : p < 26 := by omega
   have hq2 : q < 2 := by omega
   have HKEY := Lib.hid hkey
   have HBY := Lib.hid (show i5.bytes * V ≤ 281474976710656 by rw [HB5'.out]; have := HV1.out; omega)
   have HVM := Lib.hid (show V ≤ maxLen by unfold maxLen; have := HV1.out; omega)
   clear hp hq hP1 hQ1 hc5 hkey
   go_wp2_with fail
   refine wp_region_held_drew (S := SB [w7]) (by kernel_rfl) (SB.start _) (fun hHeld => ?_)
   refine wpAnyH_take (i := 0) (oi := { dst := some 53, op := Op.move (Operand.tmp 11), type := 3, pos := "law.go:216", after := #[], guard := none }) (v := ?_) rfl (by kernel_rfl) (by kernel_rfl) (by kernel_rfl) (fun _ _ _ h => h) (Or.inl ⟨by rfl, ?_⟩) (by assumption) ?_
   rotate_left
   ·intro W hSw; go_simp; try (with_reducible rfl)
   try simp only [Act.put, List.setIfInBounds_toArray, List.set_cons_zero, List.set_cons_succ]
   refine wpAnyH_take (i := 1) (oi := { dst := some 54, op := Op.binOp BinOp.rem 3 (Operand.tmp 53) (Operand.const (Value.int IntKind.i64 26)) 3, type := 3, pos := "law.go:216", after := #[{ on := 0, ground := Ground.data }], guard := none }) (v := ?_) rfl (by kernel_rfl) (by kernel_rfl) (by kernel_rfl) (fun _ _ _ h => h) (Or.inl ⟨by rfl, ?_⟩) (by assumption) ?_
   rotate_left
   ·intro W hSw; go_simp; try (with_reducible rfl)
   try simp only [Act.put, List.setIfInBounds_toArray, List.set_cons_zero, List.set_cons_succ]
   refine wpAnyH_take (i := 2) (oi := { dst := some 55, op := Op.convert 3 5 (Operand.tmp 54), type := 5, pos := "law.go:216", after := #[{ on := 1, ground := Ground.data }], guard := none }) (v := ?_) rfl (by kernel_rfl) (by kernel_rfl) (by kernel_rfl) (fun _ _ _ h => h) (Or.inl ⟨by rfl, ?_⟩) (by assumption) ?_
   rotate_left
   ·intro W hSw; go_simp; try (with_reducible rfl)
   try simp only [Act.put, List.setIfInBounds_toArray, List.set_cons_zero, List.set_cons_succ]
   refine wpAnyH_take (i := 3) (oi := { dst := some 56, op := Op.binOp BinOp.add 5 (Operand.const (Value.int IntKind.u8 97)) (Operand.tmp 55) 5, type := 5, pos := "law.go:216", after := #[{ on := 2, ground := Ground.data }], guard := none }) (v := ?_) rfl (by kernel_rfl) (by kernel_rfl) (by kernel_rfl) (fun _ _ _ h => h) (Or.inl ⟨by rfl, ?_⟩) (by assumption) ?_
   rotate_left
   ·intro W hSw; go_simp; try (with_reducible rfl)
   try simp only [Act.put, List.setIfInBounds_toArray, List.set_cons_zero, List.set_cons_succ]
   refine wpAnyH_take (i := 4) (oi := { dst := some 57, op := Op.move (Operand.tmp 11), type := 3, pos := "law.go:216", after := #[], guard := none }) (v := ?_) rfl (by kernel_rfl) (by kernel_rfl) (by kernel_rfl) (fun _ _ _ h => h) (Or.inl ⟨by rfl, ?_⟩) (by assumption) ?_
   rotate_left
   ·intro W hSw; go_simp; try (with_reducible rfl)
   try simp only [Act.put, List.setIfInBounds_toArray, List.set_cons_zero, List.set_cons_succ]
   refine wpAnyH_take (i := 5) (oi := { dst := some 58, op := Op.binOp BinOp.quo 3 (Operand.tmp 57) (Operand.const (Value.int IntKind.i64 26)) 3, type := 3, pos := "law.go:216", after := #[{ on := 4, ground := Ground.data }], guard := none }) (v := ?_) rfl (by kernel_rfl) (by kernel_rfl) (by kernel_rfl) (fun _ _ _ h => h) (Or.inl ⟨by rfl, ?_⟩) (by assumption) ?_
   rotate_left
   ·intro W hSw; go_simp; try (with_reducible rfl)
   try simp only [Act.put, List.setIfInBounds_toArray, List.set_cons_zero, List.set_cons_succ]
   refine wpAnyH_take (i := 6) (oi := { dst := some 59, op := Op.convert 3 5 (Operand.tmp 58), type := 5, pos := "law.go:216", after := #[{ on := 5, ground := Ground.data }], guard := none }) (v := ?_) rfl (by kernel_rfl) (by kernel_rfl) (by kernel_rfl) (fun _ _ _ h => h) (Or.inl ⟨by rfl, ?_⟩) (by assumption) ?_
   rotate_left
   ·intro W hSw; go_simp; try (with_reducible rfl)
   try simp only [Act.put, List.setIfInBounds_toArray, List.set_cons_zero, List.set_cons_succ]
   refine wpAnyH_take (i := 7) (oi := { dst := some 60, op := Op.binOp BinOp.add 5 (Operand.const (Value.int IntKind.u8 97)) (Operand.tmp 59) 5, type := 5, pos := "law.go:216", after := #[{ on := 6, ground := Ground.data }], guard := none }) (v := ?_) rfl (by kernel_rfl) (by kernel_rfl) (by kernel_rfl) (fun _ _ _ h => h) (Or.inl ⟨by rfl, ?_⟩) (by assumption) ?_
   rotate_left
   ·intro W hSw; go_simp; try (with_reducible rfl)
   try simp only [Act.put, List.setIfInBounds_toArray, List.set_cons_zero, List.set_cons_succ]
   refine wpAnyH_take (i := 10) (oi := { dst := some 63, op := Op.move (Operand.tmp 0), type := 5, pos := "law.go:216", after := #[], guard := none }) (v := ?_) rfl (by kernel_rfl) (by kernel_rfl) (by kernel_rfl) (fun _ _ _ h => h) (Or.inl ⟨by rfl, ?_⟩) (by assumption) ?_
   rotate_left
   ·intro W hSw; go_simp; try (with_reducible rfl)
   try simp only [Act.put, List.setIfInBounds_toArray, List.set_cons_zero, List.set_cons_succ]
   refine wpAnyH_take (i := 11) (oi := { dst := some 64, op := Op.binOp BinOp.rem 5 (Operand.tmp 63) (Operand.const (Value.int IntKind.u8 50)) 5, type := 5, pos := "law.go:216", after := #[{ on := 10, ground := Ground.data }], guard := none }) (v := ?_) rfl (by kernel_rfl) (by kernel_rfl) (by kernel_rfl) (fun _ _ _ h => h) (Or.inl ⟨by rfl, ?_⟩) (by assumption) ?_
   rotate_left
   ·intro W hSw; go_simp; try (with_reducible rfl)
   try simp only [Act.put, List.setIfInBounds_toArray, List.set_cons_zero, List.set_cons_succ]
   refine wpAnyH_take (i := 12) (oi := { dst := some 65, op := Op.convert 5 3 (Operand.tmp 64), type := 3, pos := "law.go:216", after := #[{ on := 11, ground := Ground.data }], guard := none }) (v := ?_) rfl (by kernel_rfl) (by kernel_rfl) (by kernel_rfl) (fun _ _ _ h => h) (Or.inl ⟨by rfl, ?_⟩) (by assumption) ?_
   rotate_left
   ·intro W hSw; go_simp; try (with_reducible rfl)
   try simp only [Act.put, List.setIfInBounds_toArray, List.set_cons_zero, List.set_cons_succ]
   refine wpAnyH_take (i := 13) (oi := { dst := some 66, op := Op.binOp BinOp.add 3 (Operand.const (Value.int IntKind.i64 100)) (Operand.tmp 65) 3, type := 3, pos := "law.go:216", after := #[{ on := 12, ground := Ground.data }], guard := none }) (v := ?_) rfl (by kernel_rfl) (by kernel_rfl) (by kernel_rfl) (fun _ _ _ h => h) (Or.inl ⟨by rfl, ?_⟩) (by assumption) ?_
   rotate_left
   ·intro W hSw; go_simp; try (with_reducible rfl)
   try simp only [Act.put, List.setIfInBounds_toArray, List.set_cons_zero, List.set_cons_succ]
   refine wpAnyH_ready (rs := [8, 14]) (by kernel_rfl) (by simp) ?_
   refine AllReadyH.cons (o := { dst := some 61, op := Op.buildSlice 46 2 #[(0, Operand.tmp 56), (1, Operand.tmp 60)], type := 46, pos := "law.go:216", after := #[{ on := 3, ground := Ground.data }, { on := 7, ground := Ground.data }], guard := none }) rfl (fun K hK => ?_) (AllReadyH.cons (o := { dst := some 67, op := Op.makeSlice 46 (Operand.tmp 66) (Operand.tmp 66), type := 46, pos := "law.go:216", after := #[{ on := 13, ground := Ground.data }, { on := 13, ground := Ground.data }], guard := none }) rfl (fun K hK => ?_) AllReadyH.nil)
   ·go_simp
    first | refine gen_allocD ?_ | refine gen_alloc ?_
    intro w8 hw8 hbw8
    have hk8 := rb_two hP255 hQ255 (by first | exact .inl hw8 | exact .inr hw8)
    try have hf9 := hf9.below hbw8
    clear hw8
    try (go_wp2_with fail)
    have hHeld' := SB.step hHeld (by first | exact hbw8 | exact below_dl hbw8)
    refine hK.out _ _ ?_ (fun _ => ?_)
    ·exact hHeld'
    clear hK K
    try simp only [Act.put, List.setIfInBounds_toArray, List.set_cons_zero, List.set_cons_succ]
    have hHeld := SB.more hHeld'
    clear hHeld'
    refine wpAnyH_more (S' := SB [w8, w7]) (fun W h => SB.less W h) _ _ _ _ ?_
    refine wpAnyH_take (i := 9) (oi := { dst := some 62, op := Op.convert 46 9 (Operand.tmp 61), type := 9, pos := "law.go:216", after := #[{ on := 8, ground := Ground.data }], guard := none }) (v := ?_) rfl (by kernel_rfl) (by kernel_rfl) (by kernel_rfl) (fun _ _ _ h => h) (Or.inl ⟨by rfl, ?_⟩) (by assumption) ?_
    rotate_left
    ·intro W hSw; have hq := str22 (hk8.below (SB.b0 hSw)); go_simp; try (with_reducible rfl)
    try simp only [Act.put, List.setIfInBounds_toArray, List.set_cons_zero, List.set_cons_succ]
    refine wpAnyH_ready (rs := [14]) (by kernel_rfl) (by simp) ?_
    refine AllReadyH.cons (o := { dst := some 67, op := Op.makeSlice 46 (Operand.tmp 66) (Operand.tmp 66), type := 46, pos := "law.go:216", after := #[{ on := 13, ground := Ground.data }, { on := 13, ground := Ground.data }], guard := none }) rfl (fun K hK => ?_) AllReadyH.nil
    refine step_make (by rfl) (.tmp 66) (.tmp 66) 46 (by rfl) w7.heap.size 5 i5 (.int .u8 0) 1 Tryz.underlying46 HI5.out HZ5.out HS5.out .i64 .i64 _ _ V (by rfl) (by rfl) rfl rfl HBY.out HVM.out (SB.b1 hHeld).size ?_
    intro w9 hw9 hgw9
    have hbw9 := (Below.refl _ _).grown hgw9 (Nat.le_refl _) (fun k hk => by cases hk)
    have hf9 := fb_made hw9
    clear hw9 hgw9
    have hHeld' := SB.step hHeld (by first | exact hbw9 | exact below_dl hbw9)
    refine hK.out _ _ ?_ (fun _ => ?_)
    ·exact hHeld'
    clear hK K
    try simp only [Act.put, List.setIfInBounds_toArray, List.set_cons_zero, List.set_cons_succ]
    have hHeld := SB.more hHeld'
    clear hHeld'
    refine wpAnyH_more (S' := SB [w9, w8, w7]) (fun W h => SB.less W h) _ _ _ _ ?_
    refine wpAnyH_take (i := 15) (oi := { dst := some 68, op := Op.build 76 #[(0, Operand.tmp 62), (1, Operand.tmp 67)], type := 76, pos := "law.go:216", after := #[{ on := 9, ground := Ground.data }, { on := 14, ground := Ground.data }], guard := none }) (v := ?_) rfl (by kernel_rfl) (by kernel_rfl) (by kernel_rfl) (fun _ _ _ h => h) (Or.inl ⟨by rfl, ?_⟩) (by assumption) ?_
    rotate_left
    ·intro W hSw; go_simp; try (with_reducible rfl)
    try simp only [Act.put, List.setIfInBounds_toArray, List.set_cons_zero, List.set_cons_succ]
    refine wpAnyH_ready (rs := [16]) (by kernel_rfl) (by simp) ?_
    refine AllReadyH.cons (o := { dst := some 69, op := Op.buildSlice 56 1 #[(0, Operand.tmp 68)], type := 56, pos := "law.go:216", after := #[{ on := 15, ground := Ground.data }], guard := none }) rfl (fun K hK => ?_) AllReadyH.nil
    go_simp
    first | refine gen_allocD ?_ | refine gen_alloc ?_
    intro w10 hw10 hbw10
    have hoc10 := oc_lit_ hf9 (SB.b2 hHeld).size (by first | exact .inl hw10 | exact .inr hw10)
    have hbo10 := (SB.b2 hHeld).trans (hbw10.mono (SB.b2 hHeld).size)
    clear hw10
    try (go_wp2_with fail)
    have hHeld' := SB.step hHeld (by first | exact hbw10 | exact below_dl hbw10)
    refine hK.out _ _ ?_ (fun _ => ?_)
    ·exact hHeld'
    clear hK K
    try simp only [Act.put, List.setIfInBounds_toArray, List.set_cons_zero, List.set_cons_succ]
    have hHeld := SB.more hHeld'
    clear hHeld'
    refine wpAnyH_more (S' := SB [w10, w9, w8, w7]) (fun W h => SB.less W h) _ _ _ _ ?_
    refine wpAnyH_take (i := 17) (oi := { dst := some 13, op := Op.assign (Operand.tmp 69), type := 56, pos := "law.go:216", after := #[{ on := 16, ground := Ground.data }, { on := 0, ground := Ground.phase }, { on := 1, ground := Ground.phase }, { on := 2, ground := Ground.phase }, { on := 3, ground := Ground.phase }, { on := 4, ground := Ground.phase }, { on := 5, ground := Ground.phase }, { on := 6, ground := Ground.phase }, { on := 7, ground := Ground.phase }, { on := 8, ground := Ground.phase }, { on := 9, ground := Ground.phase }, { on := 10, ground := Ground.phase }, { on := 11, ground := Ground.phase }, { on := 12, ground := Ground.phase }, { on := 13, ground := Ground.phase }, { on := 14, ground := Ground.phase }, { on := 15, ground := Ground.phase }, { on := 16, ground := Ground.phase }], guard := none }) (v := ?_) rfl (by kernel_rfl) (by kernel_rfl) (by kernel_rfl) (fun _ _ _ h => h) (Or.inl ⟨by rfl, ?_⟩) (by assumption) ?_
    rotate_left
    ·intro W hSw; go_simp; try (with_reducible rfl)
    try simp only [Act.put, List.setIfInBounds_toArray, List.set_cons_zero, List.set_cons_succ]
    refine wpAnyH_done (by kernel_rfl) ?_ _
    clear hHeld
    have HOC := Lib.hid hoc10
    have HBO := Lib.hid hbo10
    clear hoc10 hbo10 hk8 hf9 hbw8 hbw9 hbw10
    have hcm := sx_commit HS7.out HBO.out HIx.out.inv.good HOC.out (by simp) (by rw [← HKEY.out]; exact sizes_key j HV1.out)
    rw [← HKEY.out] at hcm
    obtain ⟨f1, f2⟩ := HIx.out.put (by omega) HV1.out
    obtain ⟨R, hR⟩ : ∃ R, R = commitR x [(keyN j, List.replicate V 0, false)] := ⟨_, rfl⟩
    rw [← hR] at hcm f1 f2
    have HCM := Lib.hid hcm
    have HF1 := Lib.hid f1
    have HF2 := Lib.hid f2
    have hpl : ∀ k, P' k → k < w7.heap.size := by obtain ⟨_, _, _, _, h⟩ := HS7.out; exact h
    have HN10 := Lib.hid (HN7.out.keep HBO.out.size (fun k hk => HBO.out.block k (hpl k hk)))
    have HB10 := Lib.hid (HB7.out.trans (HBO.out.mono HB7.out.size))
    clear hcm hR f1 f2 hpl
    go_wp2_with fail
    go_at_call 25
    refine HCM.out.mono ?_
    rintro e w11 ⟨rfl, hs11, hst11, _⟩
    have HS11 := Lib.hid hs11
    have HN11 := Lib.hid (hst11.ro HN10.out)
    have HB11 := Lib.hid (HB10.out.trans hst11.bel)
    have HR11 := Lib.hid (own_rowsS hs11.own HF1.out.inv.good)
    clear hs11 hst11
    rcases HF2.out with ⟨z, ze⟩ | ⟨z, ze⟩
    ·rw [z]
     go_wp2_with fail
     go_at_call 32
     refine HR11.out.mono ?_
     rintro e w12 ⟨rv12, rfl, hor12, hb12⟩
     obtain ⟨A12, c12, hrv12⟩ := or_shape hor12
     subst hrv12
     rw [ze]
     have HS12 := Lib.hid (HS11.out.own.below hb12)
     have HB12 := Lib.hid (HB11.out.trans (hb12.mono HB11.out.size))
     have hln := HIx.out.len
     have mw : IntKind.i64.wrap ((x.rows.length : Int) + 1) = ((x.rows.length + 1 : Nat) : Int) := by rw [IntKind.wrap_i64]; omega
     clear hor12 hb12 ze z
     go_wp2
     go_roundw
     case rel => exact ⟨j + 1, R.1, by omega, by go_num, HF1.out, HS12.out, HB12.out⟩
     case measure => simp [intOf]; omega
    ·rw [z]
     go_wp2_with fail
     go_at_call 32
     refine HR11.out.mono ?_
     rintro e w12 ⟨rv12, rfl, hor12, hb12⟩
     obtain ⟨A12, c12, hrv12⟩ := or_shape hor12
     have hsr := sameRows_any _ rv12 x.rows w12 (rr_below HN11.out.rr hb12 (Nat.le_refl _)) (by have h := hor12.rr; rw [ze] at h; exact h)
     subst hrv12
     have HSR := Lib.hid hsr
     have HS12 := Lib.hid (HS11.out.own.below hb12)
     have HB12 := Lib.hid (HB11.out.trans (hb12.mono HB11.out.size))
     clear hor12 hb12 ze z hsr
     go_wp2_with fail
     go_at_call 34
     refine HSR.out.mono ?_
     rintro e w13 ⟨rfl, mm, rfl⟩
     have HS13 := Lib.hid (HS12.out.below (bel_drewN _ mm))
     have HB13 := Lib.hid (HB12.out.trans ((bel_drewN _ mm).mono HB12.out.size))
     go_wp2
     go_roundw
     case rel => exact ⟨j + 1, R.1, by omega, by go_num, HF1.out, HS13.out, HB13.out⟩
     case measure => simp [intOf]; omega
   ·refine step_make (by rfl) (.tmp 66) (.tmp 66) 46 (by rfl) w7.heap.size 5 i5 (.int .u8 0) 1 Tryz.underlying46 HI5.out HZ5.out HS5.out .i64 .i64 _ _ V (by rfl) (by rfl) rfl rfl HBY.out HVM.out (SB.b0 hHeld).size ?_
    intro w9 hw9 hgw9
    have hbw9 := (Below.refl _ _).grown hgw9 (Nat.le_refl _) (fun k hk => by cases hk)
    have hf9 := fb_made hw9
    clear hw9 hgw9
    have hHeld' := SB.step hHeld (by first | exact hbw9 | exact below_dl hbw9)
    refine hK.out _ _ ?_ (fun _ => ?_)
    ·exact hHeld'
    clear hK K
    try simp only [Act.put, List.setIfInBounds_toArray, List.set_cons_zero, List.set_cons_succ]
    have hHeld := SB.more hHeld'
    clear hHeld'
    refine wpAnyH_more (S' := SB [w9, w7]) (fun W h => SB.less W h) _ _ _ _ ?_
    refine wpAnyH_ready (rs := [8]) (by kernel_rfl) (by simp) ?_
    refine AllReadyH.cons (o := { dst := some 61, op := Op.buildSlice 46 2 #[(0, Operand.tmp 56), (1, Operand.tmp 60)], type := 46, pos := "law.go:216", after := #[{ on := 3, ground := Ground.data }, { on := 7, ground := Ground.data }], guard := none }) rfl (fun K hK => ?_) AllReadyH.nil
    go_simp
    first | refine gen_allocD ?_ | refine gen_alloc ?_
    intro w8 hw8 hbw8
    have hk8 := rb_two hP255 hQ255 (by first | exact .inl hw8 | exact .inr hw8)
    try have hf9 := hf9.below hbw8
    clear hw8
    try (go_wp2_with fail)
    have hHeld' := SB.step hHeld (by first | exact hbw8 | exact below_dl hbw8)
    refine hK.out _ _ ?_ (fun _ => ?_)
    ·exact hHeld'
    clear hK K
    try simp only [Act.put, List.setIfInBounds_toArray, List.set_cons_zero, List.set_cons_succ]
    have hHeld := SB.more hHeld'
    clear hHeld'
    refine wpAnyH_more (S' := SB [w8, w9, w7]) (fun W h => SB.less W h) _ _ _ _ ?_
    refine wpAnyH_take (i := 9) (oi := { dst := some 62, op := Op.convert 46 9 (Operand.tmp 61), type := 9, pos := "law.go:216", after := #[{ on := 8, ground := Ground.data }], guard := none }) (v := ?_) rfl (by kernel_rfl) (by kernel_rfl) (by kernel_rfl) (fun _ _ _ h => h) (Or.inl ⟨by rfl, ?_⟩) (by assumption) ?_
    rotate_left
    ·intro W hSw; have hq := str22 (hk8.below (SB.b0 hSw)); go_simp; try (with_reducible rfl)
    try simp only [Act.put, List.setIfInBounds_toArray, List.set_cons_zero, List.set_cons_succ]
    refine wpAnyH_take (i := 15) (oi := { dst := some 68, op := Op.build 76 #[(0, Operand.tmp 62), (1, Operand.tmp 67)], type := 76, pos := "law.go:216", after := #[{ on := 9, ground := Ground.data }, { on := 14, ground := Ground.data }], guard := none }) (v := ?_) rfl (by kernel_rfl) (by kernel_rfl) (by kernel_rfl) (fun _ _ _ h => h) (Or.inl ⟨by rfl, ?_⟩) (by assumption) ?_
    rotate_left
    ·intro W hSw; go_simp; try (with_reducible rfl)
    try simp only [Act.put, List.setIfInBounds_toArray, List.set_cons_zero, List.set_cons_succ]
    refine wpAnyH_ready (rs := [16]) (by kernel_rfl) (by simp) ?_
    refine AllReadyH.cons (o := { dst := some 69, op := Op.buildSlice 56 1 #[(0, Operand.tmp 68)], type := 56, pos := "law.go:216", after := #[{ on := 15, ground := Ground.data }], guard := none }) rfl (fun K hK => ?_) AllReadyH.nil
    go_simp
    first | refine gen_allocD ?_ | refine gen_alloc ?_
    intro w10 hw10 hbw10
    have hoc10 := oc_lit_ hf9 (SB.b2 hHeld).size (by first | exact .inl hw10 | exact .inr hw10)
    have hbo10 := (SB.b2 hHeld).trans (hbw10.mono (SB.b2 hHeld).size)
    clear hw10
    try (go_wp2_with fail)
    have hHeld' := SB.step hHeld (by first | exact hbw10 | exact below_dl hbw10)
    refine hK.out _ _ ?_ (fun _ => ?_)
    ·exact hHeld'
    clear hK K
    try simp only [Act.put, List.setIfInBounds_toArray, List.set_cons_zero, List.set_cons_succ]
    have hHeld := SB.more hHeld'
    clear hHeld'
    refine wpAnyH_more (S' := SB [w10, w8, w9, w7]) (fun W h => SB.less W h) _ _ _ _ ?_
    refine wpAnyH_take (i := 17) (oi := { dst := some 13, op := Op.assign (Operand.tmp 69), type := 56, pos := "law.go:216", after := #[{ on := 16, ground := Ground.data }, { on := 0, ground := Ground.phase }, { on := 1, ground := Ground.phase }, { on := 2, ground := Ground.phase }, { on := 3, ground := Ground.phase }, { on := 4, ground := Ground.phase }, { on := 5, ground := Ground.phase }, { on := 6, ground := Ground.phase }, { on := 7, ground := Ground.phase }, { on := 8, ground := Ground.phase }, { on := 9, ground := Ground.phase }, { on := 10, ground := Ground.phase }, { on := 11, ground := Ground.phase }, { on := 12, ground := Ground.phase }, { on := 13, ground := Ground.phase }, { on := 14, ground := Ground.phase }, { on := 15, ground := Ground.phase }, { on := 16, ground := Ground.phase }], guard := none }) (v := ?_) rfl (by kernel_rfl) (by kernel_rfl) (by kernel_rfl) (fun _ _ _ h => h) (Or.inl ⟨by rfl, ?_⟩) (by assumption) ?_
    rotate_left
    ·intro W hSw; go_simp; try (with_reducible rfl)
    try simp only [Act.put, List.setIfInBounds_toArray, List.set_cons_zero, List.set_cons_succ]
    refine wpAnyH_done (by kernel_rfl) ?_ _
    clear hHeld
    have HOC := Lib.hid hoc10
    have HBO := Lib.hid hbo10
    clear hoc10 hbo10 hk8 hf9 hbw8 hbw9 hbw10
    have hcm := sx_commit HS7.out HBO.out HIx.out.inv.good HOC.out (by simp) (by rw [← HKEY.out]; exact sizes_key j HV1.out)
    rw [← HKEY.out] at hcm
    obtain ⟨f1, f2⟩ := HIx.out.put (by omega) HV1.out
    obtain ⟨R, hR⟩ : ∃ R, R = commitR x [(keyN j, List.replicate V 0, false)] := ⟨_, rfl⟩
    rw [← hR] at hcm f1 f2
    have HCM := Lib.hid hcm
    have HF1 := Lib.hid f1
    have HF2 := Lib.hid f2
    have hpl : ∀ k, P' k → k < w7.heap.size := by obtain ⟨_, _, _, _, h⟩ := HS7.out; exact h
    have HN10 := Lib.hid (HN7.out.keep HBO.out.size (fun k hk => HBO.out.block k (hpl k hk)))
    have HB10 := Lib.hid (HB7.out.trans (HBO.out.mono HB7.out.size))
    clear hcm hR f1 f2 hpl
    go_wp2_with fail
    go_at_call 25
    refine HCM.out.mono ?_
    rintro e w11 ⟨rfl, hs11, hst11, _⟩
    have HS11 := Lib.hid hs11
    have HN11 := Lib.hid (hst11.ro HN10.out)
    have HB11 := Lib.hid (HB10.out.trans hst11.bel)
    have HR11 := Lib.hid (own_rowsS hs11.own HF1.out.inv.good)
    clear hs11 hst11
    rcases HF2.out with ⟨z, ze⟩ | ⟨z, ze⟩
    ·rw [z]
     go_wp2_with fail
     go_at_call 32
     refine HR11.out.mono ?_
     rintro e w12 ⟨rv12, rfl, hor12, hb12⟩
     obtain ⟨A12, c12, hrv12⟩ := or_shape hor12
     subst hrv12
     rw [ze]
     have HS12 := Lib.hid (HS11.out.own.below hb12)
     have HB12 := Lib.hid (HB11.out.trans (hb12.mono HB11.out.size))
     have hln := HIx.out.len
     have mw : IntKind.i64.wrap ((x.rows.length : Int) + 1) = ((x.rows.length + 1 : Nat) : Int) := by rw [IntKind.wrap_i64]; omega
     clear hor12 hb12 ze z
     go_wp2
     go_roundw
     case rel => exact ⟨j + 1, R.1, by omega, by go_num, HF1.out, HS12.out, HB12.out⟩
     case measure => simp [intOf]; omega
    ·rw [z]
     go_wp2_with fail
     go_at_call 32
     refine HR11.out.mono ?_
     rintro e w12 ⟨rv12, rfl, hor12, hb12⟩
     obtain ⟨A12, c12, hrv12⟩ := or_shape hor12
     have hsr := sameRows_any _ rv12 x.rows w12 (rr_below HN11.out.rr hb12 (Nat.le_refl _)) (by have h := hor12.rr; rw [ze] at h; exact h)
     subst hrv12
     have HSR := Lib.hid hsr
     have HS12 := Lib.hid (HS11.out.own.below hb12)
     have HB12 := Lib.hid (HB11.out.trans (hb12.mono HB11.out.size))
     clear hor12 hb12 ze z hsr
     go_wp2_with fail
     go_at_call 34
     refine HSR.out.mono ?_
     rintro e w13 ⟨rfl, mm, rfl⟩
     have HS13 := Lib.hid (HS12.out.below (bel_drewN _ mm))
     have HB13 := Lib.hid (HB12.out.trans ((bel_drewN _ mm).mono HB12.out.size))
     go_wp2
     go_roundw
     case rel => exact ⟨j + 1, R.1, by omega, by go_num, HF1.out, HS13.out, HB13.out⟩
     case measure => simp [intOf]; omega
  ·obtain rfl : j = N := by omega
   have hm2 : ¬ (j : Int) < (j : Int) := by omega
   have HRW := Lib.hid (own_rowsS HSx.out HIx.out.inv.good)
   go_wp2_with fail
   go_at_call 32
   refine HRW.out.mono ?_
   rintro e w7 ⟨rv7, rfl, hor7, hb7⟩
   obtain ⟨A7, c7, hrv7⟩ := or_shape hor7
   subst hrv7
   have HS7 := Lib.hid (HSx.out.below hb7)
   have HB7 := Lib.hid (HBw.out.trans (hb7.mono HBw.out.size))
   have HN7 := Lib.hid hor7.rr
   clear hor7 hb7
   have hln := HIx.out.len
   cases hrows : x.rows with
   | nil =>
    have e0 : ¬ (0 : Int) < ((([] : List Rw).length : Nat) : Int) := by simp
    have HINV := Lib.hid HIx.out.inv
    have HZR := Lib.hid (show x.rows = [] from hrows)
    clear hrows
    obtain ⟨y, y1, y2, y3, y4, y5⟩ := open_again HIx.out.inv HIx.out.fu (by have := HIx.out.ep; omega)
    have HO := Lib.hid (sto_open HS7.out y5 y4 y1)
    have HYI := Lib.hid y2
    have HYR := Lib.hid y3
    clear y1 y2 y3 y4 y5
    go_wp2_with fail
    go_at_call 14
    refine HO.out.mono ?_
    rintro e v1 ⟨sv2, rfl, ho1, ho2, hb1⟩
    obtain ⟨g2, rfl⟩ := ho1.ptr
    have HO1 := Lib.hid ho1
    have HO2 := Lib.hid ho2
    have HB1t := Lib.hid (HB7.out.trans hb1)
    clear ho1 ho2 hb1
    go_wp2_with fail
    go_at_call 10
    refine (HKN.out _).mono ?_
    rintro e v2 ⟨rfl, hb2⟩
    have HO3 := Lib.hid (HO2.out.below hb2)
    have HR2 := Lib.hid (own_rowsS (HO1.out.below hb2) HYI.out.good)
    have HA2 := Lib.hid (HO1.out.below hb2)
    have HB2t := Lib.hid (HB1t.out.trans (hb2.mono HB1t.out.size))
    clear hb2
    go_wp2_with fail
    go_at_call 32
    refine HR2.out.mono ?_
    rintro e v3 ⟨rv3, rfl, hor3, hb3⟩
    obtain ⟨A3, c3, hrv3⟩ := or_shape hor3
    have HOR3 := Lib.hid hor3.rr
    subst hrv3
    have HR3 := Lib.hid (own_rowsD (x := x) (s := y.d) (HO3.out.below hb3) HINV.out.good)
    have HA3 := Lib.hid (HA2.out.below hb3)
    have HB3t := Lib.hid (HB2t.out.trans (hb3.mono HB2t.out.size))
    clear hor3 hb3
    go_wp2_with fail
    go_at_call 32
    refine HR3.out.mono ?_
    rintro e v4 ⟨rv4, rfl, hor4, hb4⟩
    obtain ⟨A4, c4, hrv4⟩ := or_shape hor4
    have hsr := sameRows_any _ rv4 _ v4 (rr_below HOR3.out hb4 (Nat.le_refl _)) (by have h := hor4.rr; rw [← HYR.out] at h; exact h)
    subst hrv4
    have HSR := Lib.hid hsr
    have HA4 := Lib.hid (HA3.out.below hb4)
    have HB4t := Lib.hid (HB3t.out.trans (hb4.mono HB3t.out.size))
    clear hor4 hb4 hsr
    go_wp2_with fail
    go_at_call 34
    refine HSR.out.mono ?_
    rintro e v5 ⟨rfl, mm, rfl⟩
    have HR5 := Lib.hid (own_rowsS (HA4.out.below (bel_drewN _ mm)) HYI.out.good)
    have HB5t := Lib.hid (HB4t.out.trans ((bel_drewN _ mm).mono HB4t.out.size))
    go_wp2_with fail
    go_at_call 32
    refine HR5.out.mono ?_
    rintro e v6 ⟨rv6, rfl, hor6, hb6⟩
    obtain ⟨A6, c6, hrv6⟩ := or_shape hor6
    have HB6t := Lib.hid (HB5t.out.trans (hb6.mono HB5t.out.size))
    subst hrv6
    clear hor6 hb6
    rw [HYR.out, HZR.out]
    have HMX := Lib.hid (show ((0 : Int) == max (-1) 0) = true by decide)
    go_wp2
    go_ret
    first | exact ⟨rfl, HB6t.out⟩ | exact ⟨congrArg (fun b => Ending.returned (Value.bool b)) HMX.out, HB6t.out⟩
   | cons r rs =>
    have hn7 := HN7.out
    rw [hrows] at hn7
    obtain ⟨b, off, u, hA, q1, _, _⟩ := rr_at hn7 (k := 0) (by simp)
    subst hA
    obtain ⟨l1, l2, l3, l4, l5, l6⟩ := HIx.out.less (by omega) HV1.out HV2.out hrows
    have hks := (HIx.out.rows.few HV1.out r (by rw [hrows]; exact List.mem_cons_self)).1
    have e0 : (0 : Int) < (((r :: rs).length : Nat) : Int) := by simp
    have hrl : rs.length ≤ 40 := by rw [hrows, List.length_cons] at hln; omega
    have e1 : (r :: rs).length ≤ c7 := by obtain ⟨_, _, h, h2, _⟩ := hn7; injection h with _ h3 h4; omega
    have hcm := fun X (hX : X = w7.alloc (.cells #[.string r.1, .slice none 0 0, .bool true] 76)) => own_commitS (w := X) (lv := .slice (some ⟨w7.heap.size, 0, none⟩) 1 1) (cs := [(r.1, [], true)]) HS7.out (by subst hX; exact (Below.refl _ _).alloc (Nat.le_refl _) _) HIx.out.inv.good (by subst hX; exact oc_lit1 (.inl ⟨rfl, rfl⟩) (Nat.le_refl _)) (by simp) (sizes_gone (k := r.1) (by omega))
    obtain ⟨R, hR⟩ : ∃ R, R = commitR x [(r.1, [], true)] := ⟨_, rfl⟩
    rw [← hR] at hcm l1 l2 l3 l4 l5 l6
    rw [l1] at hcm
    have HCM := Lib.hid hcm
    have HINV := Lib.hid l3
    obtain ⟨y, y1, y2, y3, y4, y5⟩ := open_again l3 l4 l6
    have HLR := Lib.hid l2
    have HYO := Lib.hid y1
    have HYI := Lib.hid y2
    have HYR := Lib.hid y3
    have HYL := Lib.hid y4
    have HYN := Lib.hid y5
    have hq : w7.cell? ⟨b, off, none⟩ = some (.string r.1) := by simpa using q1
    clear hrows hcm hR l1 l2 l3 l4 l5 l6 hn7 y1 y2 y3 y4 y5 q1
    go_wp2_with fail
    go_at_call 25
    refine (HCM.out _ rfl).mono ?_
    rintro e w8 ⟨rfl, hs8, hb8, _⟩
    have HO := Lib.hid (sto_open hs8 HYN.out HYL.out HYO.out)
    have HB8 := Lib.hid (HB7.out.trans (((Below.refl _ _).alloc HB7.out.size _).trans hb8))
    clear hs8 hb8
    go_wp2_with fail
    go_at_call 14
    refine HO.out.mono ?_
    rintro e v1 ⟨sv2, rfl, ho1, ho2, hb1⟩
    obtain ⟨g2, rfl⟩ := ho1.ptr
    have HO1 := Lib.hid ho1
    have HO2 := Lib.hid ho2
    have HB1t := Lib.hid (HB8.out.trans hb1)
    clear ho1 ho2 hb1
    go_wp2_with fail
    go_at_call 10
    refine (HKN.out _).mono ?_
    rintro e v2 ⟨rfl, hb2⟩
    have HO3 := Lib.hid (HO2.out.below hb2)
    have HR2 := Lib.hid (own_rowsS (HO1.out.below hb2) HYI.out.good)
    have HA2 := Lib.hid (HO1.out.below hb2)
    have HB2t := Lib.hid (HB1t.out.trans (hb2.mono HB1t.out.size))
    clear hb2
    go_wp2_with fail
    go_at_call 32
    refine HR2.out.mono ?_
    rintro e v3 ⟨rv3, rfl, hor3, hb3⟩
    obtain ⟨A3, c3, hrv3⟩ := or_shape hor3
    have HOR3 := Lib.hid hor3.rr
    subst hrv3
    have HR3 := Lib.hid (own_rowsD (x := R.1) (s := y.d) (HO3.out.below hb3) HINV.out.good)
    have HA3 := Lib.hid (HA2.out.below hb3)
    have HB3t := Lib.hid (HB2t.out.trans (hb3.mono HB2t.out.size))
    clear hor3 hb3
    go_wp2_with fail
    go_at_call 32
    refine HR3.out.mono ?_
    rintro e v4 ⟨rv4, rfl, hor4, hb4⟩
    obtain ⟨A4, c4, hrv4⟩ := or_shape hor4
    have hsr := sameRows_any _ rv4 _ v4 (rr_below HOR3.out hb4 (Nat.le_refl _)) (by have h := hor4.rr; rw [← HYR.out] at h; exact h)
    subst hrv4
    have HSR := Lib.hid hsr
    have HA4 := Lib.hid (HA3.out.below hb4)
    have HB4t := Lib.hid (HB3t.out.trans (hb4.mono HB3t.out.size))
    clear hor4 hb4 hsr
    go_wp2_with fail
    go_at_call 34
    refine HSR.out.mono ?_
    rintro e v5 ⟨rfl, mm, rfl⟩
    have HR5 := Lib.hid (own_rowsS (HA4.out.below (bel_drewN _ mm)) HYI.out.good)
    have HB5t := Lib.hid (HB4t.out.trans ((bel_drewN _ mm).mono HB4t.out.size))
    go_wp2_with fail
    go_at_call 32
    refine HR5.out.mono ?_
    rintro e v6 ⟨rv6, rfl, hor6, hb6⟩
    obtain ⟨A6, c6, hrv6⟩ := or_shape hor6
    have HB6t := Lib.hid (HB5t.out.trans (hb6.mono HB5t.out.size))
    subst hrv6
    clear hor6 hb6
    rw [HYR.out, HLR.out]
    skip
    go_wp2
    go_ret
    first | exact ⟨rfl, HB6t.out⟩ | exact ⟨congrArg (fun b => Ending.returned (Value.bool b)) HMX.out, HB6t.out⟩
end Go.Proofs.YtmbkaedhllfoeaaGreat
