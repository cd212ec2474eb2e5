/-
 The contract of the statements' own pair: a device, and the document's own one beside it.; Deeds that came in: how they lie; the contract of the statements' own much.; The walk of StoreGets: it answers true of any deeds and key.; The contracts of a device and of a store that lie apart from given blocks: these stay.; Plain mathematics of a store on a device with a fuse: its traffic, its epochs, and what a crash leaves, commit by commit. No program.; The walk of StoreLasts: it answers true of any number, deeds, fuse and marks.; The walk of StoreAgain: it answers true of any number, deeds, numbers and marks that no machine has trouble with.
-/
import Derived.BigQuiet
import Derived.Test.YtmbkaedhllfoeaaGreatKHC
import Derived.Test.YtmbkaedhllfoeaaGreatKHBH
import Derived.Test.YtmbkaedhllfoeaaGreatKHCE
import Derived.Test.YtmbkaedhllfoeaaGreatKHEI
set_option linter.unusedVariables false
namespace Go.Proofs.YtmbkaedhllfoeaaGreat
open Go.RowKit Go.Rst Go.Dv Go.Crc Go.Str Go.Pg
theorem leavePR {W : World} {tmps : Array Value} {g : Nat} {z0 z1 z2 z3 z4 z5 d : Value} (h4 : tmps.getD 3 undef = .pointer (some ⟨g, 0, none⟩)) (h5 : tmps.getD 2 undef = d) (hb : Dv.Blk W g 29 #[z0, z1, z2, z3, z4, z5]) :
  (results Tryz.f11 tmps).run Tryz.prog W = .ok (.tuple #[d, .agg #[z0, z1, z2, z3, z4, z5]]) W := by
 have r0 := hb.cell 0
 have r1 := hb.cell 1
 have r2 := hb.cell 2
 have r3 := hb.cell 3
 have r4 := hb.cell 4
 have r5 := hb.cell 5
 simp at r0 r1 r2 r3 r4 r5
 rw [Array.getD_eq_getD_getElem?] at h4 h5

 simp [results, h4, h5, r0, r1, r2, r3, r4, r5, go_sem]
def sixD (w : World) (g : Nat) (v0 v1 v2 v3 v4 v5 : Value) : World := ((((((w.setCell ⟨g, 0, none⟩ v0).setCell ⟨g, 1, none⟩ v1).setCell ⟨g, 2, none⟩ v2).setCell ⟨g, 3, none⟩ v3).setCell ⟨g, 4, none⟩ v4).setCell ⟨g, 5, none⟩ v5).drew
theorem sixD_far {w : World} {g b : Nat} {t : TypeId} {cs : Array Value} (h : Dv.Blk w b t cs) (hne : b ≠ g) (v0 v1 v2 v3 v4 v5 : Value) : Dv.Blk (sixD w g v0 v1 v2 v3 v4 v5) b t cs := by
 have h6 := (((((h.far (p := ⟨g, 0, none⟩) hne v0).far (p := ⟨g, 1, none⟩) hne v1).far (p := ⟨g, 2, none⟩) hne v2).far (p := ⟨g, 3, none⟩) hne v3).far (p := ⟨g, 4, none⟩) hne v4).far (p := ⟨g, 5, none⟩) hne v5
 unfold sixD
 exact h6.below (Below.refl _ _).drew h6.lt
theorem sixD_here {w : World} {g : Nat} {t : TypeId} {z0 z1 z2 z3 z4 z5 : Value} (h : Dv.Blk w g t #[z0, z1, z2, z3, z4, z5]) (v0 v1 v2 v3 v4 v5 : Value) : Dv.Blk (sixD w g v0 v1 v2 v3 v4 v5) g t #[v0, v1, v2, v3, v4, v5] := by
 have h6 := blk_six h v0 v1 v2 v3 v4 v5
 unfold sixD
 exact h6.below (Below.refl _ _).drew h6.lt
theorem sixD_fr (w : World) (g : Nat) (v0 v1 v2 v3 v4 v5 : Value) : Fr (fun j => j = g) w (sixD w g v0 v1 v2 v3 v4 v5) := (fr_six (Fr.refl (fun j => j = g) w) (.inl rfl) v0 v1 v2 v3 v4 v5).drew
theorem sixD_def (w : World) (g : Nat) (v0 v1 v2 v3 v4 v5 : Value) : ((((((w.setCell ⟨g, 0, none⟩ v0).setCell ⟨g, 1, none⟩ v1).setCell ⟨g, 2, none⟩ v2).setCell ⟨g, 3, none⟩ v3).setCell ⟨g, 4, none⟩ v4).setCell ⟨g, 5, none⟩ v5).drew = sixD w g v0 v1 v2 v3 v4 v5 := rfl
set_option maxRecDepth 100000 in
set_option maxHeartbeats 2000000 in
theorem pair_any (k : Nat) (hk : k ≤ 255) (w : World) : Calls Tryz.prog 11 #[.int .u8 (k : Int)] w fun e w' => ∃ dg tv, e = .returned (.tuple #[dp dg, tv]) ∧
  (∃ (D : Nat → Prop) (m : Nat), Dev D w' (dp dg) (Sim.new (sizeN k)) ∧ (∀ j, D j → w.heap.size ≤ j ∧ j < m) ∧ TRd (fun j => j < m) w' tv (Sim.new (sizeN k))) ∧ Below w.heap.size w w' := by
 obtain ⟨s1, s2⟩ := sizeN_in k
 have hs := fun X => size_any k hk X
 obtain ⟨n, hn⟩ : ∃ n, n = sizeN k := ⟨_, rfl⟩
 rw [← hn] at hs s1 s2 ⊢
 have HSZ := Lib.hid hs
 clear hs hn
 obtain ⟨Z, hZ⟩ : ∃ Z, Z = Obj.cells (tsD (.slice none 0 0)) 29 := ⟨_, rfl⟩
 have HZ := Lib.hid hZ
 clear hZ
 go_enter Tryz.func11, Tryz.ntmps11
 go_wp2_with (go_at_call 27; refine (HSZ.out _).mono ?_; rintro e w1 ⟨rfl, hb1⟩)
 have hbz : Below w.heap.size w (w.alloc (Obj.cells (tsD (.slice none 0 0)) 29)) := (Below.refl _ _).alloc (Nat.le_refl _) _
 have hk0 : Dv.Blk (w.alloc (Obj.cells (tsD (.slice none 0 0)) 29)) w.heap.size 29 (tsD (.slice none 0 0)) := heap_alloc_new w _
 have hbw1 : Below w.heap.size w w1 := hbz.trans (hb1.mono hbz.size)
 have hk1 := hk0.below hb1 hk0.lt
 refine (own_new (B := w1.heap.size) n w1 (by omega) (Nat.le_refl _)).mono ?_
 rintro e w2 ⟨dg, rfl, hown, hb2⟩
 have HK2 := Lib.hid (hk1.below hb2 hk1.lt)
 have HB2 := Lib.hid (hbw1.trans (hb2.mono hbw1.size))
 obtain ⟨D, hD1, hD2, hD3⟩ := hown
 have HD := Lib.hid hD1
 have HDB := Lib.hid (fun k (hk : D k) => Nat.le_trans hbw1.size (hD2 k hk))
 have HLD := Lib.hid (fun k (hk : D k) => Nat.lt_of_lt_of_le hk1.lt (hD2 k hk))
 clear hb1 hb2 hk0 hk1 hbz hbw1 hD1 hD2 hD3
 go_wp2_with (go_at_call 27; refine (HSZ.out _).mono ?_; rintro e w3 ⟨rfl, hb3⟩)
 have hk3 := HK2.out.below hb3 HK2.out.lt
 have hd3 := HD.out.below hb3
 have hbw3 := HB2.out.trans (hb3.mono HB2.out.size)
 refine (refnew_any (A := fun j => j < w3.heap.size) n w3 (by omega) (fun k hk => hk)).mono ?_
 rintro e w4 ⟨tv, rfl, htr, hb4⟩
 have HTR := Lib.hid htr
 obtain ⟨vS, vL, lf, c2, c3, rfl, hS, hL, _⟩ := htr
 obtain ⟨aS, cS, rfl, _⟩ := hS.shape
 obtain ⟨aL, cL, rfl, _⟩ := hL.shape
 rw [show (Sim.new n).loose.length = 0 from rfl, show (Sim.new n).fuse.isSome = false from rfl, new_firm] at HTR ⊢
 have HK4 := Lib.hid (hk3.below hb4 hk3.lt)
 have HD4 := Lib.hid (hd3.below hb4)
 have HB4 := Lib.hid (hbw3.trans (hb4.mono hbw3.size))
 have HLT := Lib.hid hd3.lt
 have HSW3 := Lib.hid (show w.heap.size < w3.heap.size from hk3.lt)
 have HS34 := Lib.hid hb4.size
 clear hk3 hd3 hbw3 hb3 hb4 hS hL
 obtain ⟨Q, hQ⟩ : ∃ Q, Q = Obj.cells #[.slice aS n cS, .slice aL 0 cL, .int .i64 c2, .int .i64 c3, .bool false, .int .i64 lf] 29 := ⟨_, rfl⟩
 have hk5 : Dv.Blk (w4.alloc Q) w4.heap.size 29 #[.slice aS n cS, .slice aL 0 cL, .int .i64 c2, .int .i64 c3, .bool false, .int .i64 lf] := by rw [hQ]; exact heap_alloc_new w4 _
 have hb5 : Below w4.heap.size w4 (w4.alloc Q) := (Below.refl _ _).alloc (Nat.le_refl _) _
 have HK5 := Lib.hid (show Dv.Blk (w4.alloc Q) w4.heap.size 29 #[.slice aS n cS, .slice aL 0 cL, .int .i64 c2, .int .i64 c3, .bool false, .int .i64 lf] from hk5)
 have HK0 := Lib.hid (HK4.out.below hb5 HK4.out.lt)
 have HB5 := Lib.hid hb5
 have HQ := Lib.hid hQ
 have HNE := Lib.hid (show w4.heap.size ≠ w.heap.size by have := HK4.out.lt; omega)
 clear hk5 hb5 hQ
 go_wp2_with fail
 rw [← HQ.out]
 refine wp_region_held_drew (S := fun X => Dv.Blk X w4.heap.size 29 #[.slice aS n cS, .slice aL 0 cL, .int .i64 c2, .int .i64 c3, .bool false, .int .i64 lf] ∧ True) (by kernel_rfl) ⟨HK5.out, trivial⟩ (fun hHeld => ?_)
 refine wpAnyH_take (i := 0) (oi := { dst := some 16, op := Op.move (Operand.tmp 4), type := 25, pos := "law.go:49", after := #[], guard := none }) (v := ?_) rfl (by kernel_rfl) (by kernel_rfl) (by kernel_rfl) (fun _ _ _ h => h) (Or.inl ⟨by rfl, ?_⟩) (by assumption) ?_
 rotate_left
 ·intro X hSw; go_simp; try (with_reducible rfl)
 try simp only [Act.put, List.setIfInBounds_toArray, List.set_cons_zero, List.set_cons_succ]
 refine wpAnyH_take (i := 1) (oi := { dst := some 17, op := Op.load 29 (Operand.tmp 5), type := 29, pos := "law.go:49", after := #[{ on := 2, ground := Ground.gcOnly Departure.lateStores }], guard := none }) (v := ?_) rfl (by kernel_rfl) (by kernel_rfl) (by kernel_rfl) (fun _ _ _ h => h) (Or.inl ⟨by rfl, ?_⟩) (by assumption) ?_
 rotate_left
 ·intro X hSw; have z0 := hSw.1.cell 0; have z1 := hSw.1.cell 1; have z2 := hSw.1.cell 2; have z3 := hSw.1.cell 3; have z4 := hSw.1.cell 4; have z5 := hSw.1.cell 5; simp at z0 z1 z2 z3 z4 z5; go_simp; try (with_reducible rfl)
 try simp only [Act.put, List.setIfInBounds_toArray, List.set_cons_zero, List.set_cons_succ]
 refine wpAnyH_take (i := 2) (oi := { dst := some 2, op := Op.assign (Operand.tmp 16), type := 25, pos := "law.go:49", after := #[{ on := 0, ground := Ground.data }, { on := 0, ground := Ground.phase }, { on := 1, ground := Ground.textOnly Departure.lateStores }], guard := none }) (v := ?_) rfl (by kernel_rfl) (by kernel_rfl) (by kernel_rfl) (fun _ _ _ h => h) (Or.inl ⟨by rfl, ?_⟩) (by assumption) ?_
 rotate_left
 ·intro X hSw; go_simp; try (with_reducible rfl)
 try simp only [Act.put, List.setIfInBounds_toArray, List.set_cons_zero, List.set_cons_succ]
 refine wpAnyH_ready (rs := [3]) (by kernel_rfl) (by simp) ?_
 refine AllReadyH.cons (o := { dst := none, op := Op.store 29 (Operand.tmp 3) (Operand.tmp 17), type := 0, pos := "law.go:49", after := #[{ on := 1, ground := Ground.data }, { on := 2, ground := Ground.chain }, { on := 0, ground := Ground.phase }, { on := 1, ground := Ground.phase }, { on := 2, ground := Ground.phase }], guard := none }) rfl (fun K hK => ?_) AllReadyH.nil
 have y0 := HK0.out.cell 0; have y1 := HK0.out.cell 1; have y2 := HK0.out.cell 2; have y3 := HK0.out.cell 3; have y4 := HK0.out.cell 4; have y5 := HK0.out.cell 5; unfold tsD at y0 y1 y2 y3 y4 y5; simp at y0 y1 y2 y3 y4 y5
 have yf0 := HK0.out.frozen 0
 have yf1 := HK0.out.frozen 1
 have yf2 := HK0.out.frozen 2
 have yf3 := HK0.out.frozen 3
 have yf4 := HK0.out.frozen 4
 have yf5 := HK0.out.frozen 5
 go_simp
 rw [sixD_def]
 clear y0 y1 y2 y3 y4 y5 yf0 yf1 yf2 yf3 yf4 yf5
 have hHeld' := (show Dv.Blk (sixD (w4.alloc Q) w.heap.size (.slice aS n cS) (.slice aL 0 cL) (.int .i64 c2) (.int .i64 c3) (.bool false) (.int .i64 lf)) w4.heap.size 29 #[.slice aS n cS, .slice aL 0 cL, .int .i64 c2, .int .i64 c3, .bool false, .int .i64 lf] ∧ True from ⟨sixD_far HK5.out HNE.out _ _ _ _ _ _, trivial⟩)
 refine hK.out _ _ ?_ (fun _ => ?_)
 ·exact hHeld'
 clear hK K hHeld
 have hHeld := hHeld'
 clear hHeld'
 try simp only [Act.put, List.setIfInBounds_toArray, List.set_cons_zero, List.set_cons_succ]
 refine wpAnyH_done (by kernel_rfl) ?_ _
 clear hHeld
 have hblk := sixD_here (w := w4.alloc Q) (g := w.heap.size) (by have h := HK0.out; unfold tsD at h; exact h) (.slice aS n cS) (.slice aL 0 cL) (.int .i64 c2) (.int .i64 c3) (.bool false) (.int .i64 lf)
 have hfr := sixD_fr (w4.alloc Q) w.heap.size (.slice aS n cS) (.slice aL 0 cL) (.int .i64 c2) (.int .i64 c3) (.bool false) (.int .i64 lf)
 generalize (sixD (w4.alloc Q) w.heap.size (.slice aS n cS) (.slice aL 0 cL) (.int .i64 c2) (.int .i64 c3) (.bool false) (.int .i64 lf)) = W6 at hblk hfr ⊢
 have HBK := Lib.hid hblk
 have HFR := Lib.hid hfr
 clear hblk hfr
 go_wp2
 refine bodyPost_ret (leavePR rfl rfl HBK.out) rfl ?_
 have hb5 := HB5.out
 have hlt := HS34.out
 have hw3 := HSW3.out
 have hf := (Fr.of_below (D := fun j => j = w.heap.size) hb5).trans HFR.out (fun _ h => .inl h)
 refine ⟨_, _, rfl, ⟨D, w3.heap.size, HD4.out.fr hf (fun j hj hd => ?_), fun j hj => ⟨HDB.out j hj, HLT.out j hj⟩, HTR.out.fr hf (fun j hj => ?_) (fun j hj => .inl hj)⟩, HB4.out.trans (hf.below (fun j hj => ?_) HB4.out.size)⟩
 ·have := HLD.out j hd; omega
 ·omega
 ·omega
end Go.Proofs.YtmbkaedhllfoeaaGreat
namespace Go.Proofs.YtmbkaedhllfoeaaGreat
open Go.RowKit Go.Rst Go.Dv Go.Crc Go.Str Go.Pg
def BK (w : World) (v : Value) (K : List Bool) : Prop :=
 ∃ A c, v = .slice A K.length c ∧ (K = [] ∨ ∃ b off, A = some ⟨b, off, none⟩ ∧ b < w.heap.size ∧ ∀ j (h : j < K.length), w.cell? ⟨b, off + j, none⟩ = some (.bool K[j]))
structure Deed where
 kind : Nat
 c : List UInt8
 keep : List Bool
 fuse : Nat
def DeedAt (w : World) (b o : Nat) (x : Deed) : Prop :=
 w.cell? ⟨b, o, none⟩ = some (.int .u8 (x.kind : Int)) ∧ (∃ u, w.cell? ⟨b, o + 1, none⟩ = some u ∧ RB w u x.c) ∧ (∃ u, w.cell? ⟨b, o + 2, none⟩ = some u ∧ BK w u x.keep) ∧ w.cell? ⟨b, o + 3, none⟩ = some (.int .u8 (x.fuse : Int)) ∧
  x.kind ≤ 255 ∧ x.fuse ≤ 255 ∧ x.c.length ≤ 140737488351232 ∧ x.keep.length ≤ 140737488351232
def DS (w : World) (v : Value) (l : List Deed) : Prop :=
 ∃ A c, v = .slice A l.length c ∧ l.length ≤ 140737488351232 ∧ (l = [] ∨ ∃ b off, A = some ⟨b, off, none⟩ ∧ b < w.heap.size ∧ ∀ j (h : j < l.length), DeedAt w b (off + j * 4) l[j])
theorem BK.below {w w' : World} {v : Value} {K : List Bool} (h : BK w v K) (hb : Below w.heap.size w w') : BK w' v K := by
 obtain ⟨A, c, rfl, h1⟩ := h
 refine ⟨A, c, rfl, ?_⟩
 rcases h1 with h1 | ⟨b, off, rfl, hbb, hc⟩
 ·exact .inl h1
 ·exact .inr ⟨b, off, rfl, Nat.lt_of_lt_of_le hbb hb.size, fun j hj => (hb.cell (p := ⟨b, off + j, none⟩) hbb).trans (hc j hj)⟩
theorem BK.kb {w : World} {v : Value} {K : List Bool} (h : BK w v K) {D : Nat → Prop} (hD : ∀ k, D k → w.heap.size ≤ k) : KB D w v K := by
 obtain ⟨A, c, rfl, h1⟩ := h
 exact ⟨A, c, rfl, h1.imp id fun ⟨b, off, e, hb, hc⟩ => ⟨b, off, e, hb, fun hd => by have := hD b hd; omega, hc⟩⟩
theorem DS.below {w w' : World} {v : Value} {l : List Deed} (h : DS w v l) (hb : Below w.heap.size w w') : DS w' v l := by
 obtain ⟨A, c, rfl, h1, h2⟩ := h
 refine ⟨A, c, rfl, h1, ?_⟩
 rcases h2 with h2 | ⟨b, off, rfl, hbb, hd⟩
 ·exact .inl h2
 ·refine .inr ⟨b, off, rfl, Nat.lt_of_lt_of_le hbb hb.size, fun j hj => ?_⟩
  obtain ⟨d0, ⟨u1, d2, d3⟩, ⟨u2, d4, d5⟩, d6, d7⟩ := hd j hj
  have e : ∀ o, w'.cell? ⟨b, o, none⟩ = w.cell? ⟨b, o, none⟩ := fun o => hb.cell (p := ⟨b, o, none⟩) hbb
  exact ⟨(e _).trans d0, ⟨u1, (e _).trans d2, d3.below hb⟩, ⟨u2, (e _).trans d4, d5.below hb⟩, (e _).trans d6, d7⟩
theorem DS.at_ {w : World} {A : Option Addr} {c m k : Nat} {l : List Deed} (h : DS w (.slice A m c) l) (hm : m = l.length) (hk : k < m) :
  ∃ b off x, A = some ⟨b, off, none⟩ ∧ b < w.heap.size ∧ l[k]? = some x ∧ DeedAt w b (off + k * 4) x := by
 subst hm
 obtain ⟨A', c', he, _, h2⟩ := h
 injection he with he _ _
 subst he
 rcases h2 with h2 | ⟨b, off, rfl, hb, hd⟩
 ·rw [h2] at hk; cases hk
 ·exact ⟨b, off, _, rfl, hb, List.getElem?_eq_getElem hk, hd k hk⟩
def FewD (l : List Deed) : Prop := l.length ≤ 2000000 ∧ ∀ x ∈ l, x.c.length ≤ 3000000 ∧ x.keep.length ≤ 3000000
def MuchR (l : List Deed) (w : World) (e : Ending) (w' : World) : Prop := ∃ r : Bool, e = .returned (.bool r) ∧ (r = false → FewD l → l.length ≤ 200) ∧ Below w.heap.size w w'
set_option maxRecDepth 100000 in
set_option maxHeartbeats 1000000 in
theorem muchS_any {v : Value} {l : List Deed} {w : World} (h : DS w v l) :
  Calls Tryz.prog 9 #[v] w (MuchR l w) := by
 have HD := Lib.hid h
 obtain ⟨A, c, rfl, hl, _⟩ := h
 obtain ⟨m, hm⟩ : ∃ m, m = l.length := ⟨_, rfl⟩
 rw [← hm] at HD hl ⊢
 have HM := Lib.hid hm
 clear hm
 go_enter Tryz.func9, Tryz.ntmps9
 go_wp2
 go_loopw [3, 4] (fun n i wr => ∃ (z : Int) (k : Nat), n = .int .i64 z ∧ (FewD l → (k : Int) ≤ z ∧ z ≤ (k : Int) * 6000000) ∧ k ≤ m ∧ i = .int .i64 k ∧ Below w.heap.size w wr) (fun _ i _ => m - (intOf i).toNat)
 case atStart => exact ⟨_, 0, rfl, fun _ => by omega, Nat.zero_le _, rfl, Below.refl _ _⟩
 case round =>
  obtain ⟨z, k, rfl, hz, hk, rfl, hbel⟩ := hrel
  have HZ := Lib.hid hz
  clear hz
  by_cases hlt : k < m
  ·obtain ⟨b, off, x, hA, hbb, hx, hd⟩ := (HD.out.below hbel).at_ HM.out hlt
   subst hA
   obtain ⟨_, ⟨u2, d2, A2, c2, e2, q2, q3, _⟩, ⟨u3, d3, A3, c3, e3, _⟩, _, _, _, l2, l3⟩ := hd
   subst e2
   subst e3
   have HBr := Lib.hid hbel
   have HX := Lib.hid hx
   clear hbel hx
   have i6 : (k : Int) < (m : Int) := by omega
   go_wp2_with fail
   go_quiet (fail)
   go_wp2
   go_roundw
   case rel =>
    refine ⟨_, k + 1, rfl, fun hf => ?_, by omega, by go_num, HBr.out.trans ((bel_drewN _ _).mono HBr.out.size)⟩
    obtain ⟨h1, h2⟩ := HZ.out hf
    have h3 := hf.2 x (List.mem_of_getElem? HX.out)
    have h4 := hf.1
    have h5 : k ≤ 2000000 := by have := HM.out; omega
    have h6 : wrap64 (z + (1 + (x.c.length : Int) + (x.keep.length : Int) / 8)) = z + (1 + (x.c.length : Int) + (x.keep.length : Int) / 8) := by unfold wrap64; omega
    rw [h6]
    omega
   case measure => simp [intOf]; omega
  ·obtain rfl : k = m := by omega
   have hm2 : ¬ (k : Int) < (k : Int) := by omega
   have HBr := Lib.hid hbel
   clear hbel
   by_cases h60 : 200 < z
   ·go_wp2
    go_ret
    exact ⟨true, rfl, fun h => (by cases h), HBr.out⟩
   ·go_wp2
    go_ret
    refine ⟨_, rfl, fun _ hf => ?_, HBr.out⟩
    have h1 := (HZ.out hf).1
    have h2 := HM.out
    omega
end Go.Proofs.YtmbkaedhllfoeaaGreat
namespace Go.Proofs.YtmbkaedhllfoeaaGreat
open Go.RowKit Go.Rst Go.Dv Go.Crc Go.Str Go.Pg
def cOf (l : List UInt8) : List Chg := (rowsAt l (nrows l 6)).map chgOf
theorem cOf_few (l : List UInt8) : (cOf l).length ≤ 6 ∧ sizesC (cOf l) ≤ 1200 ∧ readChgs (chgsL (cOf l)) = (cOf l, 0) := by
 have h1 : (cOf l).length ≤ 6 := by unfold cOf; rw [List.length_map, rowsAt_length]; exact nrows_le l 6
 refine ⟨h1, ?_, readChgs_back _ (by omega) (madeC_short l _)⟩
 have := madeC_sizes l (nrows l 6)
 have h2 := nrows_le l 6
 unfold cOf
 omega
theorem fb_lit1 {w : World} {b0 k : Nat} (hb : b0 ≤ w.heap.size) (hk : k ≤ 255) : FB 5 (w.alloc (.cells #[.int .u8 (k : Int)] 5)) b0 (.slice (some ⟨w.heap.size, 0, none⟩) 1 1) [UInt8.ofNat k] := by
 refine .inr ⟨w.heap.size, 1, _, _, rfl, hb, heap_alloc_new w _, Nat.le_refl _, by unfold maxLen; omega, ?_⟩
 have h := bv_nat (n := k) (by omega)
 simp [bvs, ← h]
theorem commit_three {x : Ss} {cs : List Chg} (hne : cs ≠ []) : ((commitR x cs).2 = 3 ↔ cs.any longC = true) := by
 unfold commitR
 rw [if_neg hne]
 by_cases h : cs.any longC = true
 ·rw [if_pos h]
  exact ⟨fun _ => h, fun _ => rfl⟩
 ·rw [if_neg h]
  refine ⟨fun h2 => ?_, fun h2 => (h h2).elim⟩
  split at h2
  ·cases h2
  ·split at h2
   ·cases h2
   ·split at h2
    ·cases h2
    ·split at h2
     ·cases h2
     ·cases h2
theorem long_one (key : ByteArray) (b : UInt8) : ([(key, [b], false)] : List Chg).any longC = decide (30 < key.size) := by
 simp [longC]
theorem size_open (k : Nat) : openR (formatS (Sim.new (sizeN k))) = (0, openedS (Sim.new (sizeN k))) ∧ InvS (openedS (Sim.new (sizeN k))) ∧ (openedS (Sim.new (sizeN k))).d.fuse = none ∧ (openedS (Sim.new (sizeN k))).n = sizeN k ∧ (formatS (Sim.new (sizeN k))).loose = [] ∧ 64 ≤ (formatS (Sim.new (sizeN k))).firm.length := by
 obtain ⟨h1, h2⟩ := sizeN_in k
 have h := open_format (s := Sim.new (sizeN k)) (OK.new (by omega)) rfl rfl (by rw [new_firm]; exact h1)
 rw [new_firm] at h
 exact h
theorem pair_own {k : Nat} {w w' : World} {dg : Nat} {tv : Value} {B : Nat} (hB : B ≤ w.heap.size) (h : (∃ (D : Nat → Prop) (m : Nat), Dev D w' (dp dg) (Sim.new (sizeN k)) ∧ (∀ j, D j → w.heap.size ≤ j ∧ j < m) ∧ TRd (fun j => j < m) w' tv (Sim.new (sizeN k)))) (hs : w.heap.size ≤ w'.heap.size) :
  Dv.Own B w' (dp dg) (Sim.new (sizeN k)) ∧ ∃ v0 v1 v2 v3 v4 v5, tv = .agg #[v0, v1, v2, v3, v4, v5] ∧ (∃ a c, v0 = .slice a (sizeN k) c) ∧ (∃ c a, v1 = .slice a 0 c) ∧ (∃ n, v2 = .int .i64 n) ∧ (∃ n, v3 = .int .i64 n) ∧ (∃ n, v4 = .bool n) ∧ (∃ n, v5 = .int .i64 n) := by
 obtain ⟨D, m, h1, h2, vS, vL, lf, c2, c3, rfl, hS, hL, _⟩ := h
 obtain ⟨aS, cS, rfl, _⟩ := hS.shape
 obtain ⟨aL, cL, rfl, _⟩ := hL.shape
 rw [new_firm]
 exact ⟨⟨D, h1, fun j hj => Nat.le_trans hB (h2 j hj).1, Nat.le_trans hB hs⟩, _, _, _, _, _, _, rfl, ⟨_, _, rfl⟩, ⟨_, _, rfl⟩, ⟨_, rfl⟩, ⟨_, rfl⟩, ⟨_, rfl⟩, ⟨_, rfl⟩⟩
set_option maxRecDepth 100000 in
set_option maxHeartbeats 4000000 in
theorem gets_walk (k : Nat) (lv : Value) (ds : List Deed) (key : ByteArray) (w : World) (hk : k ≤ 255) (hd : DS w lv ds) :
  Calls Tryz.prog 8 #[.int .u8 (k : Int), lv, .string key] w fun e w' => e = .returned (.bool true) ∧ Below w.heap.size w w' := by
 have HD := Lib.hid hd
 have hmu := muchS_any hd
 have HMU := Lib.hid hmu
 obtain ⟨A, c, rfl, hl, _⟩ := hd
 obtain ⟨m, hm⟩ : ∃ m, m = ds.length := ⟨_, rfl⟩
 rw [← hm] at HD hl HMU ⊢
 have HM := Lib.hid hm
 clear hm hmu
 go_enter Tryz.func8, Tryz.ntmps8
 go_wp2_with fail
 go_at_call 9
 refine HMU.out.mono ?_
 rintro e w1 ⟨r, rfl, _, hb1⟩
 have HB1 := Lib.hid hb1
 have HKN := Lib.hid knownS_any
 clear hb1
 -- what ends with known
 cases r with
 | true =>
  go_wp2_with fail
  go_at_call 10
  refine (HKN.out _).mono ?_
  rintro e w2 ⟨rfl, hb2⟩
  have HB2 := Lib.hid (HB1.out.trans (hb2.mono HB1.out.size))
  clear hb2
  go_wp2
  go_ret
  exact ⟨rfl, HB2.out⟩
 | false =>
  by_cases hkl : 60 < key.size
  ·have hkl2 : (60 : Int) < (key.size : Int) := by omega
   go_wp2_with fail
   go_at_call 10
   refine (HKN.out _).mono ?_
   rintro e w2 ⟨rfl, hb2⟩
   have HB2 := Lib.hid (HB1.out.trans (hb2.mono HB1.out.size))
   clear hb2
   go_wp2
   go_ret
   exact ⟨rfl, HB2.out⟩
  ·have hkl2 : ¬ (60 : Int) < (key.size : Int) := by omega
   have HKL := Lib.hid hkl
   clear hkl
   go_wp2_with fail
   go_at_call 11
   refine (pair_any 5 (by omega) w1).mono ?_
   rintro e w2 ⟨dg, tv, rfl, hpr, hb2⟩
   obtain ⟨hown, v0, v1, v2, v3, v4, v5, rfl, ⟨_, _, rfl⟩, ⟨_, _, rfl⟩, ⟨_, rfl⟩, ⟨_, rfl⟩, ⟨_, rfl⟩, ⟨_, rfl⟩⟩ := pair_own (B := w.heap.size) HB1.out.size hpr hb2.size
   obtain ⟨o1, o2, o3, o4, o5, o6⟩ := size_open 5
   have hof := fun X (hX : Below w2.heap.size w2 X) => own_formatS (w := X) (hown.below hX) (by rw [new_firm]; exact (sizeN_in 5).1) (Nat.zero_le _)
   obtain ⟨Y, hY⟩ : ∃ Y, Y = openedS (Sim.new (sizeN 5)) := ⟨_, rfl⟩
   obtain ⟨Q, hQ⟩ : ∃ Q, Q = formatS (Sim.new (sizeN 5)) := ⟨_, rfl⟩
   rw [← hY] at o1 o2
   rw [← hQ] at o1 o5 o6 hof
   have HOF := Lib.hid hof
   have HO1 := Lib.hid o1
   have HI := Lib.hid o2
   have HO5 := Lib.hid o5
   have HO6 := Lib.hid o6
   have HB2 := Lib.hid (HB1.out.trans (hb2.mono HB1.out.size))
   clear hpr hb2 hown o1 o2 o3 o4 o5 o6 hof hY hQ
   go_wp2_with fail
   go_at_call 12
   refine (HOF.out _ ((Below.refl _ _).alloc (Nat.le_refl _) _)).mono ?_
   rintro e w3 ⟨rfl, hown3, hb3⟩
   have hb3' := (HB2.out.alloc HB2.out.size _).trans hb3
   have HB3 := Lib.hid hb3'
   have HOP := Lib.hid (own_openOk hown3 HO6.out HO5.out HO1.out)
   clear hown3 hb3 hb3'
   go_wp2_with fail
   go_at_call 14
   refine HOP.out.mono ?_
   rintro e w4 ⟨sv, rfl, hst, hb4⟩
   have HB4 := Lib.hid (HB3.out.trans hb4)
   obtain ⟨g, rfl⟩ := hst.ptr
   have HST := Lib.hid hst
   clear hst hb4
   go_wp2_with fail
   go_loopw [11] (fun i wr => ∃ (j : Nat) (x : Ss), j ≤ m ∧ i = .int .i64 j ∧ InvS x ∧ OwnS w.heap.size dg wr (.pointer (some ⟨g, 0, none⟩)) x ∧ Below w.heap.size w wr) (fun i _ => m - (intOf i).toNat)
   case atStart => exact ⟨0, Y, Nat.zero_le _, rfl, HI.out, HST.out, HB4.out⟩
   case round =>
    obtain ⟨j, x, hj, rfl, hI, hS, hbw⟩ := hrel
    have HIx := Lib.hid hI
    have HSx := Lib.hid hS
    have HBw := Lib.hid hbw
    clear hI hS hbw
    by_cases hlt : j < m
    ·obtain ⟨b, off, dx, hA, hbb, _, hdx⟩ := (HD.out.below HBw.out).at_ HM.out hlt
     subst hA
     obtain ⟨_, ⟨u2, d2, hru⟩, _, _, _, _, hcl, _⟩ := hdx
     have hch := changeList_any u2 dx.c 6 (by omega) wr hru (by omega)
     obtain ⟨A2, c2, rfl⟩ := rb_shape hru
     have HCH := Lib.hid hch
     obtain ⟨cs, hcs⟩ : ∃ cs, cs = cOf dx.c := ⟨_, rfl⟩
     have hfew := cOf_few dx.c
     rw [← hcs] at hfew
     have HCS := Lib.hid (show cs = (rowsAt dx.c (nrows dx.c 6)).map chgOf from hcs)
     have HFEW := Lib.hid hfew
     rw [← HCS.out] at HCH
     have i6 : (j : Int) < (m : Int) := by omega
     clear hch hcs hfew hru
     go_wp2_with fail
     go_at_call 23
     refine HCH.out.mono ?_
     rintro e w5 ⟨cv, rfl, hoc, hb5⟩
     have hcm := own_commitS HSx.out hb5 HIx.out.good hoc (by have := HFEW.out.1; omega) (by have := HFEW.out.2.1; omega)
     obtain ⟨A5, c5, rfl, hc5⟩ := rc_shape hoc.rc
     obtain ⟨R, hR⟩ : ∃ R, R = commitR x cs := ⟨_, rfl⟩
     obtain ⟨s1, _, _, _, _, s6, s7⟩ := commit_step (cs := cs) HIx.out (fun _ => HFEW.out.2.2)
     rw [← hR] at hcm s1 s6 s7
     have HCM := Lib.hid hcm
     have HI5 := Lib.hid s1
     have HOK := Lib.hid s6
     have HNO := Lib.hid s7
     have HB5 := Lib.hid (HBw.out.trans (hb5.mono HBw.out.size))
     clear hcm hR s1 s6 s7 hb5 hoc
     go_wp2_with fail
     go_at_call 25
     refine HCM.out.mono ?_
     rintro e w6 ⟨rfl, hs6, hb6, hoc6⟩
     have HS6 := Lib.hid hs6
     have HOC6 := Lib.hid hoc6
     have HB6 := Lib.hid (HB5.out.trans hb6)
     clear hs6 hb6 hoc6
     by_cases h0 : R.2 = 0
     ·have hz : (R.2 : Int) = 0 := by omega
      have HOK2 := Lib.hid (HOK.out h0)
      rw [hz]
      clear h0 hz
      obtain ⟨n, hn⟩ : ∃ n, n = cs.length := ⟨_, rfl⟩
      rw [← hn] at hc5 ⊢
      have hn6 : n ≤ 6 := by rw [hn]; exact HFEW.out.1
      have HN := Lib.hid hn
      clear hn
      go_wp2_with fail
      go_loopw [13] (fun i wq => ∃ q : Int, i = .int .i64 q ∧ (q = (n : Int) - 1 ∨ (q = (n : Int) - 2 ∧ 0 < n)) ∧ Below w6.heap.size w6 wq) (fun i _ => (intOf i - ((n : Int) - 2)).toNat)
      case atStart => exact ⟨_, rfl, .inl rfl, Below.refl _ _⟩
      case round =>
       obtain ⟨q, rfl, hq, hbq⟩ := hrel
       have HBq := Lib.hid hbq
       clear hbq
       by_cases hp : q = (n : Int) - 1 ∧ 0 < n
       ·obtain ⟨p, hpn⟩ : ∃ p, n = p + 1 := ⟨n - 1, by omega⟩
        have hqp : q = (p : Int) := by omega
        subst hqp
        have hpc : p < cs.length := by have := HN.out; omega
        have hq1 : (n : Int) ≤ (p : Int) + 1 := by omega
        have hq2 : (p : Int) < (n : Int) := by omega
        have HPN := Lib.hid hpn
        obtain ⟨b1, o1, u1, hA5, e0, e1, e2, e3⟩ := rc_at (HOC6.out.below HBq.out).rc hpc
        obtain ⟨b9, o9, u9, hA9, _, hb9⟩ : ∃ b9 o9 u9, A5 = some ⟨b9, o9, none⟩ ∧ u9 = u1 ∧ True := ⟨b1, o1, u1, hA5, rfl, trivial⟩
        have hlast : cs = cs.take p ++ [cs[p]] := by
         have h1 := List.take_append_drop p cs
         rw [List.drop_eq_getElem_cons hpc, List.drop_eq_nil_of_le (by have := HN.out; omega)] at h1
         exact h1.symm
        have hlk : lk R.1.rows cs[p].1.toList = effL cs[p] := by
         rw [HOK2.out.2]
         conv => lhs; arg 1; rw [hlast]
         rw [applyL_snoc, lk_step, if_pos rfl]
        have hget := own_getS (HS6.out.below HBq.out) HI5.out.good cs[p].1
        rw [hlk] at hget
        have hcx : ∀ X, Below wr.heap.size wr X → ∃ u, X.cell? ⟨b1, o1 + p * 3 + 1, none⟩ = some u ∧ RB X u cs[p].2.1 ∧ X.cell? ⟨b1, o1 + p * 3 + 2, none⟩ = some (.bool cs[p].2.2) := by
         intro X hX
         obtain ⟨b2, o2, u2, hA6, f0, f1, f2, f3⟩ := rc_at (HOC6.out.below (HBq.out.trans (hX.mono HBq.out.size))).rc hpc
         rw [hA5] at hA6
         injection hA6 with hA6
         injection hA6 with q1 q2
         subst q1
         subst q2
         exact ⟨u2, f1, f2, f3⟩
        subst hA5
        clear hb9 hA9 hlast hlk
        generalize cs[p] = z at *
        obtain ⟨zk, zv, zg⟩ := z
        have HGET := Lib.hid hget
        have HCX := Lib.hid hcx
        clear hget hcx e1 e2 e3 hp hq hpn
        go_wp2_with fail
        go_at_call 35
        refine HGET.out.mono ?_
        rintro e w8 ⟨gv, rfl, hgf, hb8⟩
        obtain ⟨u2, f1, f2, f3⟩ := HCX.out w8 hb8
        have hg1 := fun j => str22 (hgf.rb.keep (w' := w8.drewN j) (Nat.le_refl _) (fun _ _ _ => rfl))
        have hg2 := fun j => str22 (f2.keep (w' := w8.drewN j) (Nat.le_refl _) (fun _ _ _ => rfl))
        obtain ⟨A8, c8, rfl⟩ := hgf.shape
        obtain ⟨A9, c9, rfl⟩ := rb_shape f2
        have HB8 := Lib.hid (HBq.out.trans (hb8.mono HBq.out.size))
        clear hgf f2 hb8
        cases zg with
        | true =>
         simp only [effL, if_true, Option.isSome_none, Option.getD_none] at hg1 ⊢
         go_wp2
         go_quiet (fail)
         go_wp2
         go_roundw
         case rel => exact ⟨(p : Int) - 1, rfl, .inr ⟨by have := HPN.out; omega, by omega⟩, HB8.out.trans ((bel_drewN _ _).mono HB8.out.size)⟩
         case measure => simp [intOf]; omega
        | false =>
         simp only [effL, Bool.false_eq_true, if_false, Option.isSome_some, Option.getD_some] at hg1 ⊢
         go_wp2
         go_quiet (fail)
         go_wp2
         go_roundw
         case rel => exact ⟨(p : Int) - 1, rfl, .inr ⟨by have := HPN.out; omega, by omega⟩, HB8.out.trans ((bel_drewN _ _).mono HB8.out.size)⟩
         case measure => simp [intOf]; omega
       ·by_cases hq0 : 0 ≤ q
        ·have hq3 : ¬ (n : Int) - 1 ≤ q := by omega
         have hq4 : q < (n : Int) - 1 := by omega
         clear hp hq
         go_wp2
         go_roundw
         case rel => exact ⟨j + 1, R.1, by omega, by go_num, HI5.out, HS6.out.below HBq.out, HB6.out.trans (HBq.out.mono HB6.out.size)⟩
         case measure => simp [intOf]; omega
        ·have hq3 : q < 0 := by omega
         clear hp hq
         go_wp2
         go_roundw
         case rel => exact ⟨j + 1, R.1, by omega, by go_num, HI5.out, HS6.out.below HBq.out, HB6.out.trans (HBq.out.mono HB6.out.size)⟩
         case measure => simp [intOf]; omega
     ·have hz : ¬ (R.2 : Int) = 0 := by omega
      clear h0
      go_wp2_with fail
      go_at_call 10
      refine (HKN.out _).mono ?_
      rintro e w7 ⟨rfl, hb7⟩
      have HB7 := Lib.hid (HB6.out.trans (hb7.mono HB6.out.size))
      clear hb7
      go_wp2
      go_ret
      exact ⟨rfl, HB7.out⟩
    ·obtain rfl : j = m := by omega
     have hm2 : ¬ (j : Int) < (j : Int) := by omega
     go_wp2_with fail
     go_at_call 25
     obtain ⟨W, hW⟩ : ∃ W, W = (wr.alloc (Obj.cells #[Value.int IntKind.u8 (k : Int)] 5)).alloc (Obj.cells #[Value.string key, Value.slice (some ⟨wr.heap.size, 0, none⟩) 1 1, Value.bool false] 76) := ⟨_, rfl⟩
     obtain ⟨cs, hcs⟩ : ∃ cs : List Chg, cs = [(key, [UInt8.ofNat k], false)] := ⟨_, rfl⟩
     have hoc : OC 5 76 W wr.heap.size (.slice (some ⟨wr.heap.size + 1, 0, none⟩) 1 1) cs := by
      have h := oc_lit1 (w := wr.alloc (Obj.cells #[Value.int IntKind.u8 (k : Int)] 5)) (k := key) (g := false) (fb_lit1 (w := wr) (Nat.le_refl _) hk) (by simp)
      rw [World.size_alloc] at h
      rw [hW, hcs]
      exact h
     have hbW : Below wr.heap.size wr W := by
      rw [hW]
      exact ((Below.refl _ _).alloc (Nat.le_refl _) _).alloc (by simp) _
     rw [← hW]
     obtain ⟨R, hR⟩ : ∃ R, R = commitR x cs := ⟨_, rfl⟩
     have h3 := commit_three (x := x) (cs := cs) (by rw [hcs]; simp)
     have hlg : cs.any longC = decide (30 < key.size) := by rw [hcs]; exact long_one _ _
     obtain ⟨s1, _, _, _, _, s6, s7⟩ := commit_step (cs := cs) HIx.out (fun hl => by
      rw [hcs]
      refine readChgs_back _ (by simp) (fun c hc => ?_)
      simp only [List.mem_singleton] at hc
      subst hc
      rw [hlg] at hl
      have := of_decide_eq_false hl
      exact ⟨by show key.data.toList.length ≤ 30; rw [size_list]; omega, by simp, fun h => by cases h⟩)
     have hcm := own_commitS HSx.out hbW HIx.out.good hoc (by rw [hcs]; simp) (by rw [hcs, sizesC_one]; show key.size + 1 ≤ 90000; have := HKL.out; omega)
     rw [← hR] at h3 s1 s6 s7 hcm
     have hlk : R.2 = 0 → lk R.1.rows key.toList = some [UInt8.ofNat k] := by
      intro h0
      rw [(s6 h0).2, hcs]
      show lk (stepL x.rows (key, [UInt8.ofNat k], false)) key.toList = _
      rw [lk_step, if_pos rfl]
      rfl
     have HLK := Lib.hid hlk
     have H3 := Lib.hid (show R.2 = 3 ↔ 30 < key.size by rw [h3, hlg]; exact decide_eq_true_iff)
     have HI9 := Lib.hid s1
     have HCM := Lib.hid hcm
     have HBW := Lib.hid (HBw.out.trans (hbW.mono HBw.out.size))
     clear hW hcs hoc hbW hR h3 hlg s1 s6 s7 hcm hlk
     refine HCM.out.mono ?_
     rintro e w5 ⟨rfl, hs5, hb5, _⟩
     have HB5 := Lib.hid (HBW.out.trans hb5)
     have HG := Lib.hid (own_getS hs5 HI9.out.good key)
     clear hs5 hb5
     go_wp2_with fail
     go_at_call 35
     refine HG.out.mono ?_
     rintro e w6 ⟨gv, rfl, hgf, hb6⟩
     have HB6 := Lib.hid (HB5.out.trans (hb6.mono HB5.out.size))
     by_cases h30 : 30 < key.size
     ·have hR3 := H3.out.2 h30
      have hk30 : (30 : Int) < (key.size : Int) := by omega
      have hd30 : decide ((30 : Int) < (key.size : Int)) = true := decide_eq_true hk30
      obtain ⟨A6, c6, rfl⟩ := hgf.shape
      have hR3' : (R.2 : Int) = 3 := by omega
      rw [hR3']
      clear hgf hb6 hR3 hR3' h30
      go_wp2_with (go_at_call 10; refine (HKN.out _).mono ?_; rintro e w7 ⟨rfl, hb7⟩)
      go_wp2
      go_ret
      exact ⟨rfl, HB6.out.trans (hb7.mono HB6.out.size)⟩
     ·have hR3 : ¬ R.2 = 3 := fun h => h30 (H3.out.1 h)
      have hk30 : ¬ (30 : Int) < (key.size : Int) := by omega
      have hd30 : decide ((30 : Int) < (key.size : Int)) = false := decide_eq_false hk30
      have hb3 : ((R.2 : Int) == 3) = false := by rw [beq_eq_false_iff_ne]; omega
      have hR3' : ¬ (R.2 : Int) = 3 := by omega
      by_cases h0 : R.2 = 0
      ·rw [HLK.out h0] at hgf ⊢
       simp only [Option.isSome_some, Option.getD_some] at hgf ⊢
       obtain ⟨A6, c6, rfl⟩ := hgf.shape
       have h0' : (R.2 : Int) = 0 := by omega
       rw [h0']
       clear hgf hb6 hR3 hR3' h30 h0 h0'
       go_wp2_with (go_at_call 10; refine (HKN.out _).mono ?_; rintro e w7 ⟨rfl, hb7⟩)
       go_wp2
       go_ret
       exact ⟨rfl, HB6.out.trans (hb7.mono HB6.out.size)⟩
      ·have h0' : ¬ (R.2 : Int) = 0 := by omega
       have hb0 : ((R.2 : Int) == 0) = false := by rw [beq_eq_false_iff_ne]; omega
       obtain ⟨A6, c6, rfl⟩ := hgf.shape
       clear hgf hb6 hR3 h30 h0
       go_wp2_with (go_at_call 10; refine (HKN.out _).mono ?_; rintro e w7 ⟨rfl, hb7⟩)
       go_wp2
       go_ret
       exact ⟨rfl, HB6.out.trans (hb7.mono HB6.out.size)⟩
end Go.Proofs.YtmbkaedhllfoeaaGreat
namespace Go.Proofs.YtmbkaedhllfoeaaGreat
open Go.RowKit Go.Rst Go.Dv Go.Crc Go.Str Go.Pg
def OwnX (P : Nat → Prop) (B : Nat) (w : World) (v : Value) (s : Sim) : Prop := ∃ D : Nat → Prop, Dev D w v s ∧ (∀ k, D k → B ≤ k ∧ ¬ P k) ∧ B ≤ w.heap.size ∧ ∀ k, P k → k < w.heap.size
def OwnSX (P : Nat → Prop) (B dg : Nat) (w : World) (sv : Value) (x : Ss) : Prop := ∃ M : Nat → Prop, Sto dg M w sv x ∧ (∀ k, M k → B ≤ k ∧ ¬ P k) ∧ B ≤ w.heap.size ∧ ∀ k, P k → k < w.heap.size
structure Stay (P : Nat → Prop) (B : Nat) (w w' : World) : Prop where
 bel : Below B w w'
 same : ∀ k, P k → w'.heap[k]? = w.heap[k]?
section
variable {P P' : Nat → Prop} {B dg : Nat} {w w' w0 : World} {sv v : Value} {x : Ss} {s : Sim}
theorem Stay.ro (h : Stay P B w w') {rv : Value} {rs : List Rw} (hr : RO P w rv rs) : RO P w' rv rs := hr.keep h.bel.size h.same
theorem Stay.trans_ {a : World} (h : Stay P B a w) (k : Stay P B w w') : Stay P B a w' := ⟨h.bel.trans k.bel, fun j hj => (k.same j hj).trans (h.same j hj)⟩
theorem Stay.of_below (h : Below w.heap.size w w') (hB : B ≤ w.heap.size) (hP : ∀ k, P k → k < w.heap.size) : Stay P B w w' := ⟨h.mono hB, fun k hk => h.block k (hP k hk)⟩
theorem ro_more {R R' : Nat → Prop} {rv : Value} {rs : List Rw} (h : RO R w rv rs) (hR : ∀ k, R k → R' k) : RO R' w rv rs := fun w' h1 h2 => h w' h1 (fun k hk => h2 k (hR k hk))
theorem OwnX.below (h : OwnX P B w v s) (hb : Below w.heap.size w w') : OwnX P B w' v s := by
 obtain ⟨D, h1, h2, h3, h4⟩ := h
 exact ⟨D, h1.below hb, h2, Nat.le_trans h3 hb.size, fun k hk => Nat.lt_of_lt_of_le (h4 k hk) hb.size⟩
theorem OwnSX.below (h : OwnSX P B dg w sv x) (hb : Below w.heap.size w w') : OwnSX P B dg w' sv x := by
 obtain ⟨D, h1, h2, h3, h4⟩ := h
 exact ⟨D, h1.below hb, h2, Nat.le_trans h3 hb.size, fun k hk => Nat.lt_of_lt_of_le (h4 k hk) hb.size⟩
theorem OwnSX.own (h : OwnSX P B dg w sv x) : OwnS B dg w sv x := by
 obtain ⟨M, h1, h2, h3, h4⟩ := h
 exact ⟨M, h1, fun k hk => (h2 k hk).1, h3⟩
theorem OwnS.sx (h : OwnS B dg w sv x) : OwnSX (fun _ => False) B dg w sv x := by
 obtain ⟨M, h1, h2, h3⟩ := h
 exact ⟨M, h1, fun k hk => ⟨h2 k hk, fun h => h⟩, h3, fun _ h => h.elim⟩
theorem OwnSX.dev (h : OwnSX P B dg w sv x) : OwnX P B w (dp dg) x.d := by
 obtain ⟨M, ⟨D, R, g, rv, _, h1⟩, h2, h3⟩ := h
 exact ⟨D, h1.dev, fun k hk => h2 k ((h1.hM k).2 (.inl hk)), h3⟩
theorem OwnSX.more (h : OwnSX P B dg w sv x) (hb : Below w.heap.size w w') (hP : ∀ k, P' k → P k ∨ (w.heap.size ≤ k ∧ k < w'.heap.size)) : OwnSX P' B dg w' sv x := by
 obtain ⟨M, h1, h2, h3, h4⟩ := h
 refine ⟨M, h1.below hb, fun k hk => ⟨(h2 k hk).1, fun hp => ?_⟩, Nat.le_trans h3 hb.size, fun k hk => ?_⟩
 ·rcases hP k hp with h | h
  ·exact (h2 k hk).2 h
  ·have := h1.lt k hk; omega
 ·rcases hP k hk with h | h
  ·have := h4 k h; have := hb.size; omega
  ·exact h.2
theorem OwnX.more (h : OwnX P B w v s) (hb : Below w.heap.size w w') (hP : ∀ k, P' k → P k ∨ (w.heap.size ≤ k ∧ k < w'.heap.size)) : OwnX P' B w' v s := by
 obtain ⟨M, h1, h2, h3, h4⟩ := h
 refine ⟨M, h1.below hb, fun k hk => ⟨(h2 k hk).1, fun hp => ?_⟩, Nat.le_trans h3 hb.size, fun k hk => ?_⟩
 ·rcases hP k hp with h | h
  ·exact (h2 k hk).2 h
  ·have := h1.lt k hk; omega
 ·rcases hP k hk with h | h
  ·have := h4 k h; have := hb.size; omega
  ·exact h.2
theorem did_x {D : Nat → Prop} (hD : ∀ k, D k → B ≤ k ∧ ¬ P k) (hB : B ≤ w.heap.size) (hP : ∀ k, P k → k < w.heap.size) (h : Did D w v s w') : OwnX P B w' v s ∧ Stay P B w w' := by
 obtain ⟨E, h1, h2, h3⟩ := h
 refine ⟨⟨E, h1, fun k hk => ?_, Nat.le_trans hB h2.size, fun k hk => Nat.lt_of_lt_of_le (hP k hk) h2.size⟩, h2.below (fun k hk => (hD k hk).1) hB, fun k hk => h2.block k (hP k hk) (fun hd => (hD k hd).2 hk)⟩
 rcases h3 k hk with h | h
 ·exact hD k h
 ·exact ⟨Nat.le_trans hB h, fun hp => by have := hP k hp; omega⟩
theorem sdid_x {M : Nat → Prop} (hM : ∀ k, M k → B ≤ k ∧ ¬ P k) (hB : B ≤ w.heap.size) (hP : ∀ k, P k → k < w.heap.size) (h : SDid dg M w sv x w') : OwnSX P B dg w' sv x ∧ Stay P B w w' := by
 obtain ⟨E, h1, h2, h3⟩ := h
 refine ⟨⟨E, h1, fun k hk => ?_, Nat.le_trans hB h2.size, fun k hk => Nat.lt_of_lt_of_le (hP k hk) h2.size⟩, h2.below (fun k hk => (hM k hk).1) hB, fun k hk => h2.block k (hP k hk) (fun hd => (hM k hd).2 hk)⟩
 rcases h3 k hk with h | h
 ·exact hM k h
 ·exact ⟨Nat.le_trans hB h, fun hp => by have := hP k hp; omega⟩
theorem ox_fuse (n : Int) (hn : n ≤ 1000) (h : OwnX P B w v s) : Calls Tryz.prog 17 #[v, .int .i64 n] w fun e w' => e = .returned (.tuple #[]) ∧ OwnX P B w' v (s.setFuse n) ∧ Stay P B w w' := by
 obtain ⟨D, hd, hD, hB, hP⟩ := h
 refine (fuse_any n hn hd).mono ?_
 rintro e w' ⟨he, hf, hd'⟩
 exact ⟨he, did_x hD hB hP (Did.same hd' hf)⟩
theorem ox_crash (kv : Value) (K : List Bool) (h : OwnX P B w v s) (hK : BK w0 kv K) (hb : Below B w0 w) (h0 : w0.heap.size ≤ B) : Calls Tryz.prog 21 #[v, kv] w fun e w' => e = .returned (.tuple #[]) ∧ OwnX P B w' v (s.crash K) ∧ Stay P B w w' := by
 obtain ⟨D, hd, hD, hB, hP⟩ := h
 have hK' : KB D w kv K := by
  obtain ⟨A, c, rfl, h1⟩ := hK
  refine ⟨A, c, rfl, h1.imp id fun ⟨b, off, e, hbl, hc⟩ => ⟨b, off, e, Nat.lt_of_lt_of_le hbl hb.size, fun hd2 => by have := (hD b hd2).1; omega, fun j hj => ?_⟩⟩
  exact (World.cell?_of_block (a := ⟨b, off + j, none⟩) (hb.block b (by omega))).trans (hc j hj)
 refine (crash_any kv K hd hK').mono ?_
 rintro e w' ⟨he, hf, hd'⟩
 exact ⟨he, did_x hD hB hP (Did.same hd' hf)⟩
theorem ox_traffic (h : OwnX P B w v s) : Calls Tryz.prog 33 #[v] w fun e w' => e = .returned (.complex .f64 s.nw s.nf) ∧ w = w' := by
 obtain ⟨D, hd, hD, hB⟩ := h
 exact traffic_any hd
theorem ox_open {y : Ss} (h : OwnX P B w (dp dg) s) (hn : 64 ≤ s.firm.length) (hlo : s.loose = []) (ho : openR s = (0, y)) :
  Calls Tryz.prog 14 #[dp dg] w fun e w' => ∃ sv, e = .returned (.tuple #[sv, .int .u16 0]) ∧ OwnSX P B dg w' sv y ∧ Stay P B w w' := by
 obtain ⟨D, hd, hD, hB, hP⟩ := h
 refine (open_any hd hn (by rw [hlo]; exact Nat.zero_le _) (fun _ => hlo)).mono ?_
 rintro e w' ⟨sv, he, h4⟩
 rw [ho] at he h4
 rcases h4 with ⟨a1, _⟩ | ⟨_, M', a2, a3, a4⟩
 ·exact (a1 rfl).elim
 ·refine ⟨sv, he, ⟨M', a2, fun k hk => ?_, Nat.le_trans hB a3.size, fun k hk => Nat.lt_of_lt_of_le (hP k hk) a3.size⟩, a3.below (fun k hk => (hD k hk).1) hB, fun k hk => a3.block k (hP k hk) (fun hd2 => (hD k hd2).2 hk)⟩
  rcases a4 k hk with h | h
  ·exact hD k h
  ·exact ⟨Nat.le_trans hB h, fun hp => by have := hP k hp; omega⟩
theorem sx_commit {lv : Value} {cs : List Chg} (h : OwnSX P B dg w0 sv x) (hbel : Below w0.heap.size w0 w) (hG : GoodX x) (hc : OC 5 76 w w0.heap.size lv cs) (hcn : cs.length ≤ 5000) (hcs : sizesC cs ≤ 90000) :
  Calls Tryz.prog 25 #[sv, lv] w fun e w' => e = .returned (.int .u16 ((commitR x cs).2 : Int)) ∧ OwnSX P B dg w' sv (commitR x cs).1 ∧ Stay P B w w' ∧ OC 5 76 w' w0.heap.size lv cs := by
 obtain ⟨M, h1, h2, h3, h4⟩ := h
 obtain ⟨q1, q2⟩ := chgsB_few cs hcs
 refine (commit_any (h1.below hbel) hG (oc_co hc h1.lt) (by omega) (by omega) q2).mono ?_
 rintro e w' ⟨he, hd⟩
 obtain ⟨a1, a2⟩ := sdid_x h2 (Nat.le_trans h3 hbel.size) (fun k hk => Nat.lt_of_lt_of_le (h4 k hk) hbel.size) hd
 obtain ⟨M', _, d2, _⟩ := hd
 exact ⟨he, a1, a2, oc_fr hc d2 h1.lt⟩
theorem sx_fuse (n : Int) (hn : n ≤ 1000) (h : OwnSX P B dg w sv x) : Calls Tryz.prog 17 #[dp dg, .int .i64 n] w fun e w' => e = .returned (.tuple #[]) ∧ OwnSX P B dg w' sv { x with d := x.d.setFuse n } ∧ Stay P B w w' := by
 obtain ⟨M, ⟨D, R, g, rv, h0, h1⟩, h2, h3, h4⟩ := h
 refine (fuse_any n hn h1.dev).mono ?_
 rintro e w' ⟨he, hf, hd'⟩
 have hDM : ∀ k, D k → B ≤ k ∧ ¬ P k := fun k hk => h2 k ((h1.hM k).2 (.inl hk))
 exact ⟨he, ⟨_, ⟨D, R, g, rv, h0, h1.redev hf hd' (fun k hk => .inl hk)⟩, fun k hk => h2 k ((h1.hM k).2 hk), Nat.le_trans h3 hf.size, fun k hk => Nat.lt_of_lt_of_le (h4 k hk) hf.size⟩, hf.below (fun k hk => (hDM k hk).1) h3, fun k hk => hf.block k (h4 k hk) (fun hd2 => (hDM k hd2).2 hk)⟩
end
end Go.Proofs.YtmbkaedhllfoeaaGreat
namespace Go.Proofs.YtmbkaedhllfoeaaGreat
open Go.RowKit Go.Rst Go.Dv Go.Crc Go.Str Go.Pg
def Mtr (T : Nat) (s : Sim) : Prop := ∃ a b k, s.nw = fb a ∧ s.nf = fb b ∧ s.fuse = some k ∧ a + b + k = T
def Mon (T : Nat) (s s' : Sim) : Prop := ∀ a b k, s.nw = fb a → s.nf = fb b → s.fuse = some k → a + b + k = T → ∃ a' b' k', s'.nw = fb a' ∧ s'.nf = fb b' ∧ s'.fuse = some k' ∧ a' + b' + k' = T ∧ a ≤ a' ∧ b ≤ b' ∧ (a' = a → b' = b → s' = s)
theorem Mon.refl_ (T : Nat) (s : Sim) : Mon T s s := fun a b k h1 h2 h3 h4 => ⟨a, b, k, h1, h2, h3, h4, Nat.le_refl _, Nat.le_refl _, fun _ _ => rfl⟩
theorem Mon.trans_ {T : Nat} {s s' s'' : Sim} (h : Mon T s s') (h' : Mon T s' s'') : Mon T s s'' := fun a b k h1 h2 h3 h4 => by
 obtain ⟨a', b', k', e1, e2, e3, e4, e5, e6, e7⟩ := h a b k h1 h2 h3 h4
 obtain ⟨a2, b2, k2, f1, f2, f3, f4, f5, f6, f7⟩ := h' a' b' k' e1 e2 e3 e4
 refine ⟨a2, b2, k2, f1, f2, f3, f4, by omega, by omega, fun q1 q2 => ?_⟩
 have r1 : a' = a := by omega
 have r2 : b' = b := by omega
 rw [f7 (by omega) (by omega), e7 r1 r2]
theorem mon_write {T : Nat} (hT : T ≤ 390) (s : Sim) (i : Int) (b : List UInt8) : Mon T s (s.write i b) := by
 unfold Sim.write
 split
 ·rename_i hc
  simp only [Bool.and_eq_true] at hc
  intro a c k h1 h2 h3 h4
  have hk : k ≠ 0 := by
   intro h0
   subst h0
   have hg := hc.2
   unfold Sim.goes at hg
   rw [h3] at hg
   simp at hg
  refine ⟨a + 1, c, k - 1, ?_, ?_, ?_, by omega, by omega, Nat.le_refl _, fun h => by omega⟩
  ·show fadd s.nw one64 = _
   rw [h1]
   exact fb_more a (by omega)
  ·show fadd s.nf 0 = _
   rw [h2]
   exact fb_same c (by omega)
  ·show s.fuse.map _ = _
   rw [h3]
   rfl
 ·exact Mon.refl_ T s
theorem mon_flush {T : Nat} (hT : T ≤ 390) (s : Sim) : Mon T s s.flush := by
 unfold Sim.flush
 split
 ·rename_i hg
  intro a c k h1 h2 h3 h4
  have hk : k ≠ 0 := by
   intro h0
   subst h0
   unfold Sim.goes at hg
   rw [h3] at hg
   simp at hg
  refine ⟨a, c + 1, k - 1, ?_, ?_, ?_, by omega, Nat.le_refl _, by omega, fun _ h => by omega⟩
  ·show fadd s.nw 0 = _
   rw [h1]
   exact fb_same a (by omega)
  ·show fadd s.nf one64 = _
   rw [h2]
   exact fb_more c (by omega)
  ·show s.fuse.map _ = _
   rw [h3]
   rfl
 ·exact Mon.refl_ T s
theorem mon_writeL {T : Nat} (hT : T ≤ 390) (s : Sim) (a : Nat) (ps : List (List UInt8)) : ∀ k, Mon T s (writeL s a ps k)
 | 0 => Mon.refl_ T s
 | k + 1 => (mon_writeL hT s a ps k).trans_ (mon_write hT _ _ _)
theorem mon_layS {T : Nat} (hT : T ≤ 390) (s : Sim) (ep ar : Nat) (ps : List (List UInt8)) : Mon T s (layS s ep ar ps) := by
 unfold layS
 exact (((mon_writeL hT s _ _ _).trans_ (mon_flush hT _)).trans_ (mon_write hT _ _ _)).trans_ (mon_flush hT _)
theorem mon_commit {T : Nat} (hT : T ≤ 390) (x : Ss) (cs : List Chg) : Mon T x.d (commitR x cs).1.d := by
 have hp : ∀ y : Ss, Mon T y.d (putS y cs).d := fun y => (mon_writeL hT y.d _ _ _).trans_ (mon_flush hT _)
 unfold commitR
 split
 ·exact Mon.refl_ T _
 ·split
  ·exact Mon.refl_ T _
  ·split
   ·exact Mon.refl_ T _
   ·split
    ·exact Mon.refl_ T _
    ·split
     ·exact hp x
     ·split
      ·exact Mon.refl_ T _
      ·exact Mon.trans_ (s' := (ckS x).d) (mon_layS hT x.d _ _ _) (hp (ckS x))
def Cnt (m : Nat) (s : Sim) : Prop := ∃ a b, s.nw = fb a ∧ s.nf = fb b ∧ s.fuse = none ∧ a + b ≤ m
theorem cnt_write {m : Nat} (hm : m ≤ 390) {s : Sim} (h : Cnt m s) (i : Int) (b : List UInt8) : Cnt (m + 1) (s.write i b) := by
 obtain ⟨a, c, h1, h2, h3, h4⟩ := h
 unfold Sim.write
 split
 ·exact ⟨a + 1, c, by show fadd s.nw one64 = _; rw [h1]; exact fb_more a (by omega), by show fadd s.nf 0 = _; rw [h2]; exact fb_same c (by omega), by show s.fuse.map _ = _; rw [h3]; rfl, by omega⟩
 ·exact ⟨a, c, h1, h2, h3, by omega⟩
theorem cnt_flush {m : Nat} (hm : m ≤ 390) {s : Sim} (h : Cnt m s) : Cnt (m + 1) s.flush := by
 obtain ⟨a, c, h1, h2, h3, h4⟩ := h
 unfold Sim.flush
 split
 ·exact ⟨a, c + 1, by show fadd s.nw 0 = _; rw [h1]; exact fb_same a (by omega), by show fadd s.nf one64 = _; rw [h2]; exact fb_more c (by omega), by show s.fuse.map _ = _; rw [h3]; rfl, by omega⟩
 ·exact ⟨a, c, h1, h2, h3, by omega⟩
theorem cnt_writeL {m : Nat} {s : Sim} (h : Cnt m s) (a : Nat) (ps : List (List UInt8)) : ∀ k, m + k ≤ 390 → Cnt (m + k) (writeL s a ps k)
 | 0, _ => h
 | k + 1, hk => by
  have := cnt_write (by omega) (cnt_writeL h a ps k (by omega)) ((a + k : Nat) : Int) (ps.getD k [])
  exact this
theorem cnt_layS {m : Nat} {s : Sim} (h : Cnt m s) (ep ar : Nat) (ps : List (List UInt8)) (hm : m + (chunkL64 ps.flatten).length + 3 ≤ 390) : Cnt (m + (chunkL64 ps.flatten).length + 3) (layS s ep ar ps) := by
 unfold layS
 exact cnt_flush (by omega) (cnt_write (by omega) (cnt_flush (by omega) (cnt_writeL h _ _ _ (by omega))) _ _)
theorem cnt_opened {n : Nat} (hn : n ≤ 200) (h64 : 64 ≤ n) : Cnt 70 (ckS ⟨formatS (Sim.new n), [], 1, 0, 0, 0⟩).d := by
 obtain ⟨p, hp⟩ := build_nil
 have hc := chunk64_len (built_256 hp)
 simp only [List.length_singleton] at hc
 have hj := jN_le n
 have h0 : Cnt 0 (Sim.new n) := ⟨0, 0, fb_zero.symm, fb_zero.symm, rfl, Nat.le_refl _⟩
 have h1 : Cnt (2 + jN n + 8) (formatS (Sim.new n)) := by
  unfold formatS
  rw [hp]
  have hl : (Sim.new n).firm.length = n := by simp [Sim.new]
  rw [hl]
  have h2 := cnt_flush (by omega) (cnt_writeL h0 0 (List.replicate (2 + jN n) []) (2 + jN n) (by omega))
  have h3 := cnt_layS h2 1 0 [p] (by rw [hc]; omega)
  rw [hc] at h3
  show Cnt _ (layS _ 1 0 [p])
  obtain ⟨a, b, q1, q2, q3, q4⟩ := h3
  exact ⟨a, b, q1, q2, q3, by omega⟩
 have h4 : (ckS ⟨formatS (Sim.new n), [], 1, 0, 0, 0⟩).d = layS (formatS (Sim.new n)) 2 1 [p] := by
  simp only [ckS, hp, Option.getD_some, Nat.reduceAdd, Nat.sub_zero]
 rw [h4]
 have h5 := cnt_layS h1 2 1 [p] (by rw [hc]; omega)
 rw [hc] at h5
 obtain ⟨a, b, q1, q2, q3, q4⟩ := h5
 exact ⟨a, b, q1, q2, q3, by omega⟩
theorem Cnt.fuse_ {m : Nat} {s : Sim} (h : Cnt m s) (k : Nat) : ∃ T, T ≤ m + k ∧ Mtr T (s.setFuse (k : Int)) ∧ s.setFuse (k : Int) = { s with fuse := some k } := by
 obtain ⟨a, b, h1, h2, h3, h4⟩ := h
 have e : s.setFuse (k : Int) = { s with fuse := some k } := by
  unfold Sim.setFuse
  rw [goes_none h3, if_pos rfl, if_pos (by omega)]
  rfl
 rw [e]
 exact ⟨a + b + k, by omega, ⟨a, b, k, h1, h2, rfl, rfl⟩, rfl⟩
structure LI (T n : Nat) (was : List Rw) (x : Ss) : Prop where
 inv : InvS x
 n : x.n = n
 mt : Mtr T x.d
 can : ∀ K, Rcv 300 (krash x.d K) was ∨ Rcv 300 (krash x.d K) x.rows
 lv : x.d.goes = true → ∀ k, x.d.fuse = some k → x.ep + k ≤ 260
theorem LI.commit {T n : Nat} {was : List Rw} {x : Ss} {cs : List Chg} (h : LI T n was x) (hT : T ≤ 390) (hr : cs.any longC = false → readChgs (chgsL cs) = (cs, 0)) :
  ∃ tb : Bool, ((FloatKind.f64.format.order (commitR x cs).1.d.nw x.d.nw == some Ordering.eq) && (FloatKind.f64.format.order (commitR x cs).1.d.nf x.d.nf == some Ordering.eq)) = tb ∧
   (tb = false → LI T n x.rows (commitR x cs).1) ∧ (tb = true → (commitR x cs).1.d = x.d ∧ ((commitR x cs).1.rows = x.rows → LI T n was (commitR x cs).1)) := by
 obtain ⟨a, b, k, m1, m2, m3, m4⟩ := h.mt
 obtain ⟨a', b', k', e1, e2, e3, e4, e5, e6, e7⟩ := mon_commit hT x cs a b k m1 m2 m3 m4
 obtain ⟨s1, s2, s3, s4, s5, s6, s7⟩ := commit_step (cs := cs) h.inv hr
 refine ⟨_, rfl, ?_⟩
 rw [e1, e2, m1, m2, fb_ord (by omega) (by omega), fb_ord (by omega) (by omega)]
 generalize commitR x cs = R at *
 refine ⟨fun ht => ?_, fun ht => ?_⟩
 ·have hne : ¬ (a' = a ∧ b' = b) := by
   rintro ⟨q1, q2⟩
   rw [decide_eq_true q1, decide_eq_true q2] at ht
   cases ht
  have hgo : x.d.goes = true := by
   rcases Bool.eq_false_or_eq_true x.d.goes with hg | hg
   ·exact hg
   ·exfalso
    have hd := s5 hg
    rw [hd] at e1 e2
    rw [m1] at e1
    rw [m2] at e2
    have q1 := fb_ord (a := a) (b := a') (by omega) (by omega)
    have q2 := fb_ord (a := b) (b := b') (by omega) (by omega)
    rw [← e1, fb_ord (by omega) (by omega)] at q1
    rw [← e2, fb_ord (by omega) (by omega)] at q2
    have r1 : a = a' := of_decide_eq_true (by rw [← q1]; exact decide_eq_true rfl)
    have r2 : b = b' := of_decide_eq_true (by rw [← q2]; exact decide_eq_true rfl)
    exact hne ⟨r1.symm, r2.symm⟩
  have hep := h.lv hgo k m3
  refine ⟨s1, s2.trans h.n, ⟨a', b', k', e1, e2, e3, e4⟩, fun K => ?_, fun _ q hq => ?_⟩
  ·rcases s4 hgo K with h1 | h1
   ·exact .inl (h1.more (by omega))
   ·exact .inr (h1.more (by omega))
  ·rw [e3] at hq
   injection hq with hq
   have : ¬ (a' = a ∧ b' = b) := hne
   omega
 ·rw [Bool.and_eq_true, decide_eq_true_eq, decide_eq_true_eq] at ht
  have hd := e7 ht.1 ht.2
  refine ⟨hd, fun hrw => ⟨s1, s2.trans h.n, ⟨a', b', k', e1, e2, e3, e4⟩, fun K => ?_, fun hg q hq => ?_⟩⟩
  ·rw [hd, hrw]
   exact h.can K
  ·have hgx : x.d.goes = true := by rw [← hd]; exact hg
   have hep := h.lv hgx q (by rw [← hd]; exact hq)
   obtain ⟨l1, l0, ps, fs, l2, _⟩ := s1.live hg
   obtain ⟨r1, l0', ps', fs', r2, _⟩ := h.inv.live hgx
   rw [hd] at l1 l2
   have q1 := newest_hd l1 l2
   have q2 := newest_hd r1 r2
   rw [q1] at q2
   injection q2 with q2 _
   omega
theorem LI.open_ {T n : Nat} {was : List Rw} {x : Ss} (h : LI T n was x) (K : List Bool) :
  ∃ y, openR (x.d.crash K) = (0, y) ∧ InvS y ∧ (y.rows = was ∨ y.rows = x.rows) ∧ (x.d.crash K).loose = [] ∧ (x.d.crash K).firm.length = n := by
 have hl : (x.d.crash K).firm.length = n := by
  show (kept _ _ _ _).length = n
  rw [kept_length]
  exact h.n
 rcases h.can K with h1 | h1
 ·obtain ⟨y, a1, a2, a3, _⟩ := open_step (s := x.d.crash K) (h.inv.good.ok.crash K) rfl h1 (by omega)
  exact ⟨y, a1, a2, .inl a3, rfl, hl⟩
 ·obtain ⟨y, a1, a2, a3, _⟩ := open_step (s := x.d.crash K) (h.inv.good.ok.crash K) rfl h1 (by omega)
  exact ⟨y, a1, a2, .inr a3, rfl, hl⟩
theorem LI.start {n : Nat} {x : Ss} (hI : InvS x) (hc : Cnt 70 x.d) (hep : x.ep = 2) (hxn : x.n = n) (k : Nat) (hk : k ≤ 255) :
  ∃ T, T ≤ 390 ∧ LI T n x.rows { x with d := x.d.setFuse (k : Int) } := by
 have hfu : x.d.fuse = none := by obtain ⟨_, _, _, _, h, _⟩ := hc; exact h
 have hg := goes_none hfu
 obtain ⟨T, hT, hm, e⟩ := hc.fuse_ k
 have hG := hI.good
 have hlo := hG.calm hg
 have hL := hI.live hg
 have hok := hG.ok.setFuse (k : Int) (by omega)
 rw [e] at hm hok ⊢
 refine ⟨T, by omega, ⟨⟨hG.n, hok, hG.fit, hG.ep, hG.ar, hG.us, hG.fr, hG.lo, fun _ => hlo⟩, fun _ => hL⟩, hxn, hm, fun K => .inl ?_, fun _ q hq => ?_⟩
 ·show Rcv 300 (kept x.d.firm x.d.loose K x.d.loose.length) x.rows
  rw [hlo]
  exact (hI.rcv hg).more (by omega)
 ·have hq' : some k = some q := hq
  injection hq' with hq'
  show x.ep + q ≤ 260
  omega
end Go.Proofs.YtmbkaedhllfoeaaGreat
namespace Go.Proofs.YtmbkaedhllfoeaaGreat
open Go.RowKit Go.Rst Go.Dv Go.Crc Go.Str Go.Pg
theorem LI.commit3 {T n : Nat} {was : List Rw} {x : Ss} {cs : List Chg} (h : LI T n was x) (hT : T ≤ 390) (hr : cs.any longC = false → readChgs (chgsL cs) = (cs, 0)) :
  ((FloatKind.f64.format.order (commitR x cs).1.d.nw x.d.nw == some Ordering.eq) = true ∧ (FloatKind.f64.format.order (commitR x cs).1.d.nf x.d.nf == some Ordering.eq) = true ∧ (commitR x cs).1.d = x.d ∧ ((commitR x cs).1.rows = x.rows → LI T n was (commitR x cs).1)) ∨
   ((FloatKind.f64.format.order (commitR x cs).1.d.nw x.d.nw == some Ordering.eq) = false ∧ LI T n x.rows (commitR x cs).1) ∨
   ((FloatKind.f64.format.order (commitR x cs).1.d.nw x.d.nw == some Ordering.eq) = true ∧ (FloatKind.f64.format.order (commitR x cs).1.d.nf x.d.nf == some Ordering.eq) = false ∧ LI T n x.rows (commitR x cs).1) := by
 obtain ⟨tb, h1, h2, h3⟩ := h.commit hT hr
 cases hA : (FloatKind.f64.format.order (commitR x cs).1.d.nw x.d.nw == some Ordering.eq) with
 | false =>
  rw [hA, Bool.false_and] at h1
  exact .inr (.inl ⟨rfl, h2 h1.symm⟩)
 | true =>
  cases hB : (FloatKind.f64.format.order (commitR x cs).1.d.nf x.d.nf == some Ordering.eq) with
  | false =>
   rw [hA, hB] at h1
   exact .inr (.inr ⟨rfl, rfl, h2 h1.symm⟩)
  | true =>
   rw [hA, hB] at h1
   obtain ⟨q1, q2⟩ := h3 h1.symm
   exact .inl ⟨rfl, rfl, q1, q2⟩
set_option maxRecDepth 100000 in
set_option maxHeartbeats 6000000 in
theorem lasts_walk (k : Nat) (lv : Value) (ds : List Deed) (nf : Nat) (kv : Value) (K : List Bool) (w : World) (hk : k ≤ 255) (hd : DS w lv ds) (hn : nf ≤ 255) (hK : BK w kv K) (hKl : K.length ≤ 140737488351232) :
  Calls Tryz.prog 5 #[.int .u8 (k : Int), lv, .int .u8 (nf : Int), kv] w fun e w' => e = .returned (.bool true) ∧ Below w.heap.size w w' := by
 have HD := Lib.hid hd
 have HKV := Lib.hid hK
 have hmu := muchS_any hd
 have HMU := Lib.hid hmu
 obtain ⟨A, c, rfl, hl, _⟩ := hd
 obtain ⟨AK, cK, rfl, _⟩ := hK
 obtain ⟨m, hm⟩ : ∃ m, m = ds.length := ⟨_, rfl⟩
 rw [← hm] at HD hl HMU ⊢
 have HM := Lib.hid hm
 clear hm hmu
 go_enter Tryz.func5, Tryz.ntmps5
 go_wp2_with fail
 go_at_call 9
 refine HMU.out.mono ?_
 rintro e w1 ⟨r, rfl, hr, hb1⟩
 have HB1 := Lib.hid hb1
 have HKN := Lib.hid knownS_any
 have HSZ := Lib.hid (sizeN_in k)
 clear hb1 hr
 cases r with
 | true =>
  go_wp2_with fail
  go_at_call 10
  refine (HKN.out _).mono ?_
  rintro e wk ⟨rfl, hbk⟩
  have HBK := Lib.hid (HB1.out.trans (hbk.mono HB1.out.size))
  clear hbk
  go_wp2
  go_ret
  exact ⟨rfl, HBK.out⟩
 | false =>
  by_cases hk1 : 100 < K.length
  ·have hk2 : (100 : Int) < (K.length : Int) := by omega
   go_wp2_with fail
   go_at_call 10
   refine (HKN.out _).mono ?_
   rintro e wk ⟨rfl, hbk⟩
   have HBK := Lib.hid (HB1.out.trans (hbk.mono HB1.out.size))
   clear hbk
   go_wp2
   go_ret
   exact ⟨rfl, HBK.out⟩
  have hk2 : ¬ (100 : Int) < (K.length : Int) := by omega
  clear hk1
  go_wp2_with fail
  go_at_call 11
  refine (pair_any k hk w1).mono ?_
  rintro e w2 ⟨dg, tv, rfl, hpr, hb2⟩
  obtain ⟨hown, v0, v1, v2, v3, v4, v5, rfl, ⟨_, _, rfl⟩, ⟨_, _, rfl⟩, ⟨_, rfl⟩, ⟨_, rfl⟩, ⟨_, rfl⟩, ⟨_, rfl⟩⟩ := pair_own (B := w.heap.size) HB1.out.size hpr hb2.size
  obtain ⟨o1, o2, o3, o4, o5, o6⟩ := size_open k
  have hof := fun X (hX : Below w2.heap.size w2 X) => own_formatS (w := X) (hown.below hX) (by rw [new_firm]; exact (sizeN_in k).1) (Nat.zero_le _)
  obtain ⟨Y, hY⟩ : ∃ Y, Y = openedS (Sim.new (sizeN k)) := ⟨_, rfl⟩
  obtain ⟨Q, hQ⟩ : ∃ Q, Q = formatS (Sim.new (sizeN k)) := ⟨_, rfl⟩
  have hYe : Y.ep = 2 ∧ Y.rows = [] := by rw [hY]; exact ⟨rfl, rfl⟩
  have hcnt : Cnt 70 Y.d := by rw [hY]; exact cnt_opened (sizeN_in k).2 (sizeN_in k).1
  have HCNT := Lib.hid hcnt
  clear hcnt
  rw [← hY] at o1 o2 o3 o4
  rw [← hQ] at o1 o5 o6 hof
  have HOF := Lib.hid hof
  have HO1 := Lib.hid o1
  have HI := Lib.hid o2
  have HFU := Lib.hid o3
  have HYN := Lib.hid o4
  have HYE := Lib.hid hYe
  have HO5 := Lib.hid o5
  have HO6 := Lib.hid o6
  have HB2 := Lib.hid (HB1.out.trans (hb2.mono HB1.out.size))
  clear hpr hb2 hown o1 o2 o3 o4 o5 o6 hof hY hQ hYe
  go_wp2_with fail
  go_at_call 12
  refine (HOF.out _ ((Below.refl _ _).alloc (Nat.le_refl _) _)).mono ?_
  rintro e w3 ⟨rfl, hown3, hb3⟩
  have hb3' := (HB2.out.alloc HB2.out.size _).trans hb3
  have HB3 := Lib.hid hb3'
  have HOP := Lib.hid (own_openOk hown3 HO6.out HO5.out HO1.out)
  clear hown3 hb3 hb3'
  go_wp2_with fail
  go_at_call 14
  refine HOP.out.mono ?_
  rintro e w4 ⟨sv, rfl, hst, hb4⟩
  have HB4 := Lib.hid (HB3.out.trans hb4)
  obtain ⟨g, rfl⟩ := hst.ptr
  have HST := Lib.hid hst
  clear hst hb4
  obtain ⟨T, hT, hli⟩ := LI.start HI.out HCNT.out HYE.out.1 HYN.out nf hn
  have hfz := sx_fuse (nf : Int) (by omega) HST.out.sx
  obtain ⟨X, hX⟩ : ∃ X : Ss, X = { Y with d := Y.d.setFuse (nf : Int) } := ⟨_, rfl⟩
  have hXr : X.rows = Y.rows := by rw [hX]
  rw [← hX] at hli hfz
  have HFZ := Lib.hid hfz
  have HLI := Lib.hid hli
  have HXR := Lib.hid hXr
  clear hfz hli hX hXr
  go_wp2_with fail
  go_at_call 17
  refine HFZ.out.mono ?_
  rintro e w5 ⟨rfl, hx5, hs5⟩
  have HX5 := Lib.hid hx5
  have HB5 := Lib.hid (HB4.out.trans hs5.bel)
  have HR5 := Lib.hid (own_rowsS hx5.own HLI.out.inv.good)
  clear hx5 hs5
  go_wp2_with fail
  go_at_call 32
  refine HR5.out.mono ?_
  rintro e w6 ⟨rv, rfl, hor, hb6⟩
  obtain ⟨Ar, cr, rfl⟩ := or_shape hor
  have hstart : ∃ P : Nat → Prop, OwnSX P w.heap.size dg w6 (.pointer (some ⟨g, 0, none⟩)) X ∧ RO P w6 (.slice Ar X.rows.length cr) X.rows := ⟨fun k => w5.heap.size ≤ k ∧ k < w6.heap.size, HX5.out.more hb6 (fun k hk => .inr hk), or_ro hor (Nat.le_refl _)⟩
  have HSTART := Lib.hid hstart
  have HB6 := Lib.hid (HB5.out.trans (hb6.mono HB5.out.size))
  obtain ⟨vw, hvw⟩ : ∃ vw : Value, vw = .slice Ar X.rows.length cr := ⟨_, rfl⟩
  have HVW := Lib.hid (show ∃ A c, vw = .slice A X.rows.length c from ⟨_, _, hvw⟩)
  rw [← hvw] at HSTART ⊢
  clear hor hb6 hstart hvw
  go_wp2_with fail
  go_loopw [13, 14] (fun v i wr => ∃ (j : Nat) (x : Ss) (was : List Rw) (P : Nat → Prop), j ≤ m ∧ i = .int .i64 j ∧ LI T (sizeN k) was x ∧ OwnSX P w.heap.size dg wr (.pointer (some ⟨g, 0, none⟩)) x ∧ RO P wr v was ∧ Below w.heap.size w wr) (fun _ i _ => m - (intOf i).toNat)
  case atStart =>
   obtain ⟨P, h1, h2⟩ := HSTART.out
   exact ⟨0, X, X.rows, P, Nat.zero_le _, rfl, by have h := HLI.out; rw [← HXR.out] at h; exact h, h1, h2, HB6.out⟩
  case round =>
   obtain ⟨j, x, was, P, hj, rfl, hli, hsx, hro, hbw⟩ := hrel
   obtain ⟨Aw, cw, hvw, _⟩ := rr_shape hro.rr
   subst hvw
   have HIx := Lib.hid hli
   have HSx := Lib.hid hsx
   have HRx := Lib.hid hro
   have HBw := Lib.hid hbw
   clear hli hsx hro hbw
   by_cases hlt : j < m
   ·have HTR := Lib.hid (ox_traffic HSx.out.dev)
    have HRW := Lib.hid (own_rowsS HSx.out.own HIx.out.inv.good)
    obtain ⟨b, off, dx, hA, hbb, _, hdx⟩ := (HD.out.below HBw.out).at_ HM.out hlt
    have i6 : (j : Int) < (m : Int) := by omega
    clear hbb hdx
    go_wp2_with fail
    go_at_call 33
    refine HTR.out.mono ?_
    rintro e w7 ⟨rfl, rfl⟩
    go_wp2_with fail
    go_at_call 32
    refine HRW.out.mono ?_
    rintro e w7 ⟨rv7, rfl, hor7, hb7⟩
    obtain ⟨A7, c7, hrv7⟩ := or_shape hor7
    subst hrv7
    obtain ⟨P', hP'⟩ : ∃ P' : Nat → Prop, P' = fun k => P k ∨ (wr.heap.size ≤ k ∧ k < w7.heap.size) := ⟨_, rfl⟩
    have hsx7 : OwnSX P' w.heap.size dg w7 (.pointer (some ⟨g, 0, none⟩)) x := HSx.out.more hb7 (fun k hk => by rw [hP'] at hk; exact hk)
    have hpl : ∀ k, P k → k < wr.heap.size := by obtain ⟨_, _, _, _, h⟩ := HSx.out; exact h
    have hrw7 : RO P' w7 (.slice Aw was.length cw) was := ro_more (HRx.out.keep hb7.size (fun k hk => hb7.block k (hpl k hk))) (fun k hk => by rw [hP']; exact .inl hk)
    have hrn7 : RO P' w7 (.slice A7 x.rows.length c7) x.rows := ro_more (or_ro hor7 (Nat.le_refl _)) (fun k hk => by rw [hP']; exact .inr hk)
    have HS7 := Lib.hid hsx7
    have HW7 := Lib.hid hrw7
    have HN7 := Lib.hid hrn7
    have HB7 := Lib.hid (HBw.out.trans (hb7.mono HBw.out.size))
    clear hor7 hb7 hP' hsx7 hpl hrw7 hrn7
    obtain ⟨b, off, dx, hA', hbb, _, hdx⟩ := (HD.out.below HB7.out).at_ HM.out hlt
    rw [hA] at hA'
    injection hA' with hA'
    injection hA' with q1 q2 _
    subst q1
    subst q2
    subst hA
    obtain ⟨_, ⟨u2, d2, hru⟩, _, _, _, _, hcl, _⟩ := hdx
    have hch := changeList_any u2 dx.c 6 (by omega) w7 hru (by omega)
    obtain ⟨A2, c2, rfl⟩ := rb_shape hru
    have HCH := Lib.hid hch
    obtain ⟨cs, hcs⟩ : ∃ cs, cs = cOf dx.c := ⟨_, rfl⟩
    have hfew := cOf_few dx.c
    rw [← hcs] at hfew
    have HCS := Lib.hid (show cs = (rowsAt dx.c (nrows dx.c 6)).map chgOf from hcs)
    have HFEW := Lib.hid hfew
    rw [← HCS.out] at HCH
    clear hch hcs hfew hru
    go_wp2_with fail
    go_at_call 23
    refine HCH.out.mono ?_
    rintro e w8 ⟨cv, rfl, hoc, hb8⟩
    have hcm := sx_commit HS7.out hb8 HIx.out.inv.good hoc (by have := HFEW.out.1; omega) (by have := HFEW.out.2.1; omega)
    obtain ⟨A5, c5, rfl, hc5⟩ := rc_shape hoc.rc
    obtain ⟨R, hR⟩ : ∃ R, R = commitR x cs := ⟨_, rfl⟩
    have h3 := HIx.out.commit3 (cs := cs) hT (fun _ => HFEW.out.2.2)
    obtain ⟨s1, _⟩ := commit_step (cs := cs) HIx.out.inv (fun _ => HFEW.out.2.2)
    rw [← hR] at hcm h3 s1
    have HCM := Lib.hid hcm
    have HIR := Lib.hid s1
    have hpl : ∀ k, P' k → k < w7.heap.size := by obtain ⟨_, _, _, _, h⟩ := HS7.out; exact h
    have HW8 := Lib.hid (HW7.out.keep hb8.size (fun k hk => hb8.block k (hpl k hk)))
    have HN8 := Lib.hid (HN7.out.keep hb8.size (fun k hk => hb8.block k (hpl k hk)))
    have HB8 := Lib.hid (HB7.out.trans (hb8.mono HB7.out.size))
    have H3 := Lib.hid h3
    clear hcm hR hb8 hoc h3 s1 hpl
    go_wp2_with fail
    go_at_call 25
    refine HCM.out.mono ?_
    rintro e w9 ⟨rfl, hs9, hst9, _⟩
    have HS9 := Lib.hid hs9
    have HW9 := Lib.hid (hst9.ro HW8.out)
    have HN9 := Lib.hid (hst9.ro HN8.out)
    have HB9 := Lib.hid (HB8.out.trans hst9.bel)
    have HTR9 := Lib.hid (ox_traffic hs9.dev)
    clear hs9 hst9
    go_wp2_with fail
    go_at_call 33
    refine HTR9.out.mono ?_
    rintro e w10 ⟨rfl, rfl⟩
    rcases H3.out with ⟨eA, eB, hd, hli⟩ | ⟨eA, hli⟩ | ⟨eA, eB, hli⟩
    ·have HD9 := Lib.hid hd
     have HL9 := Lib.hid hli
     have HR9 := Lib.hid (own_rowsS HS9.out.own HIR.out.good)
     clear hd hli
     go_wp2_with fail
     go_at_call 32
     refine HR9.out.mono ?_
     rintro e w10 ⟨rv10, rfl, hor10, hb10⟩
     obtain ⟨A10, c10, hrv10⟩ := or_shape hor10
     have hsr := sameRows_two _ rv10 x.rows R.1.rows w10 (rr_below HN9.out.rr hb10 (Nat.le_refl _)) hor10.rr
     subst hrv10
     have HSR := Lib.hid hsr
     have hpl : ∀ k, P' k → k < w9.heap.size := by obtain ⟨_, _, _, _, h⟩ := HS9.out; exact h
     have HW10 := Lib.hid (HW9.out.keep hb10.size (fun k hk => hb10.block k (hpl k hk)))
     have HN10 := Lib.hid (HN9.out.keep hb10.size (fun k hk => hb10.block k (hpl k hk)))
     have HS10 := Lib.hid (HS9.out.below hb10)
     have HB10 := Lib.hid (HB9.out.trans (hb10.mono HB9.out.size))
     clear hor10 hb10 hsr hpl
     go_wp2_with fail
     go_at_call 34
     refine HSR.out.mono ?_
     rintro e w11 ⟨⟨bb, rfl, hbb⟩, hb11⟩
     have hpl : ∀ k, P' k → k < w10.heap.size := by obtain ⟨_, _, _, _, h⟩ := HS10.out; exact h
     have HW11 := Lib.hid (HW10.out.keep hb11.size (fun k hk => hb11.block k (hpl k hk)))
     have HN11 := Lib.hid (HN10.out.keep hb11.size (fun k hk => hb11.block k (hpl k hk)))
     have HS11 := Lib.hid (HS10.out.below hb11)
     have HB11 := Lib.hid (HB10.out.trans (hb11.mono HB10.out.size))
     have HEQ := Lib.hid hbb
     clear hb11 hpl hbb
     cases bb with
     | true =>
      go_wp2
      go_roundw
      case rel => exact ⟨j + 1, R.1, was, P', by omega, by go_num, HL9.out (HEQ.out.1 (by first | rfl | trivial)).symm, HS11.out, HW11.out, HB11.out⟩
      case measure => simp [intOf]; omega
     | false =>
      have hox : OwnX P' w.heap.size w11 (dp dg) x.d := by have h := HS11.out.dev; rw [HD9.out] at h; exact h
      have HOX := Lib.hid hox
      clear hox
      obtain ⟨y, y1, y2, y3, y4, y5⟩ := HIx.out.open_ K
      have HCR := Lib.hid (ox_crash (.slice AK K.length cK) K HOX.out HKV.out HB11.out (Nat.le_refl _))
      have HY1 := Lib.hid y1
      have HY2 := Lib.hid y2
      have HY3 := Lib.hid y3
      have HY4 := Lib.hid y4
      have HY5 := Lib.hid y5
      clear y1 y2 y3 y4 y5
      go_wp2_with fail
      go_at_call 21
      refine HCR.out.mono ?_
      rintro e v1 ⟨rfl, hx1, hs1⟩
      have HOPc := Lib.hid (ox_open hx1 (by rw [HY5.out]; exact HSZ.out.1) HY4.out HY1.out)
      have HSc := Lib.hid hs1
      clear hx1 hs1
      go_wp2_with fail
      go_at_call 14
      refine HOPc.out.mono ?_
      rintro e v2 ⟨sv2, rfl, hx2, hs2⟩
      obtain ⟨g2, rfl⟩ := hx2.own.ptr
      have HX2 := Lib.hid hx2
      have HS2 := Lib.hid (HSc.out.trans_ hs2)
      clear hx2 hs2
      go_wp2_with fail
      go_at_call 10
      refine (HKN.out _).mono ?_
      rintro e v3 ⟨rfl, hb3⟩
      have hx3 := HX2.out.below hb3
      have hp3 : ∀ k, P' k → k < v2.heap.size := by obtain ⟨_, _, _, _, h⟩ := HX2.out; exact h
      have HW3 := Lib.hid ((HS2.out.ro HW11.out).keep hb3.size (fun k hk => hb3.block k (hp3 k hk)))
      have HN3 := Lib.hid ((HS2.out.ro HN11.out).keep hb3.size (fun k hk => hb3.block k (hp3 k hk)))
      have HR3 := Lib.hid (own_rowsS hx3.own HY2.out.good)
      have HX3 := Lib.hid hx3
      have HB3c := Lib.hid ((HB11.out.trans HS2.out.bel).trans (hb3.mono (HB11.out.trans HS2.out.bel).size))
      clear hb3 hx3 hp3
      go_wp2_with fail
      go_at_call 32
      refine HR3.out.mono ?_
      rintro e v4 ⟨rv4, rfl, hor4, hb4⟩
      obtain ⟨A4, c4, hrv4⟩ := or_shape hor4
      have hsr := sameRows_two rv4 _ y.rows was v4 hor4.rr (rr_below HW3.out.rr hb4 (Nat.le_refl _))
      subst hrv4
      have HSR := Lib.hid hsr
      have HB4c := Lib.hid (HB3c.out.trans (hb4.mono HB3c.out.size))
      have HX4 := Lib.hid (HX3.out.below hb4)
      have HN4 := Lib.hid (rr_below HN3.out.rr hb4 (Nat.le_refl _))
      clear hor4 hb4 hsr
      go_wp2_with fail
      go_at_call 34
      refine HSR.out.mono ?_
      rintro e v5 ⟨⟨bb, rfl, hbb⟩, hb5⟩
      have HB5c := Lib.hid (HB4c.out.trans (hb5.mono HB4c.out.size))
      have HX5 := Lib.hid (HX4.out.below hb5)
      have HN5 := Lib.hid (rr_below HN4.out hb5 (Nat.le_refl _))
      have HBB := Lib.hid hbb
      clear hb5 hbb
      cases bb with
      | true =>
       go_wp2
       go_ret
       exact ⟨rfl, HB5c.out⟩
      | false =>
       have hyr : y.rows = x.rows := by
        rcases HY3.out with h | h
        ·have := HBB.out.2 h; cases this
        ·exact h
       have HYR := Lib.hid hyr
       have HR5 := Lib.hid (own_rowsS HX5.out.own HY2.out.good)
       clear hyr
       go_wp2_with fail
       go_at_call 32
       refine HR5.out.mono ?_
       rintro e v6 ⟨rv6, rfl, hor6, hb6⟩
       obtain ⟨A6, c6, hrv6⟩ := or_shape hor6
       have hsr := sameRows_any rv6 _ x.rows v6 (by have h := hor6.rr; rw [HYR.out] at h; exact h) (rr_below HN5.out hb6 (Nat.le_refl _))
       subst hrv6
       have HSR6 := Lib.hid hsr
       have HB6c := Lib.hid (HB5c.out.trans (hb6.mono HB5c.out.size))
       clear hor6 hb6 hsr
       go_wp2_with fail
       go_at_call 34
       refine HSR6.out.mono ?_
       rintro e v7 ⟨rfl, mm, rfl⟩
       go_wp2
       go_ret
       exact ⟨rfl, HB6c.out.trans ((bel_drewN _ _).mono HB6c.out.size)⟩
    all_goals
     have HLn := Lib.hid hli
     clear hli
     go_wp2
     go_roundw
     case rel => exact ⟨j + 1, R.1, x.rows, P', by omega, by go_num, HLn.out, HS9.out, HN9.out, HB9.out⟩
     case measure => simp [intOf]; omega
   ·obtain rfl : j = m := by omega
    have hm2 : ¬ (j : Int) < (j : Int) := by omega
    have HRW := Lib.hid (own_rowsS HSx.out.own HIx.out.inv.good)
    go_wp2_with fail
    go_at_call 32
    refine HRW.out.mono ?_
    rintro e w7 ⟨rv7, rfl, hor7, hb7⟩
    obtain ⟨A7, c7, hrv7⟩ := or_shape hor7
    subst hrv7
    obtain ⟨P', hP'⟩ : ∃ P' : Nat → Prop, P' = fun k => P k ∨ (wr.heap.size ≤ k ∧ k < w7.heap.size) := ⟨_, rfl⟩
    have hsx7 : OwnSX P' w.heap.size dg w7 (.pointer (some ⟨g, 0, none⟩)) x := HSx.out.more hb7 (fun k hk => by rw [hP'] at hk; exact hk)
    have hpl : ∀ k, P k → k < wr.heap.size := by obtain ⟨_, _, _, _, h⟩ := HSx.out; exact h
    have hrw7 : RO P' w7 (.slice Aw was.length cw) was := ro_more (HRx.out.keep hb7.size (fun k hk => hb7.block k (hpl k hk))) (fun k hk => by rw [hP']; exact .inl hk)
    have hrn7 : RO P' w7 (.slice A7 x.rows.length c7) x.rows := ro_more (or_ro hor7 (Nat.le_refl _)) (fun k hk => by rw [hP']; exact .inr hk)
    have HOX := Lib.hid hsx7.dev
    have HW7 := Lib.hid hrw7
    have HN7 := Lib.hid hrn7
    have HB7 := Lib.hid (HBw.out.trans (hb7.mono HBw.out.size))
    clear hor7 hb7 hP' hsx7 hpl hrw7 hrn7
    obtain ⟨y, y1, y2, y3, y4, y5⟩ := HIx.out.open_ K
    have HCR := Lib.hid (ox_crash (.slice AK K.length cK) K HOX.out HKV.out HB7.out (Nat.le_refl _))
    have HY1 := Lib.hid y1
    have HY2 := Lib.hid y2
    have HY3 := Lib.hid y3
    have HY4 := Lib.hid y4
    have HY5 := Lib.hid y5
    clear y1 y2 y3 y4 y5
    go_wp2_with fail
    go_at_call 21
    refine HCR.out.mono ?_
    rintro e v1 ⟨rfl, hx1, hs1⟩
    have HOPc := Lib.hid (ox_open hx1 (by rw [HY5.out]; exact HSZ.out.1) HY4.out HY1.out)
    have HSc := Lib.hid hs1
    clear hx1 hs1
    go_wp2_with fail
    go_at_call 14
    refine HOPc.out.mono ?_
    rintro e v2 ⟨sv2, rfl, hx2, hs2⟩
    obtain ⟨g2, rfl⟩ := hx2.own.ptr
    have HX2 := Lib.hid hx2
    have HS2 := Lib.hid (HSc.out.trans_ hs2)
    clear hx2 hs2
    go_wp2_with fail
    go_at_call 10
    refine (HKN.out _).mono ?_
    rintro e v3 ⟨rfl, hb3⟩
    have hx3 := HX2.out.below hb3
    have hp3 : ∀ k, P' k → k < v2.heap.size := by obtain ⟨_, _, _, _, h⟩ := HX2.out; exact h
    have HW3 := Lib.hid ((HS2.out.ro HW7.out).keep hb3.size (fun k hk => hb3.block k (hp3 k hk)))
    have HN3 := Lib.hid ((HS2.out.ro HN7.out).keep hb3.size (fun k hk => hb3.block k (hp3 k hk)))
    have HR3 := Lib.hid (own_rowsS hx3.own HY2.out.good)
    have HX3 := Lib.hid hx3
    have HB3c := Lib.hid ((HB7.out.trans HS2.out.bel).trans (hb3.mono (HB7.out.trans HS2.out.bel).size))
    clear hb3 hx3 hp3
    go_wp2_with fail
    go_at_call 32
    refine HR3.out.mono ?_
    rintro e v4 ⟨rv4, rfl, hor4, hb4⟩
    obtain ⟨A4, c4, hrv4⟩ := or_shape hor4
    have hsr := sameRows_two rv4 _ y.rows was v4 hor4.rr (rr_below HW3.out.rr hb4 (Nat.le_refl _))
    subst hrv4
    have HSR := Lib.hid hsr
    have HB4c := Lib.hid (HB3c.out.trans (hb4.mono HB3c.out.size))
    have HX4 := Lib.hid (HX3.out.below hb4)
    have HN4 := Lib.hid (rr_below HN3.out.rr hb4 (Nat.le_refl _))
    clear hor4 hb4 hsr
    go_wp2_with fail
    go_at_call 34
    refine HSR.out.mono ?_
    rintro e v5 ⟨⟨bb, rfl, hbb⟩, hb5⟩
    have HB5c := Lib.hid (HB4c.out.trans (hb5.mono HB4c.out.size))
    have HX5 := Lib.hid (HX4.out.below hb5)
    have HN5 := Lib.hid (rr_below HN4.out hb5 (Nat.le_refl _))
    have HBB := Lib.hid hbb
    clear hb5 hbb
    cases bb with
    | true =>
     go_wp2
     go_ret
     exact ⟨rfl, HB5c.out⟩
    | false =>
     have hyr : y.rows = x.rows := by
      rcases HY3.out with h | h
      ·have := HBB.out.2 h; cases this
      ·exact h
     have HYR := Lib.hid hyr
     have HR5 := Lib.hid (own_rowsS HX5.out.own HY2.out.good)
     clear hyr
     go_wp2_with fail
     go_at_call 32
     refine HR5.out.mono ?_
     rintro e v6 ⟨rv6, rfl, hor6, hb6⟩
     obtain ⟨A6, c6, hrv6⟩ := or_shape hor6
     have hsr := sameRows_any rv6 _ x.rows v6 (by have h := hor6.rr; rw [HYR.out] at h; exact h) (rr_below HN5.out hb6 (Nat.le_refl _))
     subst hrv6
     have HSR6 := Lib.hid hsr
     have HB6c := Lib.hid (HB5c.out.trans (hb6.mono HB5c.out.size))
     clear hor6 hb6 hsr
     go_wp2_with fail
     go_at_call 34
     refine HSR6.out.mono ?_
     rintro e v7 ⟨rfl, mm, rfl⟩
     go_wp2
     go_ret
     exact ⟨rfl, HB6c.out.trans ((bel_drewN _ _).mono HB6c.out.size)⟩
end Go.Proofs.YtmbkaedhllfoeaaGreat
namespace Go.Proofs.YtmbkaedhllfoeaaGreat
open Go.RowKit Go.Rst Go.Dv Go.Crc Go.Str Go.Pg
theorem putS_fuse {x : Ss} {cs : List Chg} (h : x.d.fuse = none) : (putS x cs).d.fuse = none := flush_fuse (writeL_fuse h _ _ _)
theorem ckS_fuse {x : Ss} (h : x.d.fuse = none) : (ckS x).d.fuse = none := layS_fuse h _ _ _
theorem commit_fuse {x : Ss} (cs : List Chg) (h : x.d.fuse = none) : (commitR x cs).1.d.fuse = none := by
 unfold commitR
 split
 ·exact h
 ·split
  ·exact h
  ·split
   ·exact h
   ·split
    ·exact h
    ·split
     ·exact putS_fuse h
     ·split
      ·exact h
      ·exact putS_fuse (ckS_fuse h)
structure Dvc (B : Nat) (n : Nat) (s : Sim) (r : List Rw) : Prop where
 ok : OK s
 lo : s.loose = []
 fu : s.fuse = none
 n : s.firm.length = n
 rc : Rcv B s.firm r
theorem Dvc.again {B n : Nat} {s : Sim} {r : List Rw} (h : Dvc B n s r) (q : Nat) (hq : q ≤ 1000) (K : List Bool) (hB : B < 1073741824) :
  ∃ y, openR (s.setFuse (q : Int)) = (0, y) ∧ (s.setFuse (q : Int)).loose = [] ∧ (s.setFuse (q : Int)).firm.length = n ∧ y.d.firm.length = n ∧ Dvc (B + 1) n (y.d.crash K) r := by
 have e : s.setFuse (q : Int) = { s with fuse := some q } := by
  unfold Sim.setFuse
  rw [goes_none h.fu, if_pos rfl, if_pos (by omega)]
  rfl
 have hok := h.ok.setFuse (q : Int) (by omega)
 rw [e] at hok ⊢
 obtain ⟨y, h1, h2, h3, h4, h5, h6, h7, h8, h9⟩ := open_step (s := { s with fuse := some q }) hok h.lo h.rc hB
 have hyn : y.d.firm.length = n := h6.trans h.n
 refine ⟨y, h1, h.lo, h.n, hyn, h2.good.ok.crash K, rfl, rfl, ?_, h8 K⟩
 show (kept _ _ _ _).length = n
 rw [kept_length]
 exact hyn
set_option maxRecDepth 100000 in
set_option maxHeartbeats 4000000 in
theorem again_walk (k : Nat) (lv : Value) (ds : List Deed) (nv : Value) (l : List UInt8) (kv : Value) (K : List Bool) (w : World) (hk : k ≤ 255) (hd : DS w lv ds) (hfd : FewD ds) (hn : RB w nv l) (hnl : l.length ≤ 140737488351232) (hK : BK w kv K) (hKl : K.length ≤ 140737488351232) :
  Calls Tryz.prog 6 #[.int .u8 (k : Int), lv, nv, kv] w fun e w' => e = .returned (.bool true) ∧ Below w.heap.size w w' := by
 have HD := Lib.hid hd
 have HFD := Lib.hid hfd
 have HNV := Lib.hid hn
 have HKV := Lib.hid hK
 have hmu := muchS_any hd
 have HMU := Lib.hid hmu
 obtain ⟨A, c, rfl, hl, _⟩ := hd
 obtain ⟨An, cn, rfl⟩ := rb_shape hn
 obtain ⟨AK, cK, rfl, _⟩ := hK
 obtain ⟨m, hm⟩ : ∃ m, m = ds.length := ⟨_, rfl⟩
 rw [← hm] at HD hl HMU ⊢
 have HM := Lib.hid hm
 clear hm hmu hn hfd
 go_enter Tryz.func6, Tryz.ntmps6
 go_wp2_with fail
 go_at_call 9
 refine HMU.out.mono ?_
 rintro e w1 ⟨r, rfl, hr, hb1⟩
 have HB1 := Lib.hid hb1
 have HR := Lib.hid hr
 have HKN := Lib.hid knownS_any
 clear hb1 hr
 cases r with
 | true =>
  go_wp2_with fail
  go_at_call 10
  refine (HKN.out _).mono ?_
  rintro e wk ⟨rfl, hbk⟩
  have HBK := Lib.hid (HB1.out.trans (hbk.mono HB1.out.size))
  clear hbk
  go_wp2
  go_ret
  exact ⟨rfl, HBK.out⟩
 | false =>
  have hm200 : m ≤ 200 := by rw [HM.out]; exact HR.out rfl HFD.out
  by_cases hk1 : 100 < K.length
  ·have hk2 : (100 : Int) < (K.length : Int) := by omega
   go_wp2_with fail
   go_at_call 10
   refine (HKN.out _).mono ?_
   rintro e wk ⟨rfl, hbk⟩
   have HBK := Lib.hid (HB1.out.trans (hbk.mono HB1.out.size))
   clear hbk
   go_wp2
   go_ret
   exact ⟨rfl, HBK.out⟩
  have hk2 : ¬ (100 : Int) < (K.length : Int) := by omega
  by_cases hn1 : 8 < l.length
  ·have hn2 : (8 : Int) < (l.length : Int) := by omega
   go_wp2_with fail
   go_at_call 10
   refine (HKN.out _).mono ?_
   rintro e wk ⟨rfl, hbk⟩
   have HBK := Lib.hid (HB1.out.trans (hbk.mono HB1.out.size))
   clear hbk
   go_wp2
   go_ret
   exact ⟨rfl, HBK.out⟩
  have hn2 : ¬ (8 : Int) < (l.length : Int) := by omega
  clear hk1
  go_wp2_with fail
  go_at_call 11
  refine (pair_any k hk w1).mono ?_
  rintro e w2 ⟨dg, tv, rfl, hpr, hb2⟩
  obtain ⟨hown, v0, v1, v2, v3, v4, v5, rfl, ⟨_, _, rfl⟩, ⟨_, _, rfl⟩, ⟨_, rfl⟩, ⟨_, rfl⟩, ⟨_, rfl⟩, ⟨_, rfl⟩⟩ := pair_own (B := w.heap.size) HB1.out.size hpr hb2.size
  obtain ⟨o1, o2, o3, o4, o5, o6⟩ := size_open k
  have hof := fun X (hX : Below w2.heap.size w2 X) => own_formatS (w := X) (hown.below hX) (by rw [new_firm]; exact (sizeN_in k).1) (Nat.zero_le _)
  obtain ⟨Y, hY⟩ : ∃ Y, Y = openedS (Sim.new (sizeN k)) := ⟨_, rfl⟩
  obtain ⟨Q, hQ⟩ : ∃ Q, Q = formatS (Sim.new (sizeN k)) := ⟨_, rfl⟩
  have hYe : Y.ep = 2 ∧ Y.rows = [] := by rw [hY]; exact ⟨rfl, rfl⟩

  rw [← hY] at o1 o2 o3 o4
  rw [← hQ] at o1 o5 o6 hof
  have HOF := Lib.hid hof
  have HO1 := Lib.hid o1
  have HI := Lib.hid o2
  have HFU := Lib.hid o3
  have HYN := Lib.hid o4
  have HYE := Lib.hid hYe
  have HO5 := Lib.hid o5
  have HO6 := Lib.hid o6
  have HB2 := Lib.hid (HB1.out.trans (hb2.mono HB1.out.size))
  clear hpr hb2 hown o1 o2 o3 o4 o5 o6 hof hY hQ hYe
  go_wp2_with fail
  go_at_call 12
  refine (HOF.out _ ((Below.refl _ _).alloc (Nat.le_refl _) _)).mono ?_
  rintro e w3 ⟨rfl, hown3, hb3⟩
  have hb3' := (HB2.out.alloc HB2.out.size _).trans hb3
  have HB3 := Lib.hid hb3'
  have HOP := Lib.hid (own_openOk hown3 HO6.out HO5.out HO1.out)
  clear hown3 hb3 hb3'
  go_wp2_with fail
  go_at_call 14
  refine HOP.out.mono ?_
  rintro e w4 ⟨sv, rfl, hst, hb4⟩
  have HB4 := Lib.hid (HB3.out.trans hb4)
  obtain ⟨g, rfl⟩ := hst.ptr
  have HST := Lib.hid hst
  clear hst hb4
  go_wp2_with fail
  go_loopw [13] (fun i wr => ∃ (j : Nat) (x : Ss), j ≤ m ∧ i = .int .i64 j ∧ InvS x ∧ x.d.fuse = none ∧ x.ep ≤ 2 + j ∧ x.n = sizeN k ∧ OwnS w.heap.size dg wr (.pointer (some ⟨g, 0, none⟩)) x ∧ Below w.heap.size w wr) (fun i _ => m - (intOf i).toNat)
  case atStart => exact ⟨0, Y, Nat.zero_le _, rfl, HI.out, HFU.out, by rw [HYE.out.1]; omega, HYN.out, HST.out, HB4.out⟩
  case round =>
   obtain ⟨j, x, hj, rfl, hI, hfu, hep, hxn, hS, hbw⟩ := hrel
   have HIx := Lib.hid hI
   have HFx := Lib.hid hfu
   have HEx := Lib.hid hep
   have HNx := Lib.hid hxn
   have HSx := Lib.hid hS
   have HBw := Lib.hid hbw
   clear hI hS hbw hfu hep hxn
   by_cases hlt : j < m
   ·obtain ⟨b, off, dx, hA, hbb, _, hdx⟩ := (HD.out.below HBw.out).at_ HM.out hlt
    subst hA
    obtain ⟨_, ⟨u2, d2, hru⟩, _, _, _, _, hcl, _⟩ := hdx
    have hch := changeList_any u2 dx.c 6 (by omega) wr hru (by omega)
    obtain ⟨A2, c2, rfl⟩ := rb_shape hru
    have HCH := Lib.hid hch
    obtain ⟨cs, hcs⟩ : ∃ cs, cs = cOf dx.c := ⟨_, rfl⟩
    have hfew := cOf_few dx.c
    rw [← hcs] at hfew
    have HCS := Lib.hid (show cs = (rowsAt dx.c (nrows dx.c 6)).map chgOf from hcs)
    have HFEW := Lib.hid hfew
    rw [← HCS.out] at HCH
    have i6 : (j : Int) < (m : Int) := by omega
    clear hch hcs hfew hru
    go_wp2_with fail
    go_at_call 23
    refine HCH.out.mono ?_
    rintro e w5 ⟨cv, rfl, hoc, hb5⟩
    have hcm := own_commitS HSx.out hb5 HIx.out.good hoc (by have := HFEW.out.1; omega) (by have := HFEW.out.2.1; omega)
    obtain ⟨A5, c5, rfl, hc5⟩ := rc_shape hoc.rc
    obtain ⟨R, hR⟩ : ∃ R, R = commitR x cs := ⟨_, rfl⟩
    obtain ⟨s1, s2, s3, _, _, _, _⟩ := commit_step (cs := cs) HIx.out (fun _ => HFEW.out.2.2)
    have sfu := commit_fuse cs HFx.out
    rw [← hR] at s1 s2 s3 sfu
    have HI5 := Lib.hid s1
    have HN5 := Lib.hid s2
    have HE5 := Lib.hid s3
    have HF5 := Lib.hid sfu
    clear s1 s2 s3 sfu
    rw [← hR] at hcm
    have HCM := Lib.hid hcm
    have HB5 := Lib.hid (HBw.out.trans (hb5.mono HBw.out.size))
    clear hcm hR hb5 hoc
    go_wp2_with fail
    go_at_call 25
    refine HCM.out.mono ?_
    rintro e w6 ⟨rfl, hs6, hb6, hoc6⟩
    have HS6 := Lib.hid hs6
    have HB6 := Lib.hid (HB5.out.trans hb6)
    clear hs6 hb6 hoc6
    go_wp2
    go_roundw
    case rel => exact ⟨j + 1, R.1, by omega, by go_num, HI5.out, HF5.out, by have := HE5.out; have := HEx.out; omega, HN5.out.trans HNx.out, HS6.out, HB6.out⟩
    case measure => simp [intOf]; omega
   ·obtain rfl : j = m := by omega
    have hm2 : ¬ (j : Int) < (j : Int) := by omega
    have HRW := Lib.hid (own_rowsS HSx.out HIx.out.good)
    go_wp2_with fail
    go_at_call 32
    refine HRW.out.mono ?_
    rintro e w5 ⟨rv, rfl, hor, hb5⟩
    have HB5 := Lib.hid (HBw.out.trans (hb5.mono HBw.out.size))
    have HOR := Lib.hid hor
    obtain ⟨Ar, cr, rfl⟩ := or_shape hor
    have hdv : Dvc 300 (sizeN k) x.d x.rows := ⟨HIx.out.good.ok, HIx.out.good.calm (goes_none HFx.out), HFx.out, HNx.out, (HIx.out.rcv (goes_none HFx.out)).more (by have := HEx.out; omega)⟩
    obtain ⟨P, hP⟩ : ∃ P : Nat → Prop, P = fun k => wr.heap.size ≤ k ∧ k < w5.heap.size := ⟨_, rfl⟩
    have how : OwnX P w.heap.size w5 (dp dg) x.d := (HSx.out.sx.more (P' := P) hb5 (fun k hk => .inr (by rw [hP] at hk; exact hk))).dev
    have hro : RO P w5 (.slice Ar x.rows.length cr) x.rows := by rw [hP]; exact or_ro HOR.out (Nat.le_refl _)
    obtain ⟨S0, hS0⟩ : ∃ S0, S0 = x.d := ⟨_, rfl⟩
    obtain ⟨rs, hrs⟩ : ∃ rs, rs = x.rows := ⟨_, rfl⟩
    rw [← hS0, ← hrs] at hdv
    rw [← hS0] at how
    rw [← hrs] at hro ⊢
    have HDV := Lib.hid hdv
    have HOW := Lib.hid how
    have HRO := Lib.hid hro
    clear hor hb5 hdv how hS0 hrs hro hP
    go_wp2_with fail
    go_loopw [15] (fun i wr => ∃ (q : Nat) (s : Sim), q ≤ l.length ∧ i = .int .i64 q ∧ Dvc (300 + q) (sizeN k) s rs ∧ OwnX P w.heap.size wr (dp dg) s ∧ RO P wr (.slice Ar rs.length cr) rs ∧ Below w.heap.size w wr) (fun i _ => l.length - (intOf i).toNat)
    case atStart => exact ⟨0, S0, Nat.zero_le _, rfl, HDV.out, HOW.out, HRO.out, HB5.out⟩
    case round =>
     obtain ⟨q, s, hq, rfl, hdv, how, hrr, hbw⟩ := hrel
     have HDVq := Lib.hid hdv
     have HOWq := Lib.hid how
     have HRRq := Lib.hid hrr
     have HBq := Lib.hid hbw
     clear hdv how hrr hbw
     have hsz := sizeN_in k
     have HSZ := Lib.hid hsz
     clear hsz
     by_cases hql : q < l.length
     ·obtain ⟨b1, o1, hAn, hb1, hc1⟩ := rb_cell (HNV.out.below HBq.out) hql
      subst hAn
      have hz255 : l[q].toNat ≤ 255 := by have := UInt8.toNat_lt l[q]; omega
      unfold bv at hc1
      generalize l[q].toNat = z at hc1 hz255
      obtain ⟨f, hf⟩ : ∃ f, f = z % 30 := ⟨_, rfl⟩
      have hm2 : (z : Int).tmod 30 = (f : Int) := by rw [Int.tmod_eq_emod_of_nonneg (by omega)]; omega
      have hf30 : f < 30 := by omega
      obtain ⟨y, y1, y2, y3, y4, y5⟩ := HDVq.out.again f (by omega) K (by omega)
      have HFU2 := Lib.hid (ox_fuse (f : Int) (by omega) HOWq.out)
      have HY1 := Lib.hid y1
      have HY2 := Lib.hid y2
      have HY3 := Lib.hid y3
      have HY5 := Lib.hid y5
      have hql2 : (q : Int) < (l.length : Int) := by omega
      clear hf y1 y2 y3 y4 y5 hb1
      go_wp2_with fail
      go_at_call 17
      refine HFU2.out.mono ?_
      rintro e w6 ⟨rfl, ho6, hs6⟩
      have HOP6 := Lib.hid (ox_open ho6 (by rw [HY3.out]; exact HSZ.out.1) HY2.out HY1.out)
      have HS6 := Lib.hid hs6
      clear ho6 hs6
      go_wp2_with fail
      go_at_call 14
      refine HOP6.out.mono ?_
      rintro e w7 ⟨sv7, rfl, ho7, hs7⟩
      have hst7 := HS6.out.trans_ hs7
      have HS7 := Lib.hid hst7
      have HCR := Lib.hid (ox_crash (.slice AK K.length cK) K ho7.dev HKV.out (HBq.out.trans hst7.bel) (Nat.le_refl _))
      obtain ⟨g7, rfl⟩ := ho7.own.ptr
      clear ho7 hs7 hst7
      go_wp2_with fail
      go_at_call 21
      refine HCR.out.mono ?_
      rintro e w8 ⟨rfl, ho8, hs8⟩
      have HO8 := Lib.hid ho8
      have HS8 := Lib.hid (HS7.out.trans_ hs8)
      clear ho8 hs8
      go_wp2
      go_roundw
      case rel => exact ⟨q + 1, y.d.crash K, by omega, by go_num, by have h := HY5.out; rw [show 300 + q + 1 = 300 + (q + 1) by omega] at h; exact h, HO8.out, HS8.out.ro HRRq.out, HBq.out.trans HS8.out.bel⟩
      case measure => simp [intOf]; omega
     ·obtain ⟨y, y1, y2, y3, y4, y5, y6, y7, _, _⟩ := open_step HDVq.out.ok HDVq.out.lo HDVq.out.rc (by omega)
      have HOP6 := Lib.hid (ox_open HOWq.out (by rw [HDVq.out.n]; exact HSZ.out.1) HDVq.out.lo y1)
      have HGY := Lib.hid y2
      have HRY := Lib.hid y3
      have hql2 : ¬ (q : Int) < (l.length : Int) := by omega
      clear y1 y2 y3 y4 y5 y6 y7
      go_wp2_with fail
      go_at_call 14
      refine HOP6.out.mono ?_
      rintro e w6 ⟨sv6, rfl, ho6, hs6⟩
      obtain ⟨g6, rfl⟩ := ho6.own.ptr
      have HO6 := Lib.hid ho6
      have HS6 := Lib.hid hs6
      clear ho6 hs6
      go_wp2_with fail
      go_at_call 10
      refine (HKN.out _).mono ?_
      rintro e w7 ⟨rfl, hb7⟩
      have HB7 := Lib.hid hb7
      have HRW7 := Lib.hid (own_rowsS (HO6.out.below hb7).own HGY.out.good)
      have HRO7 := Lib.hid ((HS6.out.ro HRRq.out).keep hb7.size (fun k hk => hb7.block k (by obtain ⟨_, _, _, _, h⟩ := HO6.out; exact h k hk)))
      clear hb7
      go_wp2_with fail
      go_at_call 32
      refine HRW7.out.mono ?_
      rintro e w8 ⟨rv8, rfl, hor8, hb8⟩
      obtain ⟨A8, c8, hrv8⟩ := or_shape hor8
      have hsr := sameRows_any rv8 _ rs w8 (by have h := hor8.rr; rw [HRY.out] at h; exact h) (rr_below HRO7.out.rr hb8 (Nat.le_refl _))
      subst hrv8
      have HSR := Lib.hid hsr
      have HB8 := Lib.hid ((HBq.out.trans HS6.out.bel).trans ((HB7.out.trans (hb8.mono HB7.out.size)).mono (HBq.out.trans HS6.out.bel).size))
      clear hor8 hb8 hsr
      go_wp2_with fail
      go_at_call 34
      refine HSR.out.mono ?_
      rintro e w9 ⟨rfl, mm, rfl⟩
      go_wp2
      go_ret
      exact ⟨rfl, HB8.out.trans ((bel_drewN _ _).mono HB8.out.size)⟩
end Go.Proofs.YtmbkaedhllfoeaaGreat
