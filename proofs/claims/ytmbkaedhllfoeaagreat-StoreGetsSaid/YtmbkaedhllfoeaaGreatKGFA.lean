/-
  The contract of the statements' own pair: a device, and the document's own one beside it.; Deeds that came in: how they lie; the contract of the statements' own much.; The walk of StoreGets: it answers true of any deeds and key.
-/
import Derived.BigQuiet
import Derived.Test.YtmbkaedhllfoeaaGreatKGCD
import Derived.Test.YtmbkaedhllfoeaaGreatKGEI
set_option linter.unusedVariables false
namespace Go.Proofs.YtmbkaedhllfoeaaGreat
open Go.RowKit Go.Rst Go.Dv Go.Crc Go.Str Go.Pg
theorem leavePR {W : World} {tmps : Array Value} {g : Nat} {z0 z1 z2 z3 z4 z5 d : Value} (h4 : tmps.getD 3 undef = .pointer (some ⟨g, 0, none⟩)) (h5 : tmps.getD 2 undef = d) (hb : Dv.Blk W g 29 #[z0, z1, z2, z3, z4, z5]) :
    (results Tryz.f11 tmps).run Tryz.prog W = .ok (.tuple #[d, .agg #[z0, z1, z2, z3, z4, z5]]) W := by
  have r0 := hb.cell 0
  have r1 := hb.cell 1
  have r2 := hb.cell 2
  have r3 := hb.cell 3
  have r4 := hb.cell 4
  have r5 := hb.cell 5
  simp at r0 r1 r2 r3 r4 r5
  rw [Array.getD_eq_getD_getElem?] at h4 h5

  simp [results, h4, h5, r0, r1, r2, r3, r4, r5, go_sem]
/-- A struct's six cells laid over a block's, and a draw. -/
def sixD (w : World) (g : Nat) (v0 v1 v2 v3 v4 v5 : Value) : World := ((((((w.setCell ⟨g, 0, none⟩ v0).setCell ⟨g, 1, none⟩ v1).setCell ⟨g, 2, none⟩ v2).setCell ⟨g, 3, none⟩ v3).setCell ⟨g, 4, none⟩ v4).setCell ⟨g, 5, none⟩ v5).drew
theorem sixD_far {w : World} {g b : Nat} {t : TypeId} {cs : Array Value} (h : Dv.Blk w b t cs) (hne : b ≠ g) (v0 v1 v2 v3 v4 v5 : Value) : Dv.Blk (sixD w g v0 v1 v2 v3 v4 v5) b t cs := by
  have h6 := (((((h.far (p := ⟨g, 0, none⟩) hne v0).far (p := ⟨g, 1, none⟩) hne v1).far (p := ⟨g, 2, none⟩) hne v2).far (p := ⟨g, 3, none⟩) hne v3).far (p := ⟨g, 4, none⟩) hne v4).far (p := ⟨g, 5, none⟩) hne v5
  unfold sixD
  exact h6.below (Below.refl _ _).drew h6.lt
theorem sixD_here {w : World} {g : Nat} {t : TypeId} {z0 z1 z2 z3 z4 z5 : Value} (h : Dv.Blk w g t #[z0, z1, z2, z3, z4, z5]) (v0 v1 v2 v3 v4 v5 : Value) : Dv.Blk (sixD w g v0 v1 v2 v3 v4 v5) g t #[v0, v1, v2, v3, v4, v5] := by
  have h6 := blk_six h v0 v1 v2 v3 v4 v5
  unfold sixD
  exact h6.below (Below.refl _ _).drew h6.lt
theorem sixD_fr (w : World) (g : Nat) (v0 v1 v2 v3 v4 v5 : Value) : Fr (fun j => j = g) w (sixD w g v0 v1 v2 v3 v4 v5) := (fr_six (Fr.refl (fun j => j = g) w) (.inl rfl) v0 v1 v2 v3 v4 v5).drew
theorem sixD_def (w : World) (g : Nat) (v0 v1 v2 v3 v4 v5 : Value) : ((((((w.setCell ⟨g, 0, none⟩ v0).setCell ⟨g, 1, none⟩ v1).setCell ⟨g, 2, none⟩ v2).setCell ⟨g, 3, none⟩ v3).setCell ⟨g, 4, none⟩ v4).setCell ⟨g, 5, none⟩ v5).drew = sixD w g v0 v1 v2 v3 v4 v5 := rfl
set_option maxRecDepth 100000 in
set_option maxHeartbeats 2000000 in
theorem pair_any (k : Nat) (hk : k ≤ 255) (w : World) : Calls Tryz.prog 11 #[.int .u8 (k : Int)] w fun e w' => ∃ dg tv, e = .returned (.tuple #[dp dg, tv]) ∧
    (∃ (D : Nat → Prop) (m : Nat), Dev D w' (dp dg) (Sim.new (sizeN k)) ∧ (∀ j, D j → w.heap.size ≤ j ∧ j < m) ∧ TRd (fun j => j < m) w' tv (Sim.new (sizeN k))) ∧ Below w.heap.size w w' := by
  obtain ⟨s1, s2⟩ := sizeN_in k
  have hs := fun X => size_any k hk X
  obtain ⟨n, hn⟩ : ∃ n, n = sizeN k := ⟨_, rfl⟩
  rw [← hn] at hs s1 s2 ⊢
  have HSZ := Lib.hid hs
  clear hs hn
  obtain ⟨Z, hZ⟩ : ∃ Z, Z = Obj.cells (tsD (.slice none 0 0)) 29 := ⟨_, rfl⟩
  have HZ := Lib.hid hZ
  clear hZ
  go_enter Tryz.func11, Tryz.ntmps11
  go_wp2_with (go_at_call 27; refine (HSZ.out _).mono ?_; rintro e w1 ⟨rfl, hb1⟩)
  have hbz : Below w.heap.size w (w.alloc (Obj.cells (tsD (.slice none 0 0)) 29)) := (Below.refl _ _).alloc (Nat.le_refl _) _
  have hk0 : Dv.Blk (w.alloc (Obj.cells (tsD (.slice none 0 0)) 29)) w.heap.size 29 (tsD (.slice none 0 0)) := heap_alloc_new w _
  have hbw1 : Below w.heap.size w w1 := hbz.trans (hb1.mono hbz.size)
  have hk1 := hk0.below hb1 hk0.lt
  refine (own_new (B := w1.heap.size) n w1 (by omega) (Nat.le_refl _)).mono ?_
  rintro e w2 ⟨dg, rfl, hown, hb2⟩
  have HK2 := Lib.hid (hk1.below hb2 hk1.lt)
  have HB2 := Lib.hid (hbw1.trans (hb2.mono hbw1.size))
  obtain ⟨D, hD1, hD2, hD3⟩ := hown
  have HD := Lib.hid hD1
  have HDB := Lib.hid (fun k (hk : D k) => Nat.le_trans hbw1.size (hD2 k hk))
  have HLD := Lib.hid (fun k (hk : D k) => Nat.lt_of_lt_of_le hk1.lt (hD2 k hk))
  clear hb1 hb2 hk0 hk1 hbz hbw1 hD1 hD2 hD3
  go_wp2_with (go_at_call 27; refine (HSZ.out _).mono ?_; rintro e w3 ⟨rfl, hb3⟩)
  have hk3 := HK2.out.below hb3 HK2.out.lt
  have hd3 := HD.out.below hb3
  have hbw3 := HB2.out.trans (hb3.mono HB2.out.size)
  refine (refnew_any (A := fun j => j < w3.heap.size) n w3 (by omega) (fun k hk => hk)).mono ?_
  rintro e w4 ⟨tv, rfl, htr, hb4⟩
  have HTR := Lib.hid htr
  obtain ⟨vS, vL, lf, c2, c3, rfl, hS, hL, _⟩ := htr
  obtain ⟨aS, cS, rfl, _⟩ := hS.shape
  obtain ⟨aL, cL, rfl, _⟩ := hL.shape
  rw [show (Sim.new n).loose.length = 0 from rfl, show (Sim.new n).fuse.isSome = false from rfl, new_firm] at HTR ⊢
  have HK4 := Lib.hid (hk3.below hb4 hk3.lt)
  have HD4 := Lib.hid (hd3.below hb4)
  have HB4 := Lib.hid (hbw3.trans (hb4.mono hbw3.size))
  have HLT := Lib.hid hd3.lt
  have HSW3 := Lib.hid (show w.heap.size < w3.heap.size from hk3.lt)
  have HS34 := Lib.hid hb4.size
  clear hk3 hd3 hbw3 hb3 hb4 hS hL
  obtain ⟨Q, hQ⟩ : ∃ Q, Q = Obj.cells #[.slice aS n cS, .slice aL 0 cL, .int .i64 c2, .int .i64 c3, .bool false, .int .i64 lf] 29 := ⟨_, rfl⟩
  have hk5 : Dv.Blk (w4.alloc Q) w4.heap.size 29 #[.slice aS n cS, .slice aL 0 cL, .int .i64 c2, .int .i64 c3, .bool false, .int .i64 lf] := by rw [hQ]; exact heap_alloc_new w4 _
  have hb5 : Below w4.heap.size w4 (w4.alloc Q) := (Below.refl _ _).alloc (Nat.le_refl _) _
  have HK5 := Lib.hid (show Dv.Blk (w4.alloc Q) w4.heap.size 29 #[.slice aS n cS, .slice aL 0 cL, .int .i64 c2, .int .i64 c3, .bool false, .int .i64 lf] from hk5)
  have HK0 := Lib.hid (HK4.out.below hb5 HK4.out.lt)
  have HB5 := Lib.hid hb5
  have HQ := Lib.hid hQ
  have HNE := Lib.hid (show w4.heap.size ≠ w.heap.size by have := HK4.out.lt; omega)
  clear hk5 hb5 hQ
  go_wp2_with fail
  rw [← HQ.out]
  refine wp_region_held_drew (S := fun X => Dv.Blk X w4.heap.size 29 #[.slice aS n cS, .slice aL 0 cL, .int .i64 c2, .int .i64 c3, .bool false, .int .i64 lf] ∧ True) (by kernel_rfl) ⟨HK5.out, trivial⟩ (fun hHeld => ?_)
  refine wpAnyH_take (i := 0) (oi := { dst := some 16, op := Op.move (Operand.tmp 4), type := 25, pos := "law.go:49", after := #[], guard := none }) (v := ?_) rfl (by kernel_rfl) (by kernel_rfl) (by kernel_rfl) (fun _ _ _ h => h) (Or.inl ⟨by rfl, ?_⟩) (by assumption) ?_
  rotate_left
  · intro X hSw; go_simp; try (with_reducible rfl)
  try simp only [Act.put, List.setIfInBounds_toArray, List.set_cons_zero, List.set_cons_succ]
  refine wpAnyH_take (i := 1) (oi := { dst := some 17, op := Op.load 29 (Operand.tmp 5), type := 29, pos := "law.go:49", after := #[{ on := 2, ground := Ground.gcOnly Departure.lateStores }], guard := none }) (v := ?_) rfl (by kernel_rfl) (by kernel_rfl) (by kernel_rfl) (fun _ _ _ h => h) (Or.inl ⟨by rfl, ?_⟩) (by assumption) ?_
  rotate_left
  · intro X hSw; have z0 := hSw.1.cell 0; have z1 := hSw.1.cell 1; have z2 := hSw.1.cell 2; have z3 := hSw.1.cell 3; have z4 := hSw.1.cell 4; have z5 := hSw.1.cell 5; simp at z0 z1 z2 z3 z4 z5; go_simp; try (with_reducible rfl)
  try simp only [Act.put, List.setIfInBounds_toArray, List.set_cons_zero, List.set_cons_succ]
  refine wpAnyH_take (i := 2) (oi := { dst := some 2, op := Op.assign (Operand.tmp 16), type := 25, pos := "law.go:49", after := #[{ on := 0, ground := Ground.data }, { on := 0, ground := Ground.phase }, { on := 1, ground := Ground.textOnly Departure.lateStores }], guard := none }) (v := ?_) rfl (by kernel_rfl) (by kernel_rfl) (by kernel_rfl) (fun _ _ _ h => h) (Or.inl ⟨by rfl, ?_⟩) (by assumption) ?_
  rotate_left
  · intro X hSw; go_simp; try (with_reducible rfl)
  try simp only [Act.put, List.setIfInBounds_toArray, List.set_cons_zero, List.set_cons_succ]
  refine wpAnyH_ready (rs := [3]) (by kernel_rfl) (by simp) ?_
  refine AllReadyH.cons (o := { dst := none, op := Op.store 29 (Operand.tmp 3) (Operand.tmp 17), type := 0, pos := "law.go:49", after := #[{ on := 1, ground := Ground.data }, { on := 2, ground := Ground.chain }, { on := 0, ground := Ground.phase }, { on := 1, ground := Ground.phase }, { on := 2, ground := Ground.phase }], guard := none }) rfl (fun K hK => ?_) AllReadyH.nil
  have y0 := HK0.out.cell 0; have y1 := HK0.out.cell 1; have y2 := HK0.out.cell 2; have y3 := HK0.out.cell 3; have y4 := HK0.out.cell 4; have y5 := HK0.out.cell 5; unfold tsD at y0 y1 y2 y3 y4 y5; simp at y0 y1 y2 y3 y4 y5
  have yf0 := HK0.out.frozen 0
  have yf1 := HK0.out.frozen 1
  have yf2 := HK0.out.frozen 2
  have yf3 := HK0.out.frozen 3
  have yf4 := HK0.out.frozen 4
  have yf5 := HK0.out.frozen 5
  go_simp
  rw [sixD_def]
  clear y0 y1 y2 y3 y4 y5 yf0 yf1 yf2 yf3 yf4 yf5
  have hHeld' := (show Dv.Blk (sixD (w4.alloc Q) w.heap.size (.slice aS n cS) (.slice aL 0 cL) (.int .i64 c2) (.int .i64 c3) (.bool false) (.int .i64 lf)) w4.heap.size 29 #[.slice aS n cS, .slice aL 0 cL, .int .i64 c2, .int .i64 c3, .bool false, .int .i64 lf] ∧ True from ⟨sixD_far HK5.out HNE.out _ _ _ _ _ _, trivial⟩)
  refine hK.out _ _ ?_ (fun _ => ?_)
  · exact hHeld'
  clear hK K hHeld
  have hHeld := hHeld'
  clear hHeld'
  try simp only [Act.put, List.setIfInBounds_toArray, List.set_cons_zero, List.set_cons_succ]
  refine wpAnyH_done (by kernel_rfl) ?_ _
  clear hHeld
  have hblk := sixD_here (w := w4.alloc Q) (g := w.heap.size) (by have h := HK0.out; unfold tsD at h; exact h) (.slice aS n cS) (.slice aL 0 cL) (.int .i64 c2) (.int .i64 c3) (.bool false) (.int .i64 lf)
  have hfr := sixD_fr (w4.alloc Q) w.heap.size (.slice aS n cS) (.slice aL 0 cL) (.int .i64 c2) (.int .i64 c3) (.bool false) (.int .i64 lf)
  generalize (sixD (w4.alloc Q) w.heap.size (.slice aS n cS) (.slice aL 0 cL) (.int .i64 c2) (.int .i64 c3) (.bool false) (.int .i64 lf)) = W6 at hblk hfr ⊢
  have HBK := Lib.hid hblk
  have HFR := Lib.hid hfr
  clear hblk hfr
  go_wp2
  refine bodyPost_ret (leavePR rfl rfl HBK.out) rfl ?_
  have hb5 := HB5.out
  have hlt := HS34.out
  have hw3 := HSW3.out
  have hf := (Fr.of_below (D := fun j => j = w.heap.size) hb5).trans HFR.out (fun _ h => .inl h)
  refine ⟨_, _, rfl, ⟨D, w3.heap.size, HD4.out.fr hf (fun j hj hd => ?_), fun j hj => ⟨HDB.out j hj, HLT.out j hj⟩, HTR.out.fr hf (fun j hj => ?_) (fun j hj => .inl hj)⟩, HB4.out.trans (hf.below (fun j hj => ?_) HB4.out.size)⟩
  · have := HLD.out j hd; omega
  · omega
  · omega
end Go.Proofs.YtmbkaedhllfoeaaGreat
namespace Go.Proofs.YtmbkaedhllfoeaaGreat
open Go.RowKit Go.Rst Go.Dv Go.Crc Go.Str Go.Pg
/-- Marks that came in. -/
def BK (w : World) (v : Value) (K : List Bool) : Prop :=
  ∃ A c, v = .slice A K.length c ∧ (K = [] ∨ ∃ b off, A = some ⟨b, off, none⟩ ∧ b < w.heap.size ∧ ∀ j (h : j < K.length), w.cell? ⟨b, off + j, none⟩ = some (.bool K[j]))
/-- A deed. -/
structure Deed where
  kind : Nat
  c : List UInt8
  keep : List Bool
  fuse : Nat
/-- A deed's cells. -/
def DeedAt (w : World) (b o : Nat) (x : Deed) : Prop :=
  w.cell? ⟨b, o, none⟩ = some (.int .u8 (x.kind : Int)) ∧ (∃ u, w.cell? ⟨b, o + 1, none⟩ = some u ∧ RB w u x.c) ∧ (∃ u, w.cell? ⟨b, o + 2, none⟩ = some u ∧ BK w u x.keep) ∧ w.cell? ⟨b, o + 3, none⟩ = some (.int .u8 (x.fuse : Int)) ∧
    x.kind ≤ 255 ∧ x.fuse ≤ 255 ∧ x.c.length ≤ 140737488351232 ∧ x.keep.length ≤ 140737488351232
/-- Deeds that came in. -/
def DS (w : World) (v : Value) (l : List Deed) : Prop :=
  ∃ A c, v = .slice A l.length c ∧ l.length ≤ 140737488351232 ∧ (l = [] ∨ ∃ b off, A = some ⟨b, off, none⟩ ∧ b < w.heap.size ∧ ∀ j (h : j < l.length), DeedAt w b (off + j * 4) l[j])
theorem BK.below {w w' : World} {v : Value} {K : List Bool} (h : BK w v K) (hb : Below w.heap.size w w') : BK w' v K := by
  obtain ⟨A, c, rfl, h1⟩ := h
  refine ⟨A, c, rfl, ?_⟩
  rcases h1 with h1 | ⟨b, off, rfl, hbb, hc⟩
  · exact .inl h1
  · exact .inr ⟨b, off, rfl, Nat.lt_of_lt_of_le hbb hb.size, fun j hj => (hb.cell (p := ⟨b, off + j, none⟩) hbb).trans (hc j hj)⟩
theorem BK.kb {w : World} {v : Value} {K : List Bool} (h : BK w v K) {D : Nat → Prop} (hD : ∀ k, D k → w.heap.size ≤ k) : KB D w v K := by
  obtain ⟨A, c, rfl, h1⟩ := h
  exact ⟨A, c, rfl, h1.imp id fun ⟨b, off, e, hb, hc⟩ => ⟨b, off, e, hb, fun hd => by have := hD b hd; omega, hc⟩⟩
theorem DS.below {w w' : World} {v : Value} {l : List Deed} (h : DS w v l) (hb : Below w.heap.size w w') : DS w' v l := by
  obtain ⟨A, c, rfl, h1, h2⟩ := h
  refine ⟨A, c, rfl, h1, ?_⟩
  rcases h2 with h2 | ⟨b, off, rfl, hbb, hd⟩
  · exact .inl h2
  · refine .inr ⟨b, off, rfl, Nat.lt_of_lt_of_le hbb hb.size, fun j hj => ?_⟩
    obtain ⟨d0, ⟨u1, d2, d3⟩, ⟨u2, d4, d5⟩, d6, d7⟩ := hd j hj
    have e : ∀ o, w'.cell? ⟨b, o, none⟩ = w.cell? ⟨b, o, none⟩ := fun o => hb.cell (p := ⟨b, o, none⟩) hbb
    exact ⟨(e _).trans d0, ⟨u1, (e _).trans d2, d3.below hb⟩, ⟨u2, (e _).trans d4, d5.below hb⟩, (e _).trans d6, d7⟩
theorem DS.at_ {w : World} {A : Option Addr} {c m k : Nat} {l : List Deed} (h : DS w (.slice A m c) l) (hm : m = l.length) (hk : k < m) :
    ∃ b off x, A = some ⟨b, off, none⟩ ∧ b < w.heap.size ∧ l[k]? = some x ∧ DeedAt w b (off + k * 4) x := by
  subst hm
  obtain ⟨A', c', he, _, h2⟩ := h
  injection he with he _ _
  subst he
  rcases h2 with h2 | ⟨b, off, rfl, hb, hd⟩
  · rw [h2] at hk; cases hk
  · exact ⟨b, off, _, rfl, hb, List.getElem?_eq_getElem hk, hd k hk⟩
/-- Deeds that no machine has trouble with. -/
def FewD (l : List Deed) : Prop := l.length ≤ 30000 ∧ ∀ x ∈ l, x.c.length ≤ 3000000 ∧ x.keep.length ≤ 3000000
/-- What much tells. -/
def MuchR (l : List Deed) (w : World) (e : Ending) (w' : World) : Prop := ∃ r : Bool, e = .returned (.bool r) ∧ (r = false → FewD l → l.length ≤ 200) ∧ Below w.heap.size w w'
set_option maxRecDepth 100000 in
set_option maxHeartbeats 1000000 in
theorem muchS_any {v : Value} {l : List Deed} {w : World} (h : DS w v l) :
    Calls Tryz.prog 9 #[v] w (MuchR l w) := by
  have HD := Lib.hid h
  obtain ⟨A, c, rfl, hl, _⟩ := h
  obtain ⟨m, hm⟩ : ∃ m, m = l.length := ⟨_, rfl⟩
  rw [← hm] at HD hl ⊢
  have HM := Lib.hid hm
  clear hm
  go_enter Tryz.func9, Tryz.ntmps9
  go_wp2
  go_loopw [3, 4] (fun n i wr => ∃ (z : Int) (k : Nat), n = .int .i64 z ∧ (FewD l → (k : Int) ≤ z ∧ z ≤ (k : Int) * 6000000) ∧ k ≤ m ∧ i = .int .i64 k ∧ Below w.heap.size w wr) (fun _ i _ => m - (intOf i).toNat)
  case atStart => exact ⟨_, 0, rfl, fun _ => by omega, Nat.zero_le _, rfl, Below.refl _ _⟩
  case round =>
    obtain ⟨z, k, rfl, hz, hk, rfl, hbel⟩ := hrel
    have HZ := Lib.hid hz
    clear hz
    by_cases hlt : k < m
    · obtain ⟨b, off, x, hA, hbb, hx, hd⟩ := (HD.out.below hbel).at_ HM.out hlt
      subst hA
      obtain ⟨_, ⟨u2, d2, A2, c2, e2, q2, q3, _⟩, ⟨u3, d3, A3, c3, e3, _⟩, _, _, _, l2, l3⟩ := hd
      subst e2
      subst e3
      have HBr := Lib.hid hbel
      have HX := Lib.hid hx
      clear hbel hx
      have i6 : (k : Int) < (m : Int) := by omega
      go_wp2_with fail
      go_quiet (fail)
      go_wp2
      go_roundw
      case rel =>
        refine ⟨_, k + 1, rfl, fun hf => ?_, by omega, by go_num, HBr.out.trans ((bel_drewN _ _).mono HBr.out.size)⟩
        obtain ⟨h1, h2⟩ := HZ.out hf
        have h3 := hf.2 x (List.mem_of_getElem? HX.out)
        have h4 := hf.1
        have h5 : k ≤ 30000 := by have := HM.out; omega
        have h6 : wrap64 (z + (1 + (x.c.length : Int) + (x.keep.length : Int) / 8)) = z + (1 + (x.c.length : Int) + (x.keep.length : Int) / 8) := by unfold wrap64; omega
        rw [h6]
        omega
      case measure => simp [intOf]; omega
    · obtain rfl : k = m := by omega
      have hm2 : ¬ (k : Int) < (k : Int) := by omega
      have HBr := Lib.hid hbel
      clear hbel
      by_cases h60 : 200 < z
      · go_wp2
        go_ret
        exact ⟨true, rfl, fun h => (by cases h), HBr.out⟩
      · go_wp2
        go_ret
        refine ⟨_, rfl, fun _ hf => ?_, HBr.out⟩
        have h1 := (HZ.out hf).1
        have h2 := HM.out
        omega
end Go.Proofs.YtmbkaedhllfoeaaGreat
namespace Go.Proofs.YtmbkaedhllfoeaaGreat
open Go.RowKit Go.Rst Go.Dv Go.Crc Go.Str Go.Pg
/-- What choices say is committed: a store that may be stays one. -/
def cOf (l : List UInt8) : List Chg := (rowsAt l (nrows l 6)).map chgOf
theorem cOf_few (l : List UInt8) : (cOf l).length ≤ 6 ∧ sizesC (cOf l) ≤ 1200 ∧ readChgs (chgsL (cOf l)) = (cOf l, 0) := by
  have h1 : (cOf l).length ≤ 6 := by unfold cOf; rw [List.length_map, rowsAt_length]; exact nrows_le l 6
  refine ⟨h1, ?_, readChgs_back _ (by omega) (madeC_short l _)⟩
  have := madeC_sizes l (nrows l 6)
  have h2 := nrows_le l 6
  unfold cOf
  omega
theorem fb_lit1 {w : World} {b0 k : Nat} (hb : b0 ≤ w.heap.size) (hk : k ≤ 255) : FB 5 (w.alloc (.cells #[.int .u8 (k : Int)] 5)) b0 (.slice (some ⟨w.heap.size, 0, none⟩) 1 1) [UInt8.ofNat k] := by
  refine .inr ⟨w.heap.size, 1, _, _, rfl, hb, heap_alloc_new w _, Nat.le_refl _, by unfold maxLen; omega, ?_⟩
  have h := bv_nat (n := k) (by omega)
  simp [bvs, ← h]
theorem commit_three {x : Ss} {cs : List Chg} (hne : cs ≠ []) : ((commitR x cs).2 = 3 ↔ cs.any longC = true) := by
  unfold commitR
  rw [if_neg hne]
  by_cases h : cs.any longC = true
  · rw [if_pos h]
    exact ⟨fun _ => h, fun _ => rfl⟩
  · rw [if_neg h]
    refine ⟨fun h2 => ?_, fun h2 => (h h2).elim⟩
    split at h2
    · cases h2
    · split at h2
      · cases h2
      · split at h2
        · cases h2
        · split at h2
          · cases h2
          · cases h2
theorem long_one (key : ByteArray) (b : UInt8) : ([(key, [b], false)] : List Chg).any longC = decide (30 < key.size) := by
  simp [longC]
/-- A device of choices' size, formatted and opened. -/
theorem size_open (k : Nat) : openR (formatS (Sim.new (sizeN k))) = (0, openedS (Sim.new (sizeN k))) ∧ InvS (openedS (Sim.new (sizeN k))) ∧ (openedS (Sim.new (sizeN k))).d.fuse = none ∧ (openedS (Sim.new (sizeN k))).n = sizeN k ∧ (formatS (Sim.new (sizeN k))).loose = [] ∧ 64 ≤ (formatS (Sim.new (sizeN k))).firm.length := by
  obtain ⟨h1, h2⟩ := sizeN_in k
  have h := open_format (s := Sim.new (sizeN k)) (OK.new (by omega)) rfl rfl (by rw [new_firm]; exact h1)
  rw [new_firm] at h
  exact h
/-- pair's device, of the call's own. -/
theorem pair_own {k : Nat} {w w' : World} {dg : Nat} {tv : Value} {B : Nat} (hB : B ≤ w.heap.size) (h : (∃ (D : Nat → Prop) (m : Nat), Dev D w' (dp dg) (Sim.new (sizeN k)) ∧ (∀ j, D j → w.heap.size ≤ j ∧ j < m) ∧ TRd (fun j => j < m) w' tv (Sim.new (sizeN k)))) (hs : w.heap.size ≤ w'.heap.size) :
    Dv.Own B w' (dp dg) (Sim.new (sizeN k)) ∧ ∃ v0 v1 v2 v3 v4 v5, tv = .agg #[v0, v1, v2, v3, v4, v5] ∧ (∃ a c, v0 = .slice a (sizeN k) c) ∧ (∃ c a, v1 = .slice a 0 c) ∧ (∃ n, v2 = .int .i64 n) ∧ (∃ n, v3 = .int .i64 n) ∧ (∃ n, v4 = .bool n) ∧ (∃ n, v5 = .int .i64 n) := by
  obtain ⟨D, m, h1, h2, vS, vL, lf, c2, c3, rfl, hS, hL, _⟩ := h
  obtain ⟨aS, cS, rfl, _⟩ := hS.shape
  obtain ⟨aL, cL, rfl, _⟩ := hL.shape
  rw [new_firm]
  exact ⟨⟨D, h1, fun j hj => Nat.le_trans hB (h2 j hj).1, Nat.le_trans hB hs⟩, _, _, _, _, _, _, rfl, ⟨_, _, rfl⟩, ⟨_, _, rfl⟩, ⟨_, rfl⟩, ⟨_, rfl⟩, ⟨_, rfl⟩, ⟨_, rfl⟩⟩
set_option maxRecDepth 100000 in
set_option maxHeartbeats 4000000 in
theorem gets_walk (k : Nat) (lv : Value) (ds : List Deed) (key : ByteArray) (w : World) (hk : k ≤ 255) (hd : DS w lv ds) :
    Calls Tryz.prog 8 #[.int .u8 (k : Int), lv, .string key] w fun e w' => e = .returned (.bool true) ∧ Below w.heap.size w w' := by
  have HD := Lib.hid hd
  have hmu := muchS_any hd
  have HMU := Lib.hid hmu
  obtain ⟨A, c, rfl, hl, _⟩ := hd
  obtain ⟨m, hm⟩ : ∃ m, m = ds.length := ⟨_, rfl⟩
  rw [← hm] at HD hl HMU ⊢
  have HM := Lib.hid hm
  clear hm hmu
  go_enter Tryz.func8, Tryz.ntmps8
  go_wp2_with fail
  go_at_call 9
  refine HMU.out.mono ?_
  rintro e w1 ⟨r, rfl, _, hb1⟩
  have HB1 := Lib.hid hb1
  have HKN := Lib.hid knownS_any
  clear hb1
  -- what ends with known
  cases r with
  | true =>
    go_wp2_with fail
    go_at_call 10
    refine (HKN.out _).mono ?_
    rintro e w2 ⟨rfl, hb2⟩
    have HB2 := Lib.hid (HB1.out.trans (hb2.mono HB1.out.size))
    clear hb2
    go_wp2
    go_ret
    exact ⟨rfl, HB2.out⟩
  | false =>
    by_cases hkl : 60 < key.size
    · have hkl2 : (60 : Int) < (key.size : Int) := by omega
      go_wp2_with fail
      go_at_call 10
      refine (HKN.out _).mono ?_
      rintro e w2 ⟨rfl, hb2⟩
      have HB2 := Lib.hid (HB1.out.trans (hb2.mono HB1.out.size))
      clear hb2
      go_wp2
      go_ret
      exact ⟨rfl, HB2.out⟩
    · have hkl2 : ¬ (60 : Int) < (key.size : Int) := by omega
      have HKL := Lib.hid hkl
      clear hkl
      go_wp2_with fail
      go_at_call 11
      refine (pair_any 5 (by omega) w1).mono ?_
      rintro e w2 ⟨dg, tv, rfl, hpr, hb2⟩
      obtain ⟨hown, v0, v1, v2, v3, v4, v5, rfl, ⟨_, _, rfl⟩, ⟨_, _, rfl⟩, ⟨_, rfl⟩, ⟨_, rfl⟩, ⟨_, rfl⟩, ⟨_, rfl⟩⟩ := pair_own (B := w.heap.size) HB1.out.size hpr hb2.size
      obtain ⟨o1, o2, o3, o4, o5, o6⟩ := size_open 5
      have hof := fun X (hX : Below w2.heap.size w2 X) => own_formatS (w := X) (hown.below hX) (by rw [new_firm]; exact (sizeN_in 5).1) (Nat.zero_le _)
      obtain ⟨Y, hY⟩ : ∃ Y, Y = openedS (Sim.new (sizeN 5)) := ⟨_, rfl⟩
      obtain ⟨Q, hQ⟩ : ∃ Q, Q = formatS (Sim.new (sizeN 5)) := ⟨_, rfl⟩
      rw [← hY] at o1 o2
      rw [← hQ] at o1 o5 o6 hof
      have HOF := Lib.hid hof
      have HO1 := Lib.hid o1
      have HI := Lib.hid o2
      have HO5 := Lib.hid o5
      have HO6 := Lib.hid o6
      have HB2 := Lib.hid (HB1.out.trans (hb2.mono HB1.out.size))
      clear hpr hb2 hown o1 o2 o3 o4 o5 o6 hof hY hQ
      go_wp2_with fail
      go_at_call 12
      refine (HOF.out _ ((Below.refl _ _).alloc (Nat.le_refl _) _)).mono ?_
      rintro e w3 ⟨rfl, hown3, hb3⟩
      have hb3' := (HB2.out.alloc HB2.out.size _).trans hb3
      have HB3 := Lib.hid hb3'
      have HOP := Lib.hid (own_openOk hown3 HO6.out HO5.out HO1.out)
      clear hown3 hb3 hb3'
      go_wp2_with fail
      go_at_call 14
      refine HOP.out.mono ?_
      rintro e w4 ⟨sv, rfl, hst, hb4⟩
      have HB4 := Lib.hid (HB3.out.trans hb4)
      obtain ⟨g, rfl⟩ := hst.ptr
      have HST := Lib.hid hst
      clear hst hb4
      go_wp2_with fail
      go_loopw [11] (fun i wr => ∃ (j : Nat) (x : Ss), j ≤ m ∧ i = .int .i64 j ∧ InvS x ∧ OwnS w.heap.size dg wr (.pointer (some ⟨g, 0, none⟩)) x ∧ Below w.heap.size w wr) (fun i _ => m - (intOf i).toNat)
      case atStart => exact ⟨0, Y, Nat.zero_le _, rfl, HI.out, HST.out, HB4.out⟩
      case round =>
        obtain ⟨j, x, hj, rfl, hI, hS, hbw⟩ := hrel
        have HIx := Lib.hid hI
        have HSx := Lib.hid hS
        have HBw := Lib.hid hbw
        clear hI hS hbw
        by_cases hlt : j < m
        · obtain ⟨b, off, dx, hA, hbb, _, hdx⟩ := (HD.out.below HBw.out).at_ HM.out hlt
          subst hA
          obtain ⟨_, ⟨u2, d2, hru⟩, _, _, _, _, hcl, _⟩ := hdx
          have hch := changeList_any u2 dx.c 6 (by omega) wr hru (by omega)
          obtain ⟨A2, c2, rfl⟩ := rb_shape hru
          have HCH := Lib.hid hch
          obtain ⟨cs, hcs⟩ : ∃ cs, cs = cOf dx.c := ⟨_, rfl⟩
          have hfew := cOf_few dx.c
          rw [← hcs] at hfew
          have HCS := Lib.hid (show cs = (rowsAt dx.c (nrows dx.c 6)).map chgOf from hcs)
          have HFEW := Lib.hid hfew
          rw [← HCS.out] at HCH
          have i6 : (j : Int) < (m : Int) := by omega
          clear hch hcs hfew hru
          go_wp2_with fail
          go_at_call 23
          refine HCH.out.mono ?_
          rintro e w5 ⟨cv, rfl, hoc, hb5⟩
          have hcm := own_commitS HSx.out hb5 HIx.out.good hoc (by have := HFEW.out.1; omega) (by have := HFEW.out.2.1; omega)
          obtain ⟨A5, c5, rfl, hc5⟩ := rc_shape hoc.rc
          obtain ⟨R, hR⟩ : ∃ R, R = commitR x cs := ⟨_, rfl⟩
          obtain ⟨s1, _, _, _, _, s6, s7⟩ := commit_step (cs := cs) HIx.out (fun _ => HFEW.out.2.2)
          rw [← hR] at hcm s1 s6 s7
          have HCM := Lib.hid hcm
          have HI5 := Lib.hid s1
          have HOK := Lib.hid s6
          have HNO := Lib.hid s7
          have HB5 := Lib.hid (HBw.out.trans (hb5.mono HBw.out.size))
          clear hcm hR s1 s6 s7 hb5 hoc
          go_wp2_with fail
          go_at_call 25
          refine HCM.out.mono ?_
          rintro e w6 ⟨rfl, hs6, hb6, hoc6⟩
          have HS6 := Lib.hid hs6
          have HOC6 := Lib.hid hoc6
          have HB6 := Lib.hid (HB5.out.trans hb6)
          clear hs6 hb6 hoc6
          by_cases h0 : R.2 = 0
          · have hz : (R.2 : Int) = 0 := by omega
            have HOK2 := Lib.hid (HOK.out h0)
            rw [hz]
            clear h0 hz
            obtain ⟨n, hn⟩ : ∃ n, n = cs.length := ⟨_, rfl⟩
            rw [← hn] at hc5 ⊢
            have hn6 : n ≤ 6 := by rw [hn]; exact HFEW.out.1
            have HN := Lib.hid hn
            clear hn
            go_wp2_with fail
            go_loopw [13] (fun i wq => ∃ q : Int, i = .int .i64 q ∧ (q = (n : Int) - 1 ∨ (q = (n : Int) - 2 ∧ 0 < n)) ∧ Below w6.heap.size w6 wq) (fun i _ => (intOf i - ((n : Int) - 2)).toNat)
            case atStart => exact ⟨_, rfl, .inl rfl, Below.refl _ _⟩
            case round =>
              obtain ⟨q, rfl, hq, hbq⟩ := hrel
              have HBq := Lib.hid hbq
              clear hbq
              by_cases hp : q = (n : Int) - 1 ∧ 0 < n
              · obtain ⟨p, hpn⟩ : ∃ p, n = p + 1 := ⟨n - 1, by omega⟩
                have hqp : q = (p : Int) := by omega
                subst hqp
                have hpc : p < cs.length := by have := HN.out; omega
                have hq1 : (n : Int) ≤ (p : Int) + 1 := by omega
                have hq2 : (p : Int) < (n : Int) := by omega
                have HPN := Lib.hid hpn
                obtain ⟨b1, o1, u1, hA5, e0, e1, e2, e3⟩ := rc_at (HOC6.out.below HBq.out).rc hpc
                obtain ⟨b9, o9, u9, hA9, _, hb9⟩ : ∃ b9 o9 u9, A5 = some ⟨b9, o9, none⟩ ∧ u9 = u1 ∧ True := ⟨b1, o1, u1, hA5, rfl, trivial⟩
                have hlast : cs = cs.take p ++ [cs[p]] := by
                  have h1 := List.take_append_drop p cs
                  rw [List.drop_eq_getElem_cons hpc, List.drop_eq_nil_of_le (by have := HN.out; omega)] at h1
                  exact h1.symm
                have hlk : lk R.1.rows cs[p].1.toList = effL cs[p] := by
                  rw [HOK2.out.2]
                  conv => lhs; arg 1; rw [hlast]
                  rw [applyL_snoc, lk_step, if_pos rfl]
                have hget := own_getS (HS6.out.below HBq.out) HI5.out.good cs[p].1
                rw [hlk] at hget
                have hcx : ∀ X, Below wr.heap.size wr X → ∃ u, X.cell? ⟨b1, o1 + p * 3 + 1, none⟩ = some u ∧ RB X u cs[p].2.1 ∧ X.cell? ⟨b1, o1 + p * 3 + 2, none⟩ = some (.bool cs[p].2.2) := by
                  intro X hX
                  obtain ⟨b2, o2, u2, hA6, f0, f1, f2, f3⟩ := rc_at (HOC6.out.below (HBq.out.trans (hX.mono HBq.out.size))).rc hpc
                  rw [hA5] at hA6
                  injection hA6 with hA6
                  injection hA6 with q1 q2
                  subst q1
                  subst q2
                  exact ⟨u2, f1, f2, f3⟩
                subst hA5
                clear hb9 hA9 hlast hlk
                generalize cs[p] = z at *
                obtain ⟨zk, zv, zg⟩ := z
                have HGET := Lib.hid hget
                have HCX := Lib.hid hcx
                clear hget hcx e1 e2 e3 hp hq hpn
                go_wp2_with fail
                go_at_call 35
                refine HGET.out.mono ?_
                rintro e w8 ⟨gv, rfl, hgf, hb8⟩
                obtain ⟨u2, f1, f2, f3⟩ := HCX.out w8 hb8
                have hg1 := fun j => str22 (hgf.rb.keep (w' := w8.drewN j) (Nat.le_refl _) (fun _ _ _ => rfl))
                have hg2 := fun j => str22 (f2.keep (w' := w8.drewN j) (Nat.le_refl _) (fun _ _ _ => rfl))
                obtain ⟨A8, c8, rfl⟩ := hgf.shape
                obtain ⟨A9, c9, rfl⟩ := rb_shape f2
                have HB8 := Lib.hid (HBq.out.trans (hb8.mono HBq.out.size))
                clear hgf f2 hb8
                cases zg with
                | true =>
                  simp only [effL, if_true, Option.isSome_none, Option.getD_none] at hg1 ⊢
                  go_wp2
                  go_quiet (fail)
                  go_wp2
                  go_roundw
                  case rel => exact ⟨(p : Int) - 1, rfl, .inr ⟨by have := HPN.out; omega, by omega⟩, HB8.out.trans ((bel_drewN _ _).mono HB8.out.size)⟩
                  case measure => simp [intOf]; omega
                | false =>
                  simp only [effL, Bool.false_eq_true, if_false, Option.isSome_some, Option.getD_some] at hg1 ⊢
                  go_wp2
                  go_quiet (fail)
                  go_wp2
                  go_roundw
                  case rel => exact ⟨(p : Int) - 1, rfl, .inr ⟨by have := HPN.out; omega, by omega⟩, HB8.out.trans ((bel_drewN _ _).mono HB8.out.size)⟩
                  case measure => simp [intOf]; omega
              · by_cases hq0 : 0 ≤ q
                · have hq3 : ¬ (n : Int) - 1 ≤ q := by omega
                  have hq4 : q < (n : Int) - 1 := by omega
                  clear hp hq
                  go_wp2
                  go_roundw
                  case rel => exact ⟨j + 1, R.1, by omega, by go_num, HI5.out, HS6.out.below HBq.out, HB6.out.trans (HBq.out.mono HB6.out.size)⟩
                  case measure => simp [intOf]; omega
                · have hq3 : q < 0 := by omega
                  clear hp hq
                  go_wp2
                  go_roundw
                  case rel => exact ⟨j + 1, R.1, by omega, by go_num, HI5.out, HS6.out.below HBq.out, HB6.out.trans (HBq.out.mono HB6.out.size)⟩
                  case measure => simp [intOf]; omega
          · have hz : ¬ (R.2 : Int) = 0 := by omega
            clear h0
            go_wp2_with fail
            go_at_call 10
            refine (HKN.out _).mono ?_
            rintro e w7 ⟨rfl, hb7⟩
            have HB7 := Lib.hid (HB6.out.trans (hb7.mono HB6.out.size))
            clear hb7
            go_wp2
            go_ret
            exact ⟨rfl, HB7.out⟩
        · obtain rfl : j = m := by omega
          have hm2 : ¬ (j : Int) < (j : Int) := by omega
          go_wp2_with fail
          go_at_call 25
          obtain ⟨W, hW⟩ : ∃ W, W = (wr.alloc (Obj.cells #[Value.int IntKind.u8 (k : Int)] 5)).alloc (Obj.cells #[Value.string key, Value.slice (some ⟨wr.heap.size, 0, none⟩) 1 1, Value.bool false] 76) := ⟨_, rfl⟩
          obtain ⟨cs, hcs⟩ : ∃ cs : List Chg, cs = [(key, [UInt8.ofNat k], false)] := ⟨_, rfl⟩
          have hoc : OC 5 76 W wr.heap.size (.slice (some ⟨wr.heap.size + 1, 0, none⟩) 1 1) cs := by
            have h := oc_lit1 (w := wr.alloc (Obj.cells #[Value.int IntKind.u8 (k : Int)] 5)) (k := key) (g := false) (fb_lit1 (w := wr) (Nat.le_refl _) hk) (by simp)
            rw [World.size_alloc] at h
            rw [hW, hcs]
            exact h
          have hbW : Below wr.heap.size wr W := by
            rw [hW]
            exact ((Below.refl _ _).alloc (Nat.le_refl _) _).alloc (by simp) _
          rw [← hW]
          obtain ⟨R, hR⟩ : ∃ R, R = commitR x cs := ⟨_, rfl⟩
          have h3 := commit_three (x := x) (cs := cs) (by rw [hcs]; simp)
          have hlg : cs.any longC = decide (30 < key.size) := by rw [hcs]; exact long_one _ _
          obtain ⟨s1, _, _, _, _, s6, s7⟩ := commit_step (cs := cs) HIx.out (fun hl => by
            rw [hcs]
            refine readChgs_back _ (by simp) (fun c hc => ?_)
            simp only [List.mem_singleton] at hc
            subst hc
            rw [hlg] at hl
            have := of_decide_eq_false hl
            exact ⟨by show key.data.toList.length ≤ 30; rw [size_list]; omega, by simp, fun h => by cases h⟩)
          have hcm := own_commitS HSx.out hbW HIx.out.good hoc (by rw [hcs]; simp) (by rw [hcs, sizesC_one]; show key.size + 1 ≤ 90000; have := HKL.out; omega)
          rw [← hR] at h3 s1 s6 s7 hcm
          have hlk : R.2 = 0 → lk R.1.rows key.toList = some [UInt8.ofNat k] := by
            intro h0
            rw [(s6 h0).2, hcs]
            show lk (stepL x.rows (key, [UInt8.ofNat k], false)) key.toList = _
            rw [lk_step, if_pos rfl]
            rfl
          have HLK := Lib.hid hlk
          have H3 := Lib.hid (show R.2 = 3 ↔ 30 < key.size by rw [h3, hlg]; exact decide_eq_true_iff)
          have HI9 := Lib.hid s1
          have HCM := Lib.hid hcm
          have HBW := Lib.hid (HBw.out.trans (hbW.mono HBw.out.size))
          clear hW hcs hoc hbW hR h3 hlg s1 s6 s7 hcm hlk
          refine HCM.out.mono ?_
          rintro e w5 ⟨rfl, hs5, hb5, _⟩
          have HB5 := Lib.hid (HBW.out.trans hb5)
          have HG := Lib.hid (own_getS hs5 HI9.out.good key)
          clear hs5 hb5
          go_wp2_with fail
          go_at_call 35
          refine HG.out.mono ?_
          rintro e w6 ⟨gv, rfl, hgf, hb6⟩
          have HB6 := Lib.hid (HB5.out.trans (hb6.mono HB5.out.size))
          by_cases h30 : 30 < key.size
          · have hR3 := H3.out.2 h30
            have hk30 : (30 : Int) < (key.size : Int) := by omega
            have hd30 : decide ((30 : Int) < (key.size : Int)) = true := decide_eq_true hk30
            obtain ⟨A6, c6, rfl⟩ := hgf.shape
            have hR3' : (R.2 : Int) = 3 := by omega
            rw [hR3']
            clear hgf hb6 hR3 hR3' h30
            go_wp2_with (go_at_call 10; refine (HKN.out _).mono ?_; rintro e w7 ⟨rfl, hb7⟩)
            go_wp2
            go_ret
            exact ⟨rfl, HB6.out.trans (hb7.mono HB6.out.size)⟩
          · have hR3 : ¬ R.2 = 3 := fun h => h30 (H3.out.1 h)
            have hk30 : ¬ (30 : Int) < (key.size : Int) := by omega
            have hd30 : decide ((30 : Int) < (key.size : Int)) = false := decide_eq_false hk30
            have hb3 : ((R.2 : Int) == 3) = false := by rw [beq_eq_false_iff_ne]; omega
            have hR3' : ¬ (R.2 : Int) = 3 := by omega
            by_cases h0 : R.2 = 0
            · rw [HLK.out h0] at hgf ⊢
              simp only [Option.isSome_some, Option.getD_some] at hgf ⊢
              obtain ⟨A6, c6, rfl⟩ := hgf.shape
              have h0' : (R.2 : Int) = 0 := by omega
              rw [h0']
              clear hgf hb6 hR3 hR3' h30 h0 h0'
              go_wp2_with (go_at_call 10; refine (HKN.out _).mono ?_; rintro e w7 ⟨rfl, hb7⟩)
              go_wp2
              go_ret
              exact ⟨rfl, HB6.out.trans (hb7.mono HB6.out.size)⟩
            · have h0' : ¬ (R.2 : Int) = 0 := by omega
              have hb0 : ((R.2 : Int) == 0) = false := by rw [beq_eq_false_iff_ne]; omega
              obtain ⟨A6, c6, rfl⟩ := hgf.shape
              clear hgf hb6 hR3 h30 h0
              go_wp2_with (go_at_call 10; refine (HKN.out _).mono ?_; rintro e w7 ⟨rfl, hb7⟩)
              go_wp2
              go_ret
              exact ⟨rfl, HB6.out.trans (hb7.mono HB6.out.size)⟩
end Go.Proofs.YtmbkaedhllfoeaaGreat
