/-
 One round of the program's loop over groups of rows.; The contract of the program's Build of a tree.; Plain mathematics of trees: what was built is read, and found. No program.; Plain mathematics of trees: their pages, and that what is built is read. No program.; The contract of the program's Rows of a tree.; Plain mathematics of trees: how many pages few rows of short keys are laid on. No program.
-/
import Derived.OrdersHeld
import Derived.Test.YtmbkaedhllfoeaaKVA
import Derived.Test.YtmbkaedhllfoeaaKVB
import Derived.Test.YtmbkaedhllfoeaaKVBB
import Derived.Test.YtmbkaedhllfoeaaKVCH
import Derived.Test.YtmbkaedhllfoeaaKVCI
import Derived.Test.YtmbkaedhllfoeaaKVDA
import Derived.Test.YtmbkaedhllfoeaaKVDB
set_option linter.unusedVariables false
namespace Go.Proofs.Ytmbkaedhllfoeaa
open Go.RowKit Go.Rst Go.Pg Go.Crc Go.Shelf
attribute [local go_sem] Oper.semAt_some
def lvBody : Code := (Code.block 3 ((Code.region 10 #[{ dst := some 25, op := Op.load 3 (Operand.tmp 5), type := 3, pos := "tree.go:22", after := #[], guard := none }, { dst := some 26, op := Op.move (Operand.tmp 7), type := 40, pos := "tree.go:22", after := #[], guard := none }, { dst := some 27, op := Op.call { callee := Callee.value (Operand.func 66), args := #[Operand.tmp 25, Operand.tmp 26], argTypes := #[3, 40] }, type := 122, pos := "tree.go:22", after := #[{ on := 0, ground := Ground.data }, { on := 1, ground := Ground.data }], guard := none }, { dst := some 24, op := Op.move (Operand.tmp 27), type := 122, pos := "tree.go:22", after := #[{ on := 2, ground := Ground.data }], guard := none }, { dst := some 28, op := Op.extract (Operand.tmp 24) 0, type := 22, pos := "tree.go:22", after := #[{ on := 3, ground := Ground.data }], guard := none }, { dst := some 29, op := Op.extract (Operand.tmp 24) 1, type := 4, pos := "tree.go:22", after := #[{ on := 3, ground := Ground.data }, { on := 6, ground := Ground.gcOnly Departure.lateStores }], guard := none }, { dst := some 8, op := Op.assign (Operand.tmp 28), type := 22, pos := "tree.go:22", after := #[{ on := 4, ground := Ground.data }, { on := 2, ground := Ground.chain }, { on := 0, ground := Ground.phase }, { on := 1, ground := Ground.phase }, { on := 2, ground := Ground.phase }, { on := 3, ground := Ground.phase }, { on := 4, ground := Ground.phase }, { on := 5, ground := Ground.textOnly Departure.lateStores }], guard := none }, { dst := some 9, op := Op.assign (Operand.tmp 29), type := 4, pos := "tree.go:22", after := #[{ on := 5, ground := Ground.data }, { on := 6, ground := Ground.chain }, { on := 0, ground := Ground.phase }, { on := 1, ground := Ground.phase }, { on := 2, ground := Ground.phase }, { on := 3, ground := Ground.phase }, { on := 4, ground := Ground.phase }, { on := 5, ground := Ground.phase }, { on := 6, ground := Ground.phase }], guard := none }] false).seq (((Code.region 11 #[{ dst := some 30, op := Op.move (Operand.tmp 9), type := 4, pos := "tree.go:23", after := #[], guard := none }, { dst := some 31, op := Op.unOp UnOp.not 4 (Operand.tmp 30), type := 4, pos := "tree.go:23", after := #[{ on := 0, ground := Ground.data }], guard := none }] false).seq (Code.cond (Operand.tmp 31) (Code.exit 0) Code.skip)).seq (((Code.region 12 #[{ dst := some 32, op := Op.move (Operand.tmp 7), type := 40, pos := "tree.go:26", after := #[], guard := none }, { dst := some 33, op := Op.call { callee := Callee.builtin Builtin.len, args := #[Operand.tmp 32], argTypes := #[40] }, type := 3, pos := "tree.go:26", after := #[{ on := 0, ground := Ground.data }], guard := none }, { dst := some 34, op := Op.binOp BinOp.gtr 3 (Operand.tmp 33) (Operand.const (Value.int IntKind.i64 0)) 3, type := 4, pos := "tree.go:26", after := #[{ on := 1, ground := Ground.data }], guard := none }] false).seq (Code.cond (Operand.tmp 34) (Code.region 13 #[{ dst := some 35, op := Op.load 40 (Operand.tmp 6), type := 40, pos := "tree.go:27", after := #[], guard := none }, { dst := some 36, op := Op.move (Operand.tmp 7), type := 40, pos := "tree.go:27", after := #[], guard := none }, { dst := some 37, op := Op.indexAddr 40 (Operand.tmp 36) (Operand.const (Value.int IntKind.i64 0)), type := 0, pos := "tree.go:27", after := #[{ on := 1, ground := Ground.data }], guard := none }, { dst := some 38, op := Op.fieldAddr 47 (Operand.tmp 37) 0, type := 0, pos := "tree.go:27", after := #[{ on := 2, ground := Ground.data }], guard := none }, { dst := some 39, op := Op.load 9 (Operand.tmp 38), type := 9, pos := "tree.go:27", after := #[{ on := 3, ground := Ground.data }], guard := none }, { dst := some 40, op := Op.load 35 (Operand.tmp 4), type := 35, pos := "tree.go:27", after := #[], guard := none }, { dst := some 41, op := Op.call { callee := Callee.builtin Builtin.len, args := #[Operand.tmp 40], argTypes := #[35] }, type := 3, pos := "tree.go:27", after := #[{ on := 5, ground := Ground.data }], guard := none }, { dst := some 42, op := Op.call { callee := Callee.value (Operand.func 67), args := #[Operand.tmp 41], argTypes := #[3] }, type := 22, pos := "tree.go:27", after := #[{ on := 6, ground := Ground.data }], guard := none }, { dst := some 43, op := Op.build 47 #[(0, Operand.tmp 39), (1, Operand.tmp 42)], type := 47, pos := "tree.go:27", after := #[{ on := 4, ground := Ground.data }, { on := 7, ground := Ground.data }], guard := none }, { dst := some 44, op := Op.buildSlice 40 1 #[(0, Operand.tmp 43)], type := 40, pos := "tree.go:27", after := #[{ on := 8, ground := Ground.data }], guard := none }, { dst := some 45, op := Op.call { callee := Callee.builtin Builtin.append, args := #[Operand.tmp 35, Operand.tmp 44], argTypes := #[40, 40] }, type := 40, pos := "tree.go:27", after := #[{ on := 0, ground := Ground.data }, { on := 9, ground := Ground.data }, { on := 7, ground := Ground.chain }], guard := none }, { dst := none, op := Op.store 40 (Operand.tmp 6) (Operand.tmp 45), type := 0, pos := "tree.go:27", after := #[{ on := 10, ground := Ground.data }, { on := 10, ground := Ground.chain }, { on := 0, ground := Ground.phase }, { on := 1, ground := Ground.phase }, { on := 2, ground := Ground.phase }, { on := 3, ground := Ground.phase }, { on := 4, ground := Ground.phase }, { on := 5, ground := Ground.phase }, { on := 6, ground := Ground.phase }, { on := 7, ground := Ground.phase }, { on := 8, ground := Ground.phase }, { on := 9, ground := Ground.phase }, { on := 10, ground := Ground.phase }], guard := none }] true) Code.skip)).seq (Code.region 14 #[{ dst := some 46, op := Op.load 35 (Operand.tmp 4), type := 35, pos := "tree.go:29", after := #[], guard := none }, { dst := some 47, op := Op.move (Operand.tmp 8), type := 22, pos := "tree.go:29", after := #[], guard := none }, { dst := some 48, op := Op.buildSlice 35 1 #[(0, Operand.tmp 47)], type := 35, pos := "tree.go:29", after := #[{ on := 1, ground := Ground.data }], guard := none }, { dst := some 49, op := Op.call { callee := Callee.builtin Builtin.append, args := #[Operand.tmp 46, Operand.tmp 48], argTypes := #[35, 35] }, type := 35, pos := "tree.go:29", after := #[{ on := 0, ground := Ground.data }, { on := 2, ground := Ground.data }], guard := none }, { dst := none, op := Op.store 35 (Operand.tmp 4) (Operand.tmp 49), type := 0, pos := "tree.go:29", after := #[{ on := 3, ground := Ground.data }, { on := 3, ground := Ground.chain }, { on := 0, ground := Ground.phase }, { on := 1, ground := Ground.phase }, { on := 2, ground := Ground.phase }, { on := 3, ground := Ground.phase }], guard := none }] false)))))
set_option maxRecDepth 100000 in
set_option maxHeartbeats 4000000 in
theorem round_body {l n : Nat} {w0 : World} {B Bl Ba k base : Nat} {lv : Value} {rest : List Rw} {all0 : List (List UInt8)} {cs : List (List Rw)} {Ax : Option Addr} {cx : Nat} {xr : List Rw} {pv av : Value} {W : World} {u0 u1 u2 u3 u8 u9 u10 u11 u12 u13 u14 u15 u16 u17 u18 u19 u20 u21 u22 u23 u24 u25 u26 u27 u28 u29 u30 u31 u32 u33 u34 u35 u36 u37 u38 u39 u40 u41 u42 u43 u44 u45 u46 u47 u48 u49 u50 u51 u52 u53 u54 u55 : Value}
  (_hk : k ≤ 4) (hst : St w0 B Bl Ba k base lv rest (all0 ++ pagesF k cs) (abovP all0.length cs) pv av W) (hx : ∀ X, RR X lv rest → RR X (.slice Ax xr.length cx) xr) (hlen : all0.length + cs.length ≤ 1000000)
  {Q : Exit → Act → World → Prop} (hQo : ∀ a w, ¬ Q .outgrown a w) (hQp : ∀ c a w, ¬ Q (.panic c) a w)
  (hgo : pageOk k xr = true → ∀ W' pv' av' a, St w0 B Bl Ba k base lv rest (all0 ++ pagesF k (cs ++ [xr])) (abovP all0.length (cs ++ [xr])) pv' av' W' → KeepsOthers W W' → Below w0.heap.size W W' → Q .normal a W')
  (hstop : pageOk k xr = false → ∀ W' a, St w0 B Bl Ba k base lv rest (all0 ++ pagesF k cs) (abovP all0.length cs) pv av W' → KeepsOthers W W' → Below w0.heap.size W W' → Q (.exit 0) a W') :
  lvBody.wpIn (Fence.wide.inRound l) n Try.prog Q { tmps := #[u0, u1, u2, u3, .pointer (some ⟨B, 0, none⟩), .pointer (some ⟨Bl, 0, none⟩), .pointer (some ⟨Ba, 0, none⟩), .slice Ax xr.length cx, u8, u9, u10, u11, u12, u13, u14, u15, u16, u17, u18, u19, u20, u21, u22, u23, u24, u25, u26, u27, u28, u29, u30, u31, u32, u33, u34, u35, u36, u37, u38, u39, u40, u41, u42, u43, u44, u45, u46, u47, u48, u49, u50, u51, u52, u53, u54, u55], defers := [] } W := by
 have HST := Lib.hid hst
 have HX := Lib.hid hx
 have HGO := Lib.hid hgo
 have HSTOP := Lib.hid hstop
 have henc := enc_any (k : Int) _ xr W (hx W hst.rr)
 have hcl := hst.bl.cell
 clear hst hx hgo hstop
 unfold GivesEnc at henc
 unfold lvBody
 cases hok : pageOk (k : Int) xr with
 | false =>
  rw [hok] at henc
  have HENC := Lib.hid henc
  have HOK := Lib.hid hok
  clear henc hok
  gi_wp2_with (first | (gi_at_call 66; refine (CallsIn.inRound l (callsIn_wide.2 HENC.out)).mono ?_; rintro e w1 ⟨v1, rfl, ho1, hb1⟩; obtain ⟨A1, c1, rfl, _⟩ := own_shape ho1; have HB1 := Lib.hid hb1; clear ho1 hb1) | (refine ⟨fun h => (by simp [Fence.wide] at h), ?_⟩) | (refine ⟨(show Fence.wide.fn _ from trivial), ?_⟩))
  exact HSTOP.out HOK.out _ _ (HST.out.below HB1.out) (KeepsOthers.of_grownBy (grown_none HB1.out) (fun _ _ h => by cases h)) (HB1.out.mono HST.out.be.size)
 | true =>
  rw [hok] at henc
  have hpl := encL_length hok
  rw [hpl] at henc
  obtain ⟨pg, hpg⟩ : ∃ pg, pg = encL (k : Int) xr := ⟨_, rfl⟩
  have hnew := pages_snoc (k : Int) cs xr
  have hnewa := abovP_snoc all0.length cs xr
  rw [← hpg] at henc hnew hpl
  have HENC := Lib.hid henc
  have HOK := Lib.hid hok
  have HPL := Lib.hid hpl
  have HNEW := Lib.hid hnew
  have HNEWA := Lib.hid hnewa
  clear henc hok hpl hnew hnewa hpg
  obtain ⟨Ap, cp, hpv, hp63, hpc⟩ := HST.out.op.shape
  rw [List.length_append, pages_len] at hpv hpc
  obtain ⟨n0, hn0⟩ : ∃ n0, n0 = all0.length + cs.length := ⟨_, rfl⟩
  rw [← hn0] at hpv hpc hlen HNEWA
  subst hpv
  have HN0 := Lib.hid hn0
  clear hn0
  obtain ⟨i23, hi, hz0, hz1, hz2⟩ := info_parts info22
  by_cases hx0 : xr = []
  ·subst hx0
   rw [if_pos rfl, List.append_nil] at HNEWA
   have HENC0 := Lib.hid (show Calls Try.prog 66 #[.int .i64 (k : Int), .slice Ax 0 cx] W _ from HENC.out)
   rw [List.length_nil]
   gi_wp2_with (first | (gi_at_call 66; refine (CallsIn.inRound l (callsIn_wide.2 HENC0.out)).mono ?_; rintro e w1 ⟨v1, rfl, ho1, hb1⟩; have HFB1 := Lib.hid (FB.own (show w1.ownsRow W.heap.size 5 1 v1 pg.length (bvs pg) by rw [HPL.out]; exact ho1)); obtain ⟨A1, c1, rfl, _⟩ := own_shape ho1; have HB1 := Lib.hid hb1; have HST1 := Lib.hid (HST.out.below hb1); obtain ⟨up, hup, hpo, hpf⟩ := HST1.out.op; have HUL := Lib.hid (show up.length = n0 by have h := congrArg List.length hup; rw [List.length_map, List.length_append, pages_len] at h; rw [HN0.out]; exact h); have HUP := Lib.hid hup; have HPO := Lib.hid hpo; have HPF := Lib.hid hpf; have hP := HST1.out.bp.cell; clear hup hpo hpf; clear ho1 hb1) | (gi_at_builtin; refine wpListIn_append_own _ rfl _ _ 35 rfl w0.heap.size 22 i23 (.slice none 0 0) 1 24 Try.underlying35 hi hz0 hz1 hz2 rfl (by decide) _ _ _ rfl (HPO.out.alloc _) ⟨(w1).heap.size, 0, none⟩ 1 1 [.slice A1 256 c1] rfl rfl (cell_one_new _ _ _) (by simp [Value.oneCell']) (by have := HUL.out; unfold maxLen; omega) (by have := HUL.out; omega) (by have := HST1.out.be.size; simp; omega) ?_; intro v8 w8 ho8 hg8 _; obtain ⟨hbx8, hst8, hko8, hbe8⟩ := HST1.out.pushP HUP.out HPO.out HPF.out ((HFB1.out).base_ (base' := w0.heap.size) HST.out.be.size) ho8 hg8; obtain ⟨g8, c8, rfl⟩ := ownsRow_succ ho8; have hc8 := hbx8.cell; have hf8 := hbx8.frozen; have HST8 := Lib.hid hst8; have HKO8 := Lib.hid hko8; have HBE8 := Lib.hid hbe8; clear hst8 hko8 hbe8 ho8 hg8 hbx8) | (refine ⟨fun h => (by simp [Fence.wide] at h), ?_⟩) | (refine ⟨(show Fence.wide.fn _ from trivial), ?_⟩))
   exact HGO.out HOK.out _ _ _ _ (by rw [HNEW.out, HNEWA.out, ← List.append_assoc]; exact HST8.out) ((KeepsOthers.of_grownBy (grown_none HB1.out) (fun _ _ h => by cases h)).trans HKO8.out) ((HB1.out.mono HST.out.be.size).trans HBE8.out)
  ·rw [if_neg hx0] at HNEWA
   have hxl : 0 < xr.length := List.length_pos_iff.2 hx0
   obtain ⟨b, off, u, rfl, _, _, _⟩ := rr_at (HX.out W HST.out.rr) hxl
   obtain ⟨ky, hky⟩ : ∃ ky, ky = (xr[0]'hxl).1 := ⟨_, rfl⟩
   have HKEY := Lib.hid (show headKey xr = ky by
    rw [hky]
    cases xr with
    | nil => simp at hxl
    | cons r t => rfl)
   have HXK := Lib.hid (show ∀ X, RR X lv rest → X.cell? ⟨b, off, none⟩ = some (.string ky) by
    intro X hX
    obtain ⟨b', off', u', he, h1, _, _⟩ := rr_at (HX.out X hX) hxl
    injection he with he
    injection he with e1 e2 _
    subst e1
    subst e2
    rw [hky]
    simpa using h1)
   obtain ⟨m0, hm0⟩ : ∃ m0, (abovP all0.length cs).length = m0 := ⟨_, rfl⟩
   have hm1 : m0 ≤ cs.length := by rw [← hm0]; exact abovP_len _ _
   have hm2 : cs.length ≤ 1000000 := by have := HN0.out; omega
   have HAB := Lib.hid hm0
   have HCLIP := Lib.hid (show clip (n0 : Int) = n0 by unfold clip; omega)
   clear hky hm0
   gi_wp2_with (first | (gi_at_call 66; refine (CallsIn.inRound l (callsIn_wide.2 HENC.out)).mono ?_; rintro e w1 ⟨v1, rfl, ho1, hb1⟩; have HFB1 := Lib.hid (FB.own (show w1.ownsRow W.heap.size 5 1 v1 pg.length (bvs pg) by rw [HPL.out]; exact ho1)); obtain ⟨A1, c1, rfl, _⟩ := own_shape ho1; have HB1 := Lib.hid hb1; have HST1 := Lib.hid (HST.out.below hb1); clear ho1 hb1) | (refine ⟨fun h => (by simp [Fence.wide] at h), ?_⟩) | (refine ⟨(show Fence.wide.fn _ from trivial), ?_⟩))
   have HSTD := Lib.hid (HST1.out.below (Below.refl _ _).drew)
   have HFBD := Lib.hid (HFB1.out.below (Below.refl _ _).drew)
   have HSR := Lib.hid (show SR lv rest B (.slice Ap n0 cp) w1.drew from ⟨HSTD.out.rr, HSTD.out.bp⟩)
   have HKO1 := Lib.hid ((KeepsOthers.of_grownBy (grown_none HB1.out) (fun _ _ h => by cases h)).trans (KeepsOthers.drew _))
   have HBE1 := Lib.hid ((HB1.out.trans ((Below.refl _ _).drew)).mono HST.out.be.size)
   have hA := HSTD.out.ba.cell
   refine wpIn_region_round (S := SR lv rest B (.slice Ap n0 cp)) (by kernel_rfl) (by kernel_rfl) (fun a w h => (by simp [Exit.then, Exit.inBlock] at h; exact hQo _ _ h)) HSR.out (fun hHeld => ?_)
   generalize w1.drew = wd at *
   refine wpAnyH_take (i := 1) (oi := { dst := some 36, op := Op.move (Operand.tmp 7), type := 40, pos := "tree.go:27", after := #[], guard := none }) (v := ?_) rfl (by kernel_rfl) (by kernel_rfl) (by kernel_rfl) (fun _ _ _ h => (hQp _ _ _ (by simpa [Exit.then, Exit.inBlock] using h)).elim) (Or.inl ⟨by rfl, ?_⟩) (by assumption) ?_
   rotate_left
   ·intro X hSw; go_simp; try (with_reducible rfl)
   try simp only [Act.put, List.setIfInBounds_toArray, List.set_cons_zero, List.set_cons_succ]
   refine wpAnyH_take (i := 2) (oi := { dst := some 37, op := Op.indexAddr 40 (Operand.tmp 36) (Operand.const (Value.int IntKind.i64 0)), type := 0, pos := "tree.go:27", after := #[{ on := 1, ground := Ground.data }], guard := none }) (v := ?_) rfl (by kernel_rfl) (by kernel_rfl) (by kernel_rfl) (fun _ _ _ h => (hQp _ _ _ (by simpa [Exit.then, Exit.inBlock] using h)).elim) (Or.inl ⟨by rfl, ?_⟩) (by assumption) ?_
   rotate_left
   ·intro X hSw; go_simp; try (with_reducible rfl)
   try simp only [Act.put, List.setIfInBounds_toArray, List.set_cons_zero, List.set_cons_succ]
   refine wpAnyH_take (i := 3) (oi := { dst := some 38, op := Op.fieldAddr 47 (Operand.tmp 37) 0, type := 0, pos := "tree.go:27", after := #[{ on := 2, ground := Ground.data }], guard := none }) (v := ?_) rfl (by kernel_rfl) (by kernel_rfl) (by kernel_rfl) (fun _ _ _ h => (hQp _ _ _ (by simpa [Exit.then, Exit.inBlock] using h)).elim) (Or.inl ⟨by rfl, ?_⟩) (by assumption) ?_
   rotate_left
   ·intro X hSw; go_simp; try (with_reducible rfl)
   try simp only [Act.put, List.setIfInBounds_toArray, List.set_cons_zero, List.set_cons_succ]
   refine wpAnyH_take (i := 4) (oi := { dst := some 39, op := Op.load 9 (Operand.tmp 38), type := 9, pos := "tree.go:27", after := #[{ on := 3, ground := Ground.data }], guard := none }) (v := ?_) rfl (by kernel_rfl) (by kernel_rfl) (by kernel_rfl) (fun _ _ _ h => (hQp _ _ _ (by simpa [Exit.then, Exit.inBlock] using h)).elim) (Or.inl ⟨by rfl, ?_⟩) (by assumption) ?_
   rotate_left
   ·intro X hSw; have hq := HXK.out X hSw.1; go_simp; try (with_reducible rfl)
   try simp only [Act.put, List.setIfInBounds_toArray, List.set_cons_zero, List.set_cons_succ]
   refine wpAnyH_take (i := 5) (oi := { dst := some 40, op := Op.load 35 (Operand.tmp 4), type := 35, pos := "tree.go:27", after := #[], guard := none }) (v := ?_) rfl (by kernel_rfl) (by kernel_rfl) (by kernel_rfl) (fun _ _ _ h => (hQp _ _ _ (by simpa [Exit.then, Exit.inBlock] using h)).elim) (Or.inl ⟨by rfl, ?_⟩) (by assumption) ?_
   rotate_left
   ·intro X hSw; have hq := hSw.2.cell; go_simp; try (with_reducible rfl)
   try simp only [Act.put, List.setIfInBounds_toArray, List.set_cons_zero, List.set_cons_succ]
   refine wpAnyH_take (i := 6) (oi := { dst := some 41, op := Op.call { callee := Callee.builtin Builtin.len, args := #[Operand.tmp 40], argTypes := #[35] }, type := 3, pos := "tree.go:27", after := #[{ on := 5, ground := Ground.data }], guard := none }) (v := ?_) rfl (by kernel_rfl) (by kernel_rfl) (by kernel_rfl) (fun _ _ _ h => (hQp _ _ _ (by simpa [Exit.then, Exit.inBlock] using h)).elim) (Or.inl ⟨by rfl, ?_⟩) (by assumption) ?_
   rotate_left
   ·intro X hSw; go_simp; try (with_reducible rfl)
   try simp only [Act.put, List.setIfInBounds_toArray, List.set_cons_zero, List.set_cons_succ]
   refine wpAnyH_ready (rs := [0, 7]) (by kernel_rfl) (by simp) ?_
   refine AllReadyH.cons (o := { dst := some 35, op := Op.load 40 (Operand.tmp 6), type := 40, pos := "tree.go:27", after := #[], guard := none }) rfl (fun K hK => ?_) (AllReadyH.cons (o := { dst := some 42, op := Op.call { callee := Callee.value (Operand.func 67), args := #[Operand.tmp 41], argTypes := #[3] }, type := 22, pos := "tree.go:27", after := #[{ on := 6, ground := Ground.data }], guard := none }) rfl (fun K hK => ?_) AllReadyH.nil)
   ·go_simp
    refine hK.out _ _ ?_ (fun _ => ?_)
    ·assumption
    clear hK K
    try simp only [Act.put, List.setIfInBounds_toArray, List.set_cons_zero, List.set_cons_succ]
    refine wpAnyH_ready (rs := [7]) (by kernel_rfl) (by simp) ?_
    refine AllReadyH.cons (o := { dst := some 42, op := Op.call { callee := Callee.value (Operand.func 67), args := #[Operand.tmp 41], argTypes := #[3] }, type := 22, pos := "tree.go:27", after := #[{ on := 6, ground := Ground.data }], guard := none }) rfl (fun K hK => ?_) AllReadyH.nil
    go_simp
    refine (num_any _ _).mono ?_
    rintro e w4 ⟨v4, rfl, ho4, hb4⟩
    rw [HCLIP.out] at ho4
    have HFB4 := Lib.hid (FB.own ho4)
    obtain ⟨A4, c4, rfl, _⟩ := own_shape ho4
    have hHeld4 : SR lv rest B (.slice Ap n0 cp) w4 := hHeld.below hb4
    have HST4 := Lib.hid (HSTD.out.below hb4)
    have HFB14 := Lib.hid (HFBD.out.below hb4)
    have hA := HST4.out.ba.cell
    have HKO4 := Lib.hid (KeepsOthers.of_grownBy (grown_none hb4) (fun _ _ h => (by cases h)))
    have HBE4 := Lib.hid (hb4.mono HSTD.out.be.size)
    simp only []
    refine hK.out _ _ ?_ (fun _ => ?_)
    ·exact hHeld4
    clear hK K hHeld hb4 ho4
    try simp only [Act.put, List.setIfInBounds_toArray, List.set_cons_zero, List.set_cons_succ]
    refine wpAnyH_take (i := 8) (oi := { dst := some 43, op := Op.build 47 #[(0, Operand.tmp 39), (1, Operand.tmp 42)], type := 47, pos := "tree.go:27", after := #[{ on := 4, ground := Ground.data }, { on := 7, ground := Ground.data }], guard := none }) (v := ?_) rfl (by kernel_rfl) (by kernel_rfl) (by kernel_rfl) (fun _ _ _ h => (hQp _ _ _ (by simpa [Exit.then, Exit.inBlock] using h)).elim) (Or.inl ⟨by rfl, ?_⟩) (by assumption) ?_
    rotate_left
    ·intro X hSw; go_simp; try (with_reducible rfl)
    try simp only [Act.put, List.setIfInBounds_toArray, List.set_cons_zero, List.set_cons_succ]
    refine wpAnyH_ready (rs := [9]) (by kernel_rfl) (by simp) ?_
    refine AllReadyH.cons (o := { dst := some 44, op := Op.buildSlice 40 1 #[(0, Operand.tmp 43)], type := 40, pos := "tree.go:27", after := #[{ on := 8, ground := Ground.data }], guard := none }) rfl (fun K hK => ?_) AllReadyH.nil
    go_simp
    have hHeld9 := hHeld4.below ((Below.refl _ _).alloc (Nat.le_refl _) (Obj.cells #[.string ky, .slice A4 (numL n0).length c4] 47))
    have hA := (HST4.out.below ((Below.refl _ _).alloc (Nat.le_refl _) (Obj.cells #[.string ky, .slice A4 (numL n0).length c4] 47))).ba.cell
    refine hK.out _ _ ?_ (fun _ => ?_)
    ·exact hHeld9
    clear hK K
    try simp only [Act.put, List.setIfInBounds_toArray, List.set_cons_zero, List.set_cons_succ]
    refine wpAnyH_ready (rs := [10]) (by kernel_rfl) (by simp) ?_
    refine AllReadyH.cons (o := { dst := some 45, op := Op.call { callee := Callee.builtin Builtin.append, args := #[Operand.tmp 35, Operand.tmp 44], argTypes := #[40, 40] }, type := 40, pos := "tree.go:27", after := #[{ on := 0, ground := Ground.data }, { on := 9, ground := Ground.data }, { on := 7, ground := Ground.chain }], guard := none }) rfl (fun K hK => ?_) AllReadyH.nil
    obtain ⟨us, hus, ho, hf⟩ := HST4.out.oa
    have HULA := Lib.hid (show us.length = m0 by have h := congrArg List.length hus; rw [List.length_map] at h; exact h.trans HAB.out)
    have hoA := own_below ho ((Below.refl _ _).alloc (Nat.le_refl _) (Obj.cells #[.string ky, .slice A4 (numL n0).length c4] 47))
    have hss := HST4.out.hs
    refine step_own rfl (.tmp 35) (.tmp 44) 40 40 rfl base 47 (.agg #[.string ⟨#[]⟩, .slice none 0 0]) 2 40 Try.underlying40 info47 rfl rfl hoA rfl (src_two _ (by simp) Try.underlying40 47 _ _ rfl rfl) ((Below.refl base _)) (Nat.le_refl _) ?_ ?_ ?_ ?_
    ·have := HULA.out; unfold maxLen; omega
    ·have := HULA.out; omega
    ·simp; omega
    intro v5 w5 ho5 hb5 hg5
    obtain ⟨hbx, hsr5, hst5, hko5, hbe5⟩ := HST4.out.pushA hus ho hf (HFB4.out.base_ (base' := base) HSTD.out.hs) ho5 hg5
    obtain ⟨g5, c5, rfl⟩ := ownsRow_succ ho5
    have hc5 := hbx.cell
    have hf5 := hbx.frozen
    have HFB6 := Lib.hid (((appended_kx HST4.out.ba (by decide) ho HST4.out.hs HST4.out.hA ho5 hg5).fb (fun _ => .inl (by decide)) HFB14.out).base_ (base' := w0.heap.size) HST.out.be.size)
    have HST5 := Lib.hid hst5
    have HKO5 := Lib.hid (HKO4.out.trans hko5)
    have HBE5 := Lib.hid (HBE4.out.trans hbe5)
    have hHeld5 : SR lv rest B (.slice Ap n0 cp) (w5.setCell ⟨Ba, 0, none⟩ (.slice (some ⟨g5, 0, none⟩) (us.length + 1) c5)) := ⟨hst5.rr, hst5.bp⟩
    refine hK.out _ _ ?_ (fun _ => ?_)
    ·exact hsr5
    clear hK K hst5 hko5 hbe5
    try simp only [Act.put, List.setIfInBounds_toArray, List.set_cons_zero, List.set_cons_succ]
    refine wpAnyH_ready (rs := [11]) (by kernel_rfl) (by simp) ?_
    refine AllReadyH.cons (o := { dst := none, op := Op.store 40 (Operand.tmp 6) (Operand.tmp 45), type := 0, pos := "tree.go:27", after := #[{ on := 10, ground := Ground.data }, { on := 10, ground := Ground.chain }, { on := 0, ground := Ground.phase }, { on := 1, ground := Ground.phase }, { on := 2, ground := Ground.phase }, { on := 3, ground := Ground.phase }, { on := 4, ground := Ground.phase }, { on := 5, ground := Ground.phase }, { on := 6, ground := Ground.phase }, { on := 7, ground := Ground.phase }, { on := 8, ground := Ground.phase }, { on := 9, ground := Ground.phase }, { on := 10, ground := Ground.phase }], guard := none }) rfl (fun K hK => ?_) AllReadyH.nil
    go_simp
    refine hK.out _ _ ?_ (fun _ => ?_)
    ·exact hHeld5
    clear hK K
    try simp only [Act.put, List.setIfInBounds_toArray, List.set_cons_zero, List.set_cons_succ]
    refine wpAnyH_done (by kernel_rfl) ?_ _
    simp only [Exit.then]
    obtain ⟨up, hup, hpo, hpf⟩ := HST5.out.op; have HUL := Lib.hid (show up.length = n0 by have h := congrArg List.length hup; rw [List.length_map, List.length_append, pages_len] at h; rw [HN0.out]; exact h); have HUP := Lib.hid hup; have HPO := Lib.hid hpo; have HPF := Lib.hid hpf; have hP := HST5.out.bp.cell; clear hup hpo hpf
    generalize w5.setCell ⟨Ba, 0, none⟩ (.slice (some ⟨g5, 0, none⟩) (us.length + 1) c5) = w6 at *
    gi_wp2_with (first | (gi_at_builtin; refine wpListIn_append_own _ rfl _ _ 35 rfl w0.heap.size 22 i23 (.slice none 0 0) 1 24 Try.underlying35 hi hz0 hz1 hz2 rfl (by decide) _ _ _ rfl (HPO.out.alloc _) ⟨(w6).heap.size, 0, none⟩ 1 1 [.slice A1 256 c1] rfl rfl (cell_one_new _ _ _) (by simp [Value.oneCell']) (by have := HUL.out; unfold maxLen; omega) (by have := HUL.out; omega) (by have := HST5.out.be.size; simp; omega) ?_; intro v8 w8 ho8 hg8 _; obtain ⟨hbx8, hst8, hko8, hbe8⟩ := HST5.out.pushP HUP.out HPO.out HPF.out HFB6.out ho8 hg8; obtain ⟨g8, c8, rfl⟩ := ownsRow_succ ho8; have hc8 := hbx8.cell; have hf8 := hbx8.frozen; have HST8 := Lib.hid hst8; have HKO8 := Lib.hid hko8; have HBE8 := Lib.hid hbe8; clear hst8 hko8 hbe8 ho8 hg8 hbx8) | (refine ⟨fun h => (by simp [Fence.wide] at h), ?_⟩) | (refine ⟨(show Fence.wide.fn _ from trivial), ?_⟩))
    exact HGO.out HOK.out _ _ _ _ (by rw [HNEW.out, HNEWA.out, ← List.append_assoc, HKEY.out]; exact HST8.out) (HKO1.out.trans (HKO5.out.trans HKO8.out)) (HBE1.out.trans (HBE5.out.trans HBE8.out))
   ·go_simp
    refine (num_any _ _).mono ?_
    rintro e w4 ⟨v4, rfl, ho4, hb4⟩
    rw [HCLIP.out] at ho4
    have HFB4 := Lib.hid (FB.own ho4)
    obtain ⟨A4, c4, rfl, _⟩ := own_shape ho4
    have hHeld4 : SR lv rest B (.slice Ap n0 cp) w4 := hHeld.below hb4
    have HST4 := Lib.hid (HSTD.out.below hb4)
    have HFB14 := Lib.hid (HFBD.out.below hb4)
    have hA := HST4.out.ba.cell
    have HKO4 := Lib.hid (KeepsOthers.of_grownBy (grown_none hb4) (fun _ _ h => (by cases h)))
    have HBE4 := Lib.hid (hb4.mono HSTD.out.be.size)
    simp only []
    refine hK.out _ _ ?_ (fun _ => ?_)
    ·exact hHeld4
    clear hK K hHeld hb4 ho4
    try simp only [Act.put, List.setIfInBounds_toArray, List.set_cons_zero, List.set_cons_succ]
    refine wpAnyH_take (i := 8) (oi := { dst := some 43, op := Op.build 47 #[(0, Operand.tmp 39), (1, Operand.tmp 42)], type := 47, pos := "tree.go:27", after := #[{ on := 4, ground := Ground.data }, { on := 7, ground := Ground.data }], guard := none }) (v := ?_) rfl (by kernel_rfl) (by kernel_rfl) (by kernel_rfl) (fun _ _ _ h => (hQp _ _ _ (by simpa [Exit.then, Exit.inBlock] using h)).elim) (Or.inl ⟨by rfl, ?_⟩) (by assumption) ?_
    rotate_left
    ·intro X hSw; go_simp; try (with_reducible rfl)
    try simp only [Act.put, List.setIfInBounds_toArray, List.set_cons_zero, List.set_cons_succ]
    refine wpAnyH_ready (rs := [0, 9]) (by kernel_rfl) (by simp) ?_
    refine AllReadyH.cons (o := { dst := some 35, op := Op.load 40 (Operand.tmp 6), type := 40, pos := "tree.go:27", after := #[], guard := none }) rfl (fun K hK => ?_) (AllReadyH.cons (o := { dst := some 44, op := Op.buildSlice 40 1 #[(0, Operand.tmp 43)], type := 40, pos := "tree.go:27", after := #[{ on := 8, ground := Ground.data }], guard := none }) rfl (fun K hK => ?_) AllReadyH.nil)
    ·go_simp
     refine hK.out _ _ ?_ (fun _ => ?_)
     ·assumption
     clear hK K
     try simp only [Act.put, List.setIfInBounds_toArray, List.set_cons_zero, List.set_cons_succ]
     refine wpAnyH_ready (rs := [9]) (by kernel_rfl) (by simp) ?_
     refine AllReadyH.cons (o := { dst := some 44, op := Op.buildSlice 40 1 #[(0, Operand.tmp 43)], type := 40, pos := "tree.go:27", after := #[{ on := 8, ground := Ground.data }], guard := none }) rfl (fun K hK => ?_) AllReadyH.nil
     go_simp
     have hHeld9 := hHeld4.below ((Below.refl _ _).alloc (Nat.le_refl _) (Obj.cells #[.string ky, .slice A4 (numL n0).length c4] 47))
     have hA := (HST4.out.below ((Below.refl _ _).alloc (Nat.le_refl _) (Obj.cells #[.string ky, .slice A4 (numL n0).length c4] 47))).ba.cell
     refine hK.out _ _ ?_ (fun _ => ?_)
     ·exact hHeld9
     clear hK K
     try simp only [Act.put, List.setIfInBounds_toArray, List.set_cons_zero, List.set_cons_succ]
     refine wpAnyH_ready (rs := [10]) (by kernel_rfl) (by simp) ?_
     refine AllReadyH.cons (o := { dst := some 45, op := Op.call { callee := Callee.builtin Builtin.append, args := #[Operand.tmp 35, Operand.tmp 44], argTypes := #[40, 40] }, type := 40, pos := "tree.go:27", after := #[{ on := 0, ground := Ground.data }, { on := 9, ground := Ground.data }, { on := 7, ground := Ground.chain }], guard := none }) rfl (fun K hK => ?_) AllReadyH.nil
     obtain ⟨us, hus, ho, hf⟩ := HST4.out.oa
     have HULA := Lib.hid (show us.length = m0 by have h := congrArg List.length hus; rw [List.length_map] at h; exact h.trans HAB.out)
     have hoA := own_below ho ((Below.refl _ _).alloc (Nat.le_refl _) (Obj.cells #[.string ky, .slice A4 (numL n0).length c4] 47))
     have hss := HST4.out.hs
     refine step_own rfl (.tmp 35) (.tmp 44) 40 40 rfl base 47 (.agg #[.string ⟨#[]⟩, .slice none 0 0]) 2 40 Try.underlying40 info47 rfl rfl hoA rfl (src_two _ (by simp) Try.underlying40 47 _ _ rfl rfl) ((Below.refl base _)) (Nat.le_refl _) ?_ ?_ ?_ ?_
     ·have := HULA.out; unfold maxLen; omega
     ·have := HULA.out; omega
     ·simp; omega
     intro v5 w5 ho5 hb5 hg5
     obtain ⟨hbx, hsr5, hst5, hko5, hbe5⟩ := HST4.out.pushA hus ho hf (HFB4.out.base_ (base' := base) HSTD.out.hs) ho5 hg5
     obtain ⟨g5, c5, rfl⟩ := ownsRow_succ ho5
     have hc5 := hbx.cell
     have hf5 := hbx.frozen
     have HFB6 := Lib.hid (((appended_kx HST4.out.ba (by decide) ho HST4.out.hs HST4.out.hA ho5 hg5).fb (fun _ => .inl (by decide)) HFB14.out).base_ (base' := w0.heap.size) HST.out.be.size)
     have HST5 := Lib.hid hst5
     have HKO5 := Lib.hid (HKO4.out.trans hko5)
     have HBE5 := Lib.hid (HBE4.out.trans hbe5)
     have hHeld5 : SR lv rest B (.slice Ap n0 cp) (w5.setCell ⟨Ba, 0, none⟩ (.slice (some ⟨g5, 0, none⟩) (us.length + 1) c5)) := ⟨hst5.rr, hst5.bp⟩
     refine hK.out _ _ ?_ (fun _ => ?_)
     ·exact hsr5
     clear hK K hst5 hko5 hbe5
     try simp only [Act.put, List.setIfInBounds_toArray, List.set_cons_zero, List.set_cons_succ]
     refine wpAnyH_ready (rs := [11]) (by kernel_rfl) (by simp) ?_
     refine AllReadyH.cons (o := { dst := none, op := Op.store 40 (Operand.tmp 6) (Operand.tmp 45), type := 0, pos := "tree.go:27", after := #[{ on := 10, ground := Ground.data }, { on := 10, ground := Ground.chain }, { on := 0, ground := Ground.phase }, { on := 1, ground := Ground.phase }, { on := 2, ground := Ground.phase }, { on := 3, ground := Ground.phase }, { on := 4, ground := Ground.phase }, { on := 5, ground := Ground.phase }, { on := 6, ground := Ground.phase }, { on := 7, ground := Ground.phase }, { on := 8, ground := Ground.phase }, { on := 9, ground := Ground.phase }, { on := 10, ground := Ground.phase }], guard := none }) rfl (fun K hK => ?_) AllReadyH.nil
     go_simp
     refine hK.out _ _ ?_ (fun _ => ?_)
     ·exact hHeld5
     clear hK K
     try simp only [Act.put, List.setIfInBounds_toArray, List.set_cons_zero, List.set_cons_succ]
     refine wpAnyH_done (by kernel_rfl) ?_ _
     simp only [Exit.then]
     obtain ⟨up, hup, hpo, hpf⟩ := HST5.out.op; have HUL := Lib.hid (show up.length = n0 by have h := congrArg List.length hup; rw [List.length_map, List.length_append, pages_len] at h; rw [HN0.out]; exact h); have HUP := Lib.hid hup; have HPO := Lib.hid hpo; have HPF := Lib.hid hpf; have hP := HST5.out.bp.cell; clear hup hpo hpf
     generalize w5.setCell ⟨Ba, 0, none⟩ (.slice (some ⟨g5, 0, none⟩) (us.length + 1) c5) = w6 at *
     gi_wp2_with (first | (gi_at_builtin; refine wpListIn_append_own _ rfl _ _ 35 rfl w0.heap.size 22 i23 (.slice none 0 0) 1 24 Try.underlying35 hi hz0 hz1 hz2 rfl (by decide) _ _ _ rfl (HPO.out.alloc _) ⟨(w6).heap.size, 0, none⟩ 1 1 [.slice A1 256 c1] rfl rfl (cell_one_new _ _ _) (by simp [Value.oneCell']) (by have := HUL.out; unfold maxLen; omega) (by have := HUL.out; omega) (by have := HST5.out.be.size; simp; omega) ?_; intro v8 w8 ho8 hg8 _; obtain ⟨hbx8, hst8, hko8, hbe8⟩ := HST5.out.pushP HUP.out HPO.out HPF.out HFB6.out ho8 hg8; obtain ⟨g8, c8, rfl⟩ := ownsRow_succ ho8; have hc8 := hbx8.cell; have hf8 := hbx8.frozen; have HST8 := Lib.hid hst8; have HKO8 := Lib.hid hko8; have HBE8 := Lib.hid hbe8; clear hst8 hko8 hbe8 ho8 hg8 hbx8) | (refine ⟨fun h => (by simp [Fence.wide] at h), ?_⟩) | (refine ⟨(show Fence.wide.fn _ from trivial), ?_⟩))
     exact HGO.out HOK.out _ _ _ _ (by rw [HNEW.out, HNEWA.out, ← List.append_assoc, HKEY.out]; exact HST8.out) (HKO1.out.trans (HKO5.out.trans HKO8.out)) (HBE1.out.trans (HBE5.out.trans HBE8.out))
    ·go_simp
     have hHeld9 := hHeld4.below ((Below.refl _ _).alloc (Nat.le_refl _) (Obj.cells #[.string ky, .slice A4 (numL n0).length c4] 47))
     have hA := (HST4.out.below ((Below.refl _ _).alloc (Nat.le_refl _) (Obj.cells #[.string ky, .slice A4 (numL n0).length c4] 47))).ba.cell
     refine hK.out _ _ ?_ (fun _ => ?_)
     ·exact hHeld9
     clear hK K
     try simp only [Act.put, List.setIfInBounds_toArray, List.set_cons_zero, List.set_cons_succ]
     refine wpAnyH_ready (rs := [0]) (by kernel_rfl) (by simp) ?_
     refine AllReadyH.cons (o := { dst := some 35, op := Op.load 40 (Operand.tmp 6), type := 40, pos := "tree.go:27", after := #[], guard := none }) rfl (fun K hK => ?_) AllReadyH.nil
     go_simp
     refine hK.out _ _ ?_ (fun _ => ?_)
     ·assumption
     clear hK K
     try simp only [Act.put, List.setIfInBounds_toArray, List.set_cons_zero, List.set_cons_succ]
     refine wpAnyH_ready (rs := [10]) (by kernel_rfl) (by simp) ?_
     refine AllReadyH.cons (o := { dst := some 45, op := Op.call { callee := Callee.builtin Builtin.append, args := #[Operand.tmp 35, Operand.tmp 44], argTypes := #[40, 40] }, type := 40, pos := "tree.go:27", after := #[{ on := 0, ground := Ground.data }, { on := 9, ground := Ground.data }, { on := 7, ground := Ground.chain }], guard := none }) rfl (fun K hK => ?_) AllReadyH.nil
     obtain ⟨us, hus, ho, hf⟩ := HST4.out.oa
     have HULA := Lib.hid (show us.length = m0 by have h := congrArg List.length hus; rw [List.length_map] at h; exact h.trans HAB.out)
     have hoA := own_below ho ((Below.refl _ _).alloc (Nat.le_refl _) (Obj.cells #[.string ky, .slice A4 (numL n0).length c4] 47))
     have hss := HST4.out.hs
     refine step_own rfl (.tmp 35) (.tmp 44) 40 40 rfl base 47 (.agg #[.string ⟨#[]⟩, .slice none 0 0]) 2 40 Try.underlying40 info47 rfl rfl hoA rfl (src_two _ (by simp) Try.underlying40 47 _ _ rfl rfl) ((Below.refl base _)) (Nat.le_refl _) ?_ ?_ ?_ ?_
     ·have := HULA.out; unfold maxLen; omega
     ·have := HULA.out; omega
     ·simp; omega
     intro v5 w5 ho5 hb5 hg5
     obtain ⟨hbx, hsr5, hst5, hko5, hbe5⟩ := HST4.out.pushA hus ho hf (HFB4.out.base_ (base' := base) HSTD.out.hs) ho5 hg5
     obtain ⟨g5, c5, rfl⟩ := ownsRow_succ ho5
     have hc5 := hbx.cell
     have hf5 := hbx.frozen
     have HFB6 := Lib.hid (((appended_kx HST4.out.ba (by decide) ho HST4.out.hs HST4.out.hA ho5 hg5).fb (fun _ => .inl (by decide)) HFB14.out).base_ (base' := w0.heap.size) HST.out.be.size)
     have HST5 := Lib.hid hst5
     have HKO5 := Lib.hid (HKO4.out.trans hko5)
     have HBE5 := Lib.hid (HBE4.out.trans hbe5)
     have hHeld5 : SR lv rest B (.slice Ap n0 cp) (w5.setCell ⟨Ba, 0, none⟩ (.slice (some ⟨g5, 0, none⟩) (us.length + 1) c5)) := ⟨hst5.rr, hst5.bp⟩
     refine hK.out _ _ ?_ (fun _ => ?_)
     ·exact hsr5
     clear hK K hst5 hko5 hbe5
     try simp only [Act.put, List.setIfInBounds_toArray, List.set_cons_zero, List.set_cons_succ]
     refine wpAnyH_ready (rs := [11]) (by kernel_rfl) (by simp) ?_
     refine AllReadyH.cons (o := { dst := none, op := Op.store 40 (Operand.tmp 6) (Operand.tmp 45), type := 0, pos := "tree.go:27", after := #[{ on := 10, ground := Ground.data }, { on := 10, ground := Ground.chain }, { on := 0, ground := Ground.phase }, { on := 1, ground := Ground.phase }, { on := 2, ground := Ground.phase }, { on := 3, ground := Ground.phase }, { on := 4, ground := Ground.phase }, { on := 5, ground := Ground.phase }, { on := 6, ground := Ground.phase }, { on := 7, ground := Ground.phase }, { on := 8, ground := Ground.phase }, { on := 9, ground := Ground.phase }, { on := 10, ground := Ground.phase }], guard := none }) rfl (fun K hK => ?_) AllReadyH.nil
     go_simp
     refine hK.out _ _ ?_ (fun _ => ?_)
     ·exact hHeld5
     clear hK K
     try simp only [Act.put, List.setIfInBounds_toArray, List.set_cons_zero, List.set_cons_succ]
     refine wpAnyH_done (by kernel_rfl) ?_ _
     simp only [Exit.then]
     obtain ⟨up, hup, hpo, hpf⟩ := HST5.out.op; have HUL := Lib.hid (show up.length = n0 by have h := congrArg List.length hup; rw [List.length_map, List.length_append, pages_len] at h; rw [HN0.out]; exact h); have HUP := Lib.hid hup; have HPO := Lib.hid hpo; have HPF := Lib.hid hpf; have hP := HST5.out.bp.cell; clear hup hpo hpf
     generalize w5.setCell ⟨Ba, 0, none⟩ (.slice (some ⟨g5, 0, none⟩) (us.length + 1) c5) = w6 at *
     gi_wp2_with (first | (gi_at_builtin; refine wpListIn_append_own _ rfl _ _ 35 rfl w0.heap.size 22 i23 (.slice none 0 0) 1 24 Try.underlying35 hi hz0 hz1 hz2 rfl (by decide) _ _ _ rfl (HPO.out.alloc _) ⟨(w6).heap.size, 0, none⟩ 1 1 [.slice A1 256 c1] rfl rfl (cell_one_new _ _ _) (by simp [Value.oneCell']) (by have := HUL.out; unfold maxLen; omega) (by have := HUL.out; omega) (by have := HST5.out.be.size; simp; omega) ?_; intro v8 w8 ho8 hg8 _; obtain ⟨hbx8, hst8, hko8, hbe8⟩ := HST5.out.pushP HUP.out HPO.out HPF.out HFB6.out ho8 hg8; obtain ⟨g8, c8, rfl⟩ := ownsRow_succ ho8; have hc8 := hbx8.cell; have hf8 := hbx8.frozen; have HST8 := Lib.hid hst8; have HKO8 := Lib.hid hko8; have HBE8 := Lib.hid hbe8; clear hst8 hko8 hbe8 ho8 hg8 hbx8) | (refine ⟨fun h => (by simp [Fence.wide] at h), ?_⟩) | (refine ⟨(show Fence.wide.fn _ from trivial), ?_⟩))
     exact HGO.out HOK.out _ _ _ _ (by rw [HNEW.out, HNEWA.out, ← List.append_assoc, HKEY.out]; exact HST8.out) (HKO1.out.trans (HKO5.out.trans HKO8.out)) (HBE1.out.trans (HBE5.out.trans HBE8.out))
end Go.Proofs.Ytmbkaedhllfoeaa
namespace Go.Proofs.Ytmbkaedhllfoeaa
open Go.RowKit Go.Rst Go.Pg Go.Crc Go.Shelf
attribute [local go_sem] Oper.semAt_some
theorem rb_keptB {A B : World} {row : Option Nat} {v : Value} {l : List UInt8} (h : RB A v l) (hg : A.grownBy B row) (hr : ∀ r, row = some r → ∃ o : Obj, A.heap[r]? = some o ∧ o.isCells = false) : RB B v l := by
 obtain ⟨A', c, rfl, h1, h2, h3⟩ := h
 refine ⟨A', c, rfl, h1, h2, h3.imp id fun h => ?_⟩
 obtain ⟨b, off, rfl, hb, hc⟩ := h
 exact ⟨b, off, rfl, Nat.lt_of_lt_of_le hb hg.size, fun j hj => cell_kept (hc j hj) hg hr⟩
theorem rr_kept {A B : World} {row : Option Nat} {v : Value} {rs : List Rw} (h : RR A v rs) (hg : A.grownBy B row) (hr : ∀ r, row = some r → ∃ o : Obj, A.heap[r]? = some o ∧ o.isCells = false) : RR B v rs := by
 obtain ⟨A', c, rfl, h1, h2, h3⟩ := h
 refine ⟨A', c, rfl, h1, h2, h3.imp id fun h => ?_⟩
 obtain ⟨b, off, rfl, hb, hc⟩ := h
 refine ⟨b, off, rfl, Nat.lt_of_lt_of_le hb hg.size, fun j hj => ?_⟩
 obtain ⟨h4, u, h5, h6⟩ := hc j hj
 exact ⟨cell_kept h4 hg hr, u, cell_kept h5 hg hr, rb_keptB h6 hg hr⟩
theorem leave2 {P : Program} {W : World} {tmps : Array Value} {a b : Value} (h2 : tmps.getD 2 undef = a) (h3 : tmps.getD 3 undef = b) : (results Try.f40 tmps).run P W = .ok (.tuple #[a, b]) W := by
 subst h2
 subst h3
 exact results_tmp2 rfl _ _ _
theorem below_grown {n₀ : Nat} {A B : World} {row : Option Nat} (hg : A.grownBy B row) (hA : n₀ ≤ A.heap.size) (hr : ∀ r, row = some r → n₀ ≤ r) : Below n₀ A B := (Below.refl _ _).grown hg hA hr
set_option maxRecDepth 100000 in
set_option maxHeartbeats 4000000 in
theorem build_any (v : Value) (rs : List Rw) (w : World) (hv : RR w v rs) :
  Calls Try.prog 40 #[v] w (GivesBd w (buildL rs)) := by
 have HV := Lib.hid hv
 have hri := rising_any v rs w hv
 obtain ⟨A, c, rfl, hlc, hc63⟩ := rr_shape hv
 have hB : buildL rs = if risingL rs = false ∨ 5000 < rs.length then none else buildF 5 0 [] rs := rfl
 clear hv
 refine (callsIn_wide (n := 3)).1 ?_
 refine callsIn_of_wp_marks Try.func40 rfl trivial ?_ rfl
 simp only [Try.ntmps40, List.size_toArray, List.length_cons, List.length_nil, Nat.reduceAdd, Nat.reduceSub, Array.replicate_succ, Array.replicate_zero, List.push_toArray, List.append_toArray, List.nil_append, List.cons_append]
 by_cases hbig : 5000 < rs.length
 ·rw [if_pos (.inr hbig)] at hB
  have HB := Lib.hid hB
  have hbig' : (5000 : Int) < (rs.length : Int) := by omega
  clear hB hri
  gi_wp2
  refine wpIn_wide.2 (wp_scope_straight ((wpIn_wide (n := 3)).1 ?_))
  gi_wp2_with (refine ⟨(show Fence.wide.fn _ from trivial), ?_⟩)
  rw [Exit.noGoto_ret]
  exact ⟨_, results_tmp2 rfl _ _ _, GivesBd.none_ HB.out (Below.refl _ _)⟩
 ·have hbig' : (rs.length : Int) ≤ 5000 := by omega
  cases hr : risingL rs with
  | false =>
   rw [if_pos (.inl hr)] at hB
   have HB := Lib.hid hB
   rw [hr] at hri
   have HRI := Lib.hid hri
   clear hri hr hB
   gi_wp2
   refine wpIn_wide.2 (wp_scope_straight ((wpIn_wide (n := 3)).1 ?_))
   gi_wp2_with (first | (gi_at_call 64; refine (callsIn_wide.2 HRI.out).mono ?_; rintro e w1 ⟨rfl, hb1⟩; have HB1 := Lib.hid hb1; clear hb1) | (refine ⟨(show Fence.wide.fn _ from trivial), ?_⟩))
   rw [Exit.noGoto_ret]
   exact ⟨_, leave2 rfl rfl, GivesBd.none_ HB.out HB1.out⟩
  | true =>
   rw [if_neg (by rw [hr]; simp; omega)] at hB
   have HBB := Lib.hid hB
   rw [hr] at hri
   have HRI := Lib.hid hri
   clear hri hr hB
   gi_wp2
   refine wpIn_wide.2 (wp_scope_straight ((wpIn_wide (n := 3)).1 ?_))
   gi_wp2_with (first | (gi_at_call 64; refine (callsIn_wide.2 HRI.out).mono ?_; rintro e w1 ⟨rfl, hb1⟩; have HB1 := Lib.hid hb1; clear hb1) | (refine ⟨(show Fence.wide.fn _ from trivial), ?_⟩))
   refine wpIn_label ?_
   gi_wp2
   obtain ⟨B, hBe⟩ : ∃ B, B = w1.heap.size := ⟨_, rfl⟩
   have hB : w.heap.size ≤ B := by rw [hBe]; exact HB1.out.size
   have bP := Boxed.new w1 35 (.slice none 0 0)
   have hbP : Below w.heap.size w (w1.alloc (.cells #[.slice none 0 0] 35)) := HB1.out.alloc HB1.out.size _
   rw [← hBe] at bP ⊢
   clear hBe
   generalize w1.alloc (.cells #[.slice none 0 0] 35) = W1 at *
   refine wpIn_loop (fun a W => ∃ (k : Nat) (all : List (List UInt8)) (rest : List Rw) (lv pv : Value) (ds : List Deferred) (u1 u2 u3 u5 u6 u7 u8 u9 u10 u11 u12 u13 u14 u15 u16 u17 u19 u20 u21 u22 u23 u24 u25 u26 u27 u28 u29 u30 u31 u32 u33 u34 u35 u36 u37 u38 u39 u40 u41 u42 u43 u44 u45 u46 u47 u48 u49 u50 u51 u52 u53 u54 u55 : Value), (k ≤ 5 ∧ Boxed W B 35 pv ∧ OP 5 22 W w.heap.size pv all ∧ (RR w lv rest ∨ OR 5 47 W w.heap.size lv rest) ∧ Below w.heap.size w W ∧ Marks w.heap.size W.heap.size W ds ∧ buildF (5 - k) k all rest = buildL rs ∧ rest.length ≤ 5000 + k ∧ all.length ≤ k * 6000) ∧ a = { tmps := #[lv, u1, u2, u3, .pointer (some ⟨B, 0, none⟩), u5, u6, u7, u8, u9, u10, u11, u12, u13, u14, u15, u16, u17, .int .i64 (k : Int), u19, u20, u21, u22, u23, u24, u25, u26, u27, u28, u29, u30, u31, u32, u33, u34, u35, u36, u37, u38, u39, u40, u41, u42, u43, u44, u45, u46, u47, u48, u49, u50, u51, u52, u53, u54, u55], defers := ds })
    (fun a _ => 5 - (intOf (a.tmps.getD 18 undef)).toNat) ?_ ?_
   ·exact ⟨0, [], rs, _, _, [], _, _, _, _, _, _, _, _, _, _, _, _, _, _, _, _, _, _, _, _, _, _, _, _, _, _, _, _, _, _, _, _, _, _, _, _, _, _, _, _, _, _, _, _, _, _, _, _, _, _, _, _, _, ⟨by omega, bP, OP.nil_ _ _ _ _, .inl HV.out, hbP, trivial, HBB.out.symm, by omega, by simp⟩, rfl⟩
   ·rintro _ W ⟨k, all, rest, lv, pv, ds, u1, u2, u3, u5, u6, u7, u8, u9, u10, u11, u12, u13, u14, u15, u16, u17, u19, u20, u21, u22, u23, u24, u25, u26, u27, u28, u29, u30, u31, u32, u33, u34, u35, u36, u37, u38, u39, u40, u41, u42, u43, u44, u45, u46, u47, u48, u49, u50, u51, u52, u53, u54, u55, ⟨hk, bp, hop, hei, hbel, hmk, hbf, hrl, hal⟩, rfl⟩
    have hrr : RR W lv rest := by
     rcases hei with h | h
     ·exact rr_below h hbel (Nat.le_refl _)
     ·exact h.rr
    obtain ⟨Al, cl, rfl, hlc2, hcl63⟩ := rr_shape hrr
    have HRR := Lib.hid hrr
    have HBP := Lib.hid bp
    have HOP := Lib.hid hop
    have HEI := Lib.hid hei
    have HBEL := Lib.hid hbel
    have HMK := Lib.hid hmk
    have HBF := Lib.hid hbf
    clear hrr bp hop hei hbel hmk hbf bP hbP
    by_cases hlt : k < 5
    ·gi_wp2_with (first | (gi_at_call 65; refine (groups_in _ _ _ _ _).mono ?_; rintro e w2 ⟨rfl, rfl⟩) | (refine ⟨(show Fence.wide.fn _ from trivial), ?_⟩))
     have hWs := HBEL.out.size
     have a1 := fun (o : Obj) (X : World) => (Below.refl X.heap.size X).alloc (Nat.le_refl _) o
     have hst0 : St w B W.heap.size (W.heap.size + 1) k W.heap.size (.slice Al rest.length cl) rest all [] pv (.slice none 0 0) (((W.alloc (.cells #[.int .i64 (k : Int)] 3)).alloc (.cells #[.slice none 0 0] 40)).alloc (.cells #[.slice Al rest.length cl] 40)) := by
      have hb1 : Below W.heap.size W (((W.alloc (.cells #[.int .i64 (k : Int)] 3)).alloc (.cells #[.slice none 0 0] 40)).alloc (.cells #[.slice Al rest.length cl] 40)) := (((Below.refl _ W).alloc (Nat.le_refl _) _).alloc (by simp) _).alloc (by simp; omega) _
      have hkx : KX (fun _ _ => True) W (((W.alloc (.cells #[.int .i64 (k : Int)] 3)).alloc (.cells #[.slice none 0 0] 40)).alloc (.cells #[.slice Al rest.length cl] 40)) := KX.below hb1
      refine ⟨hkx.boxed trivial HBP.out, ((Boxed.new W _ _).alloc _).alloc _, ?_, hkx.op (fun _ => trivial) (fun _ => trivial) HOP.out, OR.nil_ _ _ _ _, HEI.out.imp id (fun h => ⟨hkx.or_ (fun _ => trivial) (fun _ _ => trivial) h, fun g hg => ?_⟩), HBEL.out.trans (hb1.mono hWs), hB, Nat.le_succ _, hWs, hb1.size⟩
      ·have := (Boxed.new (W.alloc (.cells #[.int .i64 (k : Int)] 3)) 40 (.slice none 0 0)).alloc (.cells #[.slice Al rest.length cl] 40)
       rw [World.size_alloc] at this
       exact this
      ·obtain ⟨us, _, ho, _⟩ := h
       rcases ho.2 with ⟨he, _⟩ | ⟨g', cap, cur, he, _, hgb, _⟩
       ·rw [he] at hg; simp [Value.ownBlock] at hg
       ·rw [he] at hg
        obtain rfl : g' = g := by simpa [Value.ownBlock] using hg
        exact (Array.getElem?_eq_some_iff.1 hgb).1
     have hbx := (Boxed.new ((W.alloc (.cells #[.int .i64 (k : Int)] 3)).alloc (.cells #[.slice none 0 0] 40)) 40 (.slice Al rest.length cl)).cell
     rw [World.size_alloc, World.size_alloc] at hbx
     have hmk0 : Marks w.heap.size W.heap.size (((W.alloc (.cells #[.int .i64 (k : Int)] 3)).alloc (.cells #[.slice none 0 0] 40)).alloc (.cells #[.slice Al rest.length cl] 40)) ds := HMK.out.keep fun D hD hk => ((((Below.refl _ W).alloc (Nat.le_refl _) _).alloc (by simp) _).alloc (by simp; omega) _ : Below W.heap.size W _).block D hD |>.trans hk
     have hsz0 : (((W.alloc (.cells #[.int .i64 (k : Int)] 3)).alloc (.cells #[.slice none 0 0] 40)).alloc (.cells #[.slice Al rest.length cl] 40)).heap.size = W.heap.size + 3 := by simp
     obtain ⟨W0, hW0⟩ : ∃ W0, W0 = (((W.alloc (.cells #[.int .i64 (k : Int)] 3)).alloc (.cells #[.slice none 0 0] 40)).alloc (.cells #[.slice Al rest.length cl] 40)) := ⟨_, rfl⟩
     rw [← hW0] at hst0 hbx hmk0 hsz0 ⊢
     clear a1 hW0
     have hmk1 := hmk0.wide (show W.heap.size ≤ W0.heap.size by omega)
     refine wpIn_rangeFunc_ownG rfl (by decide) (gf := 86) (lb := #[.pointer (some ⟨W.heap.size + 1 + 1, 0, none⟩)]) rfl trivial (enters_of Try.func86 (by kernel_rfl) rfl)
      (groups_stops 2 (W.heap.size + 1 + 1) (.slice Al rest.length cl) rest W0 (by omega) hbx hst0.rr) (fun h k x => k (h x)) (fun X l o o' hl hlo hc _ hx => ?kb) (Below.refl _ _) (fun _ => rfl)
      (fun pre X => (∃ pv av, St w B W.heap.size (W.heap.size + 1) k W.heap.size (.slice Al rest.length cl) rest (all ++ pagesF k (pre.map (·.1.2))) (abovP all.length (pre.map (·.1.2))) pv av X) ∧ Marks w.heap.size W0.heap.size X ds ∧ ((pre.map (·.1.2)).all (pageOk k) = true ∧ pre.length ≤ rest.length + 1))
      (fun c pre X => (c = .exit 0 ∧ (pre.map (·.1.2)).all (pageOk k) = false) ∧ Below w.heap.size w X ∧ Marks w.heap.size W0.heap.size X ds)
      ?oi ?ox ⟨⟨pv, _, by simpa [pagesF, abovP] using hst0⟩, hmk1, rfl, by simp⟩
      (fun x => { tmps := #[.slice Al rest.length cl, u1, u2, u3, .pointer (some ⟨B, 0, none⟩), .pointer (some ⟨W.heap.size, 0, none⟩), .pointer (some ⟨W.heap.size + 1, 0, none⟩), x.1.1, u8, u9, u10, u11, u12, u13, u14, u15, u16, u17, .int .i64 (k : Int), .bool true, .int .i64 (k : Int), .slice Al rest.length cl, .func (.func 86) #[] #[.pointer (some ⟨W.heap.size + 1 + 1, 0, none⟩)], x.1.1, u24, u25, u26, u27, u28, u29, u30, u31, u32, u33, u34, u35, u36, u37, u38, u39, u40, u41, u42, u43, u44, u45, u46, u47, u48, u49, u50, u51, u52, u53, u54, u55], defers := [] }) ?assign ?body ?done ?stop
     case kb => exact rr_kept hx (grownBy_putObj' X l o') (fun r e => by cases e; exact ⟨o, hlo, hc⟩)
     case oi =>
      rintro pre X Y row ⟨⟨pv', av', h⟩, hm, h2⟩ hg hr
      exact ⟨⟨pv', av', h.keep (KX.of_grown hg (fun r e => (hr r e).2)) (h.be.trans (below_grown hg h.be.size (fun r e => by have := (hr r e).1; omega)))⟩,
       hm.keep (fun D hD hk => (hg.block D (Array.getElem?_eq_some_iff.1 hk).1 (fun e => by have := (hr D e.symm).1; omega)).trans hk), h2⟩
     case ox =>
      rintro c' pre X Y row ⟨h1, h, hm⟩ hg hr
      exact ⟨h1, h.trans (below_grown hg h.size (fun r e => by have := (hr r e).1; omega)),
       hm.keep (fun D hD hk => (hg.block D (Array.getElem?_eq_some_iff.1 hk).1 (fun e => by have := (hr D e.symm).1; omega)).trans hk)⟩
     case assign =>
      intro l x X K hK
      gi_wp2
      exact hK
     case body =>
      rintro l pre ⟨⟨xv, xr⟩, hx⟩ X ⟨⟨pv', av', hst⟩, hm, hok, hpl⟩ hlt'
      dsimp only at hx
      obtain ⟨Ax, cx, rfl, _, _⟩ := rr_shape (hx X hst.rr)
      dsimp only
      refine round_body (by omega) hst hx (by rw [List.length_map]; omega) (fun _ _ h => h) (fun _ _ _ h => h) (fun hok' Y pv2 av2 a h1 h2 h3 => ?_) (fun hok' Y a h1 h2 h3 => ?_)
      ·exact ⟨h2.from _, fun _ => h1.rr, ⟨pv2, av2, by rw [List.map_append]; exact h1⟩, hm.keep (fun D hD hk => h2.same D _ hk rfl), by rw [List.map_append, List.all_append, hok]; simp [hok'], by rw [List.length_append]; simp; omega⟩
      ·exact ⟨h2.from _, ⟨rfl, by rw [List.map_append, List.all_append, hok]; simp [hok']⟩, h1.be, hm.keep (fun D hD hk => h2.same D _ hk rfl)⟩
     case done =>
      rintro D xs X hD hS ⟨⟨pv', av', hst⟩, hm, hok, hxl⟩ hK
      rw [hS] at hst hok
      have hlv := level_groups (n := k) (by omega) all.length rest
      rw [hok, if_pos rfl] at hlv
      have hbf := HBF.out
      rw [show 5 - k = (4 - k) + 1 from by omega, build_step, hlv] at hbf
      simp only [pages_len] at hbf
      have hmk3 : Marks w.heap.size X.heap.size X ({ target := .collected D, args := #[] } :: ds) := ⟨⟨D, rfl, by omega, (Array.getElem?_eq_some_iff.1 hK).1, hK, fun d hd => hm.ne hD d hd⟩, hm.wide (by have := (Array.getElem?_eq_some_iff.1 hK).1; omega)⟩
      obtain ⟨Ap, cp, hpv, _, _⟩ := hst.op.shape
      obtain ⟨n1, hn1⟩ : ∃ n1, n1 = (all ++ pagesF (k : Int) (groupsL rest)).length := ⟨_, rfl⟩
      rw [← hn1] at hpv
      subst hpv
      have HN1 := Lib.hid hn1
      clear hn1
      obtain ⟨Aa, ca, rfl⟩ := or_shape hst.oa
      have hcb := hst.ba.cell
      have hcp := hst.bp.cell
      have HST := Lib.hid hst
      have HMK3 := Lib.hid hmk3
      have hone := abovP_one all.length rest
      have hgl := groupsL_len rest
      by_cases hm1 : (abovP all.length (groupsL rest)).length ≤ 1
      ·have E := Lib.hid (show buildL rs = some (all ++ pagesF k (groupsL rest)) by rw [← hbf, if_pos (hone.1 hm1)])
       obtain ⟨m, hm⟩ : ∃ m, m = (abovP all.length (groupsL rest)).length := ⟨_, rfl⟩
       rw [← hm] at hm1 hcb
       have hm1' : (m : Int) ≤ 1 := by omega
       clear hbf hst hmk3 hone hok hlv hS hm hxl
       gi_wp2
       rw [Exit.noGoto_ret]
       exact leaves_marks HMK3.out (fun W' hkx hb => ⟨_, leave2 rfl rfl, GivesBd.some_ E.out (hkx.op (fun _ => trivial) (fun _ => trivial) HST.out.op) (HST.out.be.trans hb)⟩)
      ·have hne : ¬ (groupsL rest).length = 1 := fun h => hm1 (hone.2 h)
       rw [if_neg hne] at hbf
       have HBF2 := Lib.hid hbf
       have HHM := Lib.hid (abovP_more (from_ := all.length) hne)
       obtain ⟨m, hm⟩ : ∃ m, m = (abovP all.length (groupsL rest)).length := ⟨_, rfl⟩
       have HM := Lib.hid hm
       rw [← hm] at hm1 hcb
       have hm1' : (1 : Int) < (m : Int) := by omega
       clear hbf hst hmk3 hone hok hlv hS hm hxl
       gi_wp2
       refine ⟨⟨k + 1, all ++ pagesF k (groupsL rest), aboveF all.length (groupsL rest), _, _, _, _, _, _, _, _, _, _, _, _, _, _, _, _, _, _, _, _, _, _, _, _, _, _, _, _, _, _, _, _, _, _, _, _, _, _, _, _, _, _, _, _, _, _, _, _, _, _, _, _, _, _, _, _, ⟨by omega, HST.out.bp, HST.out.op, .inr ?_, HST.out.be, HMK3.out, ?_, ?_, ?_⟩, rfl⟩, ?_⟩
       ·have := HST.out.oa
        rw [← HM.out, HHM.out] at this
        exact this.base_ hWs
       ·rw [show 5 - (k + 1) = 4 - k from by omega]
        exact HBF2.out
       ·rw [above_len]; omega
       ·rw [List.length_append, pages_len]; omega
       ·simp [intOf]; omega
     case stop =>
      rintro D c' pre X hD hSp ⟨⟨rfl, hbad⟩, hbe, hm⟩ hK
      have hmk3 : Marks w.heap.size X.heap.size X ({ target := .collected D, args := #[] } :: ds) := ⟨⟨D, rfl, by omega, (Array.getElem?_eq_some_iff.1 hK).1, hK, fun d hd => hm.ne hD d hd⟩, hm.wide (by have := (Array.getElem?_eq_some_iff.1 hK).1; omega)⟩
      have hlv := level_groups (n := k) (by omega) all.length rest
      obtain ⟨t, ht⟩ := hSp
      rw [← ht, List.all_append, hbad] at hlv
      simp only [Bool.false_and, Bool.false_eq_true, if_false] at hlv
      have hbf := HBF.out
      rw [show 5 - k = (4 - k) + 1 from by omega, build_step, hlv] at hbf
      have E := Lib.hid (show buildL rs = none from hbf.symm)
      have HMK3 := Lib.hid hmk3
      have HBE := Lib.hid hbe
      clear hmk3 hlv ht hbf hbe hm hbad
      gi_wp2
      rw [Exit.noGoto_ret]
      exact leaves_marks HMK3.out (fun W' _ hb => ⟨_, leave2 rfl rfl, GivesBd.none_ E.out (HBE.out.trans hb)⟩)
    ·obtain rfl : k = 5 := by omega
     have hbf := HBF.out
     rw [Nat.sub_self, buildF] at hbf
     have E := Lib.hid (show buildL rs = none from hbf.symm)
     clear hbf
     gi_wp2
     rw [Exit.noGoto_ret]
     exact leaves_marks HMK.out (fun W' _ hb => ⟨_, leave2 rfl rfl, GivesBd.none_ E.out (HBEL.out.trans hb)⟩)
end Go.Proofs.Ytmbkaedhllfoeaa
namespace Go.Pg
open Go.Rst Go.Crc
theorem groups_flatten (l : List Rw) : (groupsL l).flatten = l := by
 have key : ∀ (m : Nat) (l : List Rw), l.length ≤ m → (groupsL l).flatten = l := by
  intro m
  induction m with
  | zero =>
   intro l h
   obtain rfl : l = [] := List.eq_nil_of_length_eq_zero (by omega)
   rfl
  | succ m ih =>
   intro l h
   by_cases he : l.length ≤ gsize l
   ·rw [groupsL_end he, List.flatten_cons, List.flatten_nil, List.append_nil, List.take_of_length_le he]
   ·have h1 := gsize_pos (l := l) (fun e => by subst e; simp at he)
    rw [groupsL_more he, List.flatten_cons, ih _ (by rw [List.length_drop]; omega), List.take_append_drop]
 exact key l.length l (Nat.le_refl _)
inductive TreeAt : Nat → List (List UInt8) → List Rw → List (List UInt8) → Prop
 | root {n : Nat} {all : List (List UInt8)} {l : List Rw} : n ≤ 4 → (groupsL l).all (pageOk n) = true → (groupsL l).length = 1 → TreeAt n all l (all ++ pagesF n (groupsL l))
 | up {n : Nat} {all : List (List UInt8)} {l : List Rw} {ps : List (List UInt8)} : n ≤ 4 → (groupsL l).all (pageOk n) = true → ¬ (groupsL l).length = 1 →
   TreeAt (n + 1) (all ++ pagesF n (groupsL l)) (aboveF all.length (groupsL l)) ps → TreeAt n all l ps
theorem treeAt_of : ∀ (f n : Nat) (all : List (List UInt8)) (l : List Rw) (ps : List (List UInt8)), f + n = 5 → buildF f n all l = some ps → TreeAt n all l ps
 | 0, _, _, _, _, _, h => by simp [buildF] at h
 | f + 1, n, all, l, ps, hf, h => by
  rw [build_step, level_groups (by omega)] at h
  by_cases ho : (groupsL l).all (pageOk n) = true
  ·rw [if_pos ho] at h
   simp only [pages_len] at h
   by_cases h1 : (groupsL l).length = 1
   ·rw [if_pos h1] at h
    injection h with h
    rw [← h]
    exact .root (by omega) ho h1
   ·rw [if_neg h1] at h
    exact .up (by omega) ho h1 (treeAt_of f (n + 1) _ _ ps (by omega) h)
  ·rw [if_neg ho] at h
   cases h
theorem tree_of {l : List Rw} {ps : List (List UInt8)} (h : buildL l = some ps) : Sorted l ∧ l.length ≤ 5000 ∧ TreeAt 0 [] l ps := by
 unfold buildL at h
 split at h
 ·cases h
 ·rename_i hn
  simp only [not_or, Bool.not_eq_false, Nat.not_lt] at hn
  exact ⟨(sorted_rising l).1 hn.1, hn.2, treeAt_of 5 0 [] l ps rfl h⟩
theorem tree_pre {n : Nat} {all : List (List UInt8)} {l : List Rw} {ps : List (List UInt8)} (h : TreeAt n all l ps) :
  (groupsL l).all (pageOk n) = true ∧ ∃ t, ps = all ++ pagesF n (groupsL l) ++ t ∧ ∀ p ∈ t, ∃ (m : Nat) (c : List Rw), n < m ∧ p = encL m c ∧ pageOk m c = true := by
 induction h with
 | root _ ho _ => exact ⟨ho, [], by simp, fun p hp => by cases hp⟩
 | @up n all l ps _ ho _ _ ih =>
  obtain ⟨ho2, t, ht, hp⟩ := ih
  refine ⟨ho, pagesF (n + 1 : Nat) (groupsL (aboveF all.length (groupsL l))) ++ t, by rw [ht, List.append_assoc], fun p hpp => ?_⟩
  rcases List.mem_append.1 hpp with hpp | hpp
  ·unfold pagesF at hpp
   obtain ⟨c, hc, rfl⟩ := List.mem_map.1 hpp
   exact ⟨n + 1, c, by omega, rfl, List.all_eq_true.1 ho2 c hc⟩
  ·obtain ⟨m, c, h1, h2, h3⟩ := hp p hpp
   exact ⟨m, c, by omega, h2, h3⟩
theorem dec_page {m : Nat} {c : List Rw} (h : pageOk m c = true) : decR (encL m c) = (m, c, 0) := by
 have := dec_enc h
 simpa using this
theorem rowsF_zero : ∀ (gs : List (List Rw)) (acc : List Rw) (tail : List (List UInt8)), gs.all (pageOk (0 : Nat)) = true → (acc ++ gs.flatten).length ≤ 5000 → rowsFT (pagesF (0 : Nat) gs ++ tail) acc = rowsFT tail (acc ++ gs.flatten)
 | [], acc, tail, _, _ => by simp [pagesF]
 | c :: gs, acc, tail, ho, hl => by
  rw [List.all_cons, Bool.and_eq_true] at ho
  have e : pagesF (0 : Nat) (c :: gs) ++ tail = encL (0 : Nat) c :: (pagesF (0 : Nat) gs ++ tail) := rfl
  rw [e, rowsFT, dec_page ho.1]
  have hl2 : acc.length ≤ 5000 := by rw [List.length_append] at hl; omega
  simp only [ne_eq, not_true, if_false, true_and, hl2, if_true]
  rw [rowsF_zero gs (acc ++ c) tail ho.2 (by simpa [List.append_assoc] using hl)]
  rw [List.flatten_cons, List.append_assoc]
theorem rowsF_skip : ∀ (t : List (List UInt8)) (acc : List Rw), (∀ p ∈ t, ∃ (m : Nat) (c : List Rw), 0 < m ∧ p = encL m c ∧ pageOk m c = true) → rowsFT t acc = (acc, 0)
 | [], _, _ => rfl
 | p :: t, acc, h => by
  obtain ⟨m, c, h1, h2, h3⟩ := h p (List.mem_cons_self)
  rw [rowsFT, h2, dec_page h3]
  have hm : ¬ m = 0 := by omega
  simp only [ne_eq, not_true, if_false, hm, false_and]
  exact rowsF_skip t acc (fun q hq => h q (List.mem_cons_of_mem _ hq))
theorem rows_tree {l : List Rw} {ps : List (List UInt8)} (h : buildL l = some ps) : rowsT ps = (l, 0) := by
 obtain ⟨_, hl, ht⟩ := tree_of h
 obtain ⟨ho, t, hp, hq⟩ := tree_pre ht
 have hf := groups_flatten l
 have : rowsFT ps [] = (l, 0) := by
  rw [hp, List.nil_append, rowsF_zero _ _ _ ho (by rw [List.nil_append, hf]; exact hl), List.nil_append, hf]
  exact rowsF_skip t l hq
 unfold rowsT
 rw [this]
 simp [h]
theorem above_get {fr : Nat} {gs : List (List Rw)} {j : Nat} (hj : j < gs.length) : (aboveF fr gs)[j]? = some (headKey gs[j], numL (fr + j)) := by
 unfold aboveF
 rw [List.getElem?_map, List.getElem?_zipIdx, List.getElem?_eq_getElem hj]
 simp
theorem head_key {c : List Rw} (h : 0 < c.length) : headKey c = c[0].1 := by
 cases c with
 | nil => simp at h
 | cons r t => rfl
end Go.Pg
namespace Go.Pg
open Go.Rst Go.Crc
theorem pages_ok {l : List Rw} {ps : List (List UInt8)} (h : buildL l = some ps) : ∀ p ∈ ps, ∃ (m : Nat) (c : List Rw), p = encL m c ∧ pageOk m c = true := by
 obtain ⟨_, _, ht⟩ := tree_of h
 obtain ⟨ho, t, hp, hq⟩ := tree_pre ht
 intro p hm
 rw [hp, List.nil_append] at hm
 rcases List.mem_append.1 hm with hm | hm
 ·unfold pagesF at hm
  obtain ⟨c, hc, rfl⟩ := List.mem_map.1 hm
  exact ⟨0, c, rfl, List.all_eq_true.1 ho c hc⟩
 ·obtain ⟨m, c, _, h2, h3⟩ := hq p hm
  exact ⟨m, c, h2, h3⟩
theorem built_256 {l : List Rw} {ps : List (List UInt8)} (h : buildL l = some ps) : ∀ p ∈ ps, p.length = 256 := fun p hp => by
 obtain ⟨m, c, rfl, h1⟩ := pages_ok h p hp
 exact encL_length h1
theorem treeAt_pos {n : Nat} {all : List (List UInt8)} {l : List Rw} {ps : List (List UInt8)} (h : TreeAt n all l ps) : all.length < ps.length := by
 induction h with
 | root _ _ h1 => simp only [List.length_append, pages_len]; omega
 | up _ _ _ _ ih =>
  simp only [List.length_append, pages_len] at ih
  omega
theorem built_ne {l : List Rw} {ps : List (List UInt8)} (h : buildL l = some ps) : ps ≠ [] := by
 have := treeAt_pos (tree_of h).2.2
 intro e
 subst e
 simp at this
theorem built_sorted {l : List Rw} {ps : List (List UInt8)} (h : buildL l = some ps) : Sorted l ∧ l.length ≤ 5000 := ⟨(tree_of h).1, (tree_of h).2.1⟩
theorem build_nil : ∃ p, buildL [] = some [p] := by
 refine ⟨encL ((0 : Nat) : Int) [], ?_⟩
 unfold buildL
 rw [if_neg (by decide), build_step, level_groups (by omega), groups_nil, if_pos (by decide)]
 rfl
end Go.Pg
namespace Go.Pg
theorem rowsF_go {ps : List (List UInt8)} {k : Nat} {acc : List Rw} (h : k < ps.length) : rowsFT (ps.drop k) acc = if (decR ps[k]).2.2 ≠ 0 then ([], (decR ps[k]).2.2) else rowsFT (ps.drop (k + 1)) (if (decR ps[k]).1 = 0 ∧ acc.length ≤ 5000 then acc ++ (decR ps[k]).2.1 else acc) := by
 rw [List.drop_eq_getElem_cons h, rowsFT]
end Go.Pg
namespace Go.Proofs.Ytmbkaedhllfoeaa
open Go.RowKit Go.Rst Go.Pg Go.Crc
def GivesRw (w : World) (r : List Rw × Nat) (e : Ending) (w' : World) : Prop := ∃ v, e = .returned (.tuple #[v, .int .u16 r.2]) ∧ OR 5 47 w' w.heap.size v r.1 ∧ Below w.heap.size w w'
theorem GivesRw.err {w w' : World} {r : List Rw × Nat} {x : Nat} (h : r = ([], x)) (hb : Below w.heap.size w w') : GivesRw w r (.returned (.tuple #[.slice none 0 0, .int .u16 x])) w' := by
 subst h
 exact ⟨_, rfl, OR.nil_ _ _ _ _, hb⟩
theorem GivesRw.ok {w w' : World} {r : List Rw × Nat} {l : List Rw} {v : Value} (h : r = (l, 0)) (ho : OR 5 47 w' w.heap.size v l) (hb : Below w.heap.size w w') : GivesRw w r (.returned (.tuple #[v, .int .u16 0])) w' := by
 subst h
 exact ⟨_, rfl, ho, hb⟩
set_option maxRecDepth 100000 in
set_option maxHeartbeats 4000000 in
theorem rows_any (v : Value) (ps : List (List UInt8)) (w : World) (hv : RP w v ps) :
  Calls Try.prog 23 #[v] w (GivesRw w (rowsT ps)) := by
 have HV := Lib.hid hv
 have hT : rowsT ps = if (rowsFT ps []).2 ≠ 0 then ([], (rowsFT ps []).2) else if buildL (rowsFT ps []).1 = some ps then ((rowsFT ps []).1, 0) else ([], 11) := rfl
 have HT := Lib.hid hT
 obtain ⟨A, c, rfl, hlc, hc, _⟩ := hv
 unfold maxLen at hc
 clear hT
 go_enter Try.func23, Try.ntmps23
 go_wp2
 go_loopw [4, 14] (fun lv i wr => ∃ (k : Nat) (acc : List Rw), k ≤ ps.length ∧ i = .int .i64 k ∧ OR 5 47 wr w.heap.size lv acc ∧ Below w.heap.size w wr ∧ rowsFT (ps.drop k) acc = rowsFT ps [] ∧ acc.length ≤ 5250) (fun _ i _ => ps.length - (intOf i).toNat)
 case atStart => exact ⟨0, [], Nat.zero_le _, rfl, OR.nil_ _ _ _ _, Below.refl _ _, rfl, by simp⟩
 case round =>
  obtain ⟨k, acc, hk, rfl, hor, hbel, hrf, hacc⟩ := hrel
  obtain ⟨Wo, hWo⟩ : ∃ x, x = wr := ⟨_, rfl⟩
  subst hWo
  obtain ⟨Al, cl, rfl⟩ := or_shape hor
  have HOR := Lib.hid hor
  have HB := Lib.hid hbel
  have HRF := Lib.hid hrf
  clear hor hbel hrf
  by_cases hlt : k < ps.length
  ·have hrf := HRF.out
   rw [rowsF_go hlt] at hrf
   obtain ⟨bb, off, u, rfl, hbb, hx0, hr⟩ := rp_at HV.out hlt
   have hx := (HB.out.cell (p := ⟨bb, off + k, none⟩) hbb).trans hx0
   have hdec := dec_any u ps[k] Wo (hr.below HB.out)
   obtain ⟨A1, c1, hu, _, _, _⟩ := hr
   obtain ⟨pl, hpl⟩ : ∃ pl, pl = ps[k].length := ⟨_, rfl⟩
   rw [← hpl] at hu
   subst hu
   have hl250 := decR_len ps[k]
   unfold GivesDec at hdec
   generalize hd1 : (decR ps[k]).1 = lev at *
   generalize hd2 : (decR ps[k]).2.1 = l at *
   generalize hd3 : (decR ps[k]).2.2 = e at *
   have HDEC := Lib.hid hdec
   have HRR := Lib.hid hrf
   have q1 : (0 : Int) ≤ (k : Int) := by omega
   have q2 : (k : Int) < ps.length := by omega
   clear hdec hrf hd1 hd2 hd3 hpl hx0 HRF
   by_cases he : e = 0
   ·subst he
    have hgg := HRR.out
    rw [if_neg (by decide)] at hgg
    by_cases hap : lev = 0 ∧ acc.length ≤ 5000
    ·rw [if_pos hap] at hgg
     have E := Lib.hid hgg
     obtain ⟨rfl, hac⟩ := hap
     have hac' : (acc.length : Int) ≤ 5000 := by omega
     clear hgg
     go_wp2_with fail
     refine HDEC.out.mono ?_
     rintro ee w2 ⟨v2, rfl, ho2, hb2⟩
     have HB2 := Lib.hid (HB.out.trans (hb2.mono HB.out.size))
     obtain ⟨us, hus, ho, hf⟩ := HOR.out.below hb2
     obtain ⟨us2, hus2, hoo, hf2⟩ := ho2.base_ (base' := w.heap.size) HB.out.size
     have hul : us.length = acc.length := by have h := congrArg List.length hus; rw [List.length_map] at h; exact h
     have hul2 : us2.length = l.length := by have h := congrArg List.length hus2; rw [List.length_map] at h; exact h
     have hsrc := OR.src (tx := 40) hoo hf2 Try.underlying40
     obtain ⟨A2, c2, rfl⟩ := or_shape ho2
     rw [hul] at ho
     rw [hul2] at hsrc
     have HSRC := Lib.hid hsrc
     have HO := Lib.hid ho
     have HUL := Lib.hid hul
     have HUL2 := Lib.hid hul2
     have HUS := Lib.hid hus
     have HUS2 := Lib.hid hus2
     clear ho2 hb2 hoo hul hul2 hsrc ho hus hus2
     go_wp2_with (at_builtin; refine wpList_own rfl (.tmp 34) (.tmp 35) 40 40 rfl w.heap.size 47 (.agg #[.string ⟨#[]⟩, .slice none 0 0]) 2 40 Try.underlying40 info47 rfl rfl HO.out rfl HSRC.out HB2.out (Nat.le_refl _) ?_ ?_ ?_ ?_)
     ·unfold maxLen; omega
     ·omega
     ·exact HB2.out.size
     intro v4 w4 ho4 hb4 hg4
     have hor4 := OR.join (e := 5) (eR := 47) (us := us) (us2 := us2) (by decide) (by rw [HUL.out]; exact HO.out) hf hf2 (by rw [HUL.out, HUL2.out]; exact ho4) hg4
     rw [HUS.out, HUS2.out] at hor4
     obtain ⟨A4, c4, rfl⟩ := or_shape hor4
     have HOR4 := Lib.hid hor4
     have HB4 := Lib.hid hb4
     clear hor4 hb4 hg4 ho4 hf hf2
     go_wp2
     go_roundw
     case rel => exact ⟨k + 1, acc ++ l, by omega, by go_num, HOR4.out, HB4.out, E.out, by rw [List.length_append]; omega⟩
     case measure => simp [intOf]; omega
    ·rw [if_neg hap] at hgg
     have E := Lib.hid hgg
     clear hgg
     by_cases hl0 : lev = 0
     ·subst hl0
      have hac' : (5000 : Int) < (acc.length : Int) := by omega
      clear hap
      go_wp2_with fail
      refine HDEC.out.mono ?_
      rintro ee w2 ⟨v2, rfl, ho2, hb2⟩
      obtain ⟨A2, c2, rfl⟩ := or_shape ho2
      have HB2 := Lib.hid (HB.out.trans (hb2.mono HB.out.size))
      have HOR2 := Lib.hid (HOR.out.below hb2)
      clear ho2 hb2
      go_wp2
      go_roundw
      case rel => exact ⟨k + 1, acc, by omega, by go_num, HOR2.out, HB2.out, E.out, hacc⟩
      case measure => simp [intOf]; omega
     ·have hl0' : ((lev : Int) == 0) = false := by rw [beq_eq_false_iff_ne]; omega
      clear hap hl0
      go_wp2_with fail
      refine HDEC.out.mono ?_
      rintro ee w2 ⟨v2, rfl, ho2, hb2⟩
      obtain ⟨A2, c2, rfl⟩ := or_shape ho2
      have HB2 := Lib.hid (HB.out.trans (hb2.mono HB.out.size))
      have HOR2 := Lib.hid (HOR.out.below hb2)
      clear ho2 hb2
      go_wp2
      go_roundw
      case rel => exact ⟨k + 1, acc, by omega, by go_num, HOR2.out, HB2.out, E.out, hacc⟩
      case measure => simp [intOf]; omega
   ·have hgg := HRR.out
    rw [if_pos he] at hgg
    have E := Lib.hid (show rowsT ps = ([], e) by rw [HT.out, ← hgg, if_pos he])
    have he' : ((e : Int) != 0) = true := by rw [bne_iff_ne]; omega
    clear hgg he
    go_wp2_with fail
    refine HDEC.out.mono ?_
    rintro ee w2 ⟨v2, rfl, ho2, hb2⟩
    obtain ⟨A2, c2, rfl⟩ := or_shape ho2
    have HB2 := Lib.hid (HB.out.trans (hb2.mono HB.out.size))
    clear ho2 hb2
    go_wp2
    go_ret2
    exact GivesRw.err E.out HB2.out
  ·obtain rfl : k = ps.length := by omega
   have hrf := HRF.out
   rw [List.drop_length, rowsFT] at hrf
   have hT2 : rowsT ps = if buildL acc = some ps then (acc, 0) else ([], 11) := by rw [HT.out, ← hrf, if_neg (by simp)]
   have hbd := build_any _ acc Wo HOR.out.rr
   have HBD := Lib.hid hbd
   have HT2 := Lib.hid hT2
   clear hrf hT2 hbd
   cases hb : buildL acc with
   | none =>
    rw [hb] at HBD
    have E := Lib.hid (show rowsT ps = ([], 11) by rw [HT2.out, hb, if_neg (by simp)])
    have HBD2 := Lib.hid (show Calls Try.prog 40 _ Wo (GivesBd Wo none) from HBD.out)
    clear hb HBD
    go_wp2_with fail
    refine HBD2.out.mono ?_
    rintro ee w2 ⟨v2, rfl, ho2, hb2⟩
    obtain ⟨A2, c2, rfl, _, _⟩ := ho2.shape
    have HB2 := Lib.hid (HB.out.trans (hb2.mono HB.out.size))
    clear ho2 hb2
    go_wp2
    go_ret2
    exact GivesRw.err E.out HB2.out
   | some qs =>
    rw [hb] at HBD
    have E0 := Lib.hid (show rowsT ps = if qs = ps then (acc, 0) else ([], 11) by rw [HT2.out, hb]; simp)
    have HBD2 := Lib.hid (show Calls Try.prog 40 _ Wo (GivesBd Wo (some qs)) from HBD.out)
    clear hb HBD
    go_wp2_with fail
    refine HBD2.out.mono ?_
    rintro ee w2 ⟨v2, rfl, ho2, hb2⟩
    have ho2 : OP 5 22 w2 Wo.heap.size v2 qs := ho2
    have hbw := HB.out.trans (hb2.mono HB.out.size)
    have HEQ := Lib.hid (eqF_any v2 _ qs ps w2 ho2.rp (rp_below HV.out hbw (Nat.le_refl _)))
    obtain ⟨A2, c2, rfl, _, _⟩ := ho2.shape
    have HB2 := Lib.hid hbw
    have HOR2 := Lib.hid (HOR.out.below hb2)
    clear ho2 hb2 hbw
    by_cases hqp : qs = ps
    ·have E := Lib.hid (show rowsT ps = (acc, 0) by rw [E0.out, if_pos hqp])
     have hdt : decide (qs = ps) = true := by rw [decide_eq_true_iff]; exact hqp
     rw [hdt] at HEQ
     clear hqp hdt
     go_wp2_with fail
     refine HEQ.out.mono ?_
     rintro ee w3 ⟨rfl, rfl⟩
     go_wp2
     go_ret2
     exact GivesRw.ok E.out HOR2.out HB2.out
    ·have E := Lib.hid (show rowsT ps = ([], 11) by rw [E0.out, if_neg hqp])
     have hdt : decide (qs = ps) = false := by rw [decide_eq_false_iff_not]; exact hqp
     rw [hdt] at HEQ
     clear hqp hdt
     go_wp2_with fail
     refine HEQ.out.mono ?_
     rintro ee w3 ⟨rfl, rfl⟩
     go_wp2
     go_ret2
     exact GivesRw.err E.out HB2.out
end Go.Proofs.Ytmbkaedhllfoeaa
namespace Go.Pg
open Go.Rst Go.Crc
theorem fitF_many {u : Nat} : ∀ (l : List Rw) (m left : Nat), (∀ r ∈ l, r.1.size ≤ 30 ∧ r.2.length ≤ 150 ∧ rsz r ≤ u) → m * u ≤ left → min m l.length ≤ fitF l left
 | [], m, left, _, _ => by simp
 | r :: rs, 0, left, _, _ => by simp
 | r :: rs, m + 1, left, h, hm => by
  obtain ⟨h1, h2, h3⟩ := h r (List.mem_cons_self)
  have hm' : m * u + u ≤ left := by rw [Nat.succ_mul] at hm; exact hm
  have ih := fitF_many rs m (left - rsz r) (fun x hx => h x (List.mem_cons_of_mem _ hx)) (by omega)
  unfold fitF
  rw [if_neg (by omega), if_neg (by omega)]
  simp only [List.length_cons]
  omega
theorem groups_few {u m n : Nat} (hn : n ≤ 4) (hm : 1 ≤ m) (hu : m * u ≤ 250) : ∀ (k : Nat) (l : List Rw), l.length ≤ k → (∀ r ∈ l, r.1.size ≤ 30 ∧ r.2.length ≤ 150 ∧ rsz r ≤ u) →
  (groupsL l).all (pageOk n) = true ∧ (l ≠ [] → ((groupsL l).length - 1) * m < l.length)
 | k, l, hk, h => by
  have hf : min m l.length ≤ fitN l := fitF_many l m 250 h hu
  have hfl := fitN_le l
  have hok := ok_fit (lev := (n : Int)) (by omega) (by omega) l
  have hg : gsize l = fitN l := by unfold gsize; omega
  by_cases he : l.length ≤ gsize l
  ·rw [groupsL_end he, hg]
   exact ⟨by simp [hok], fun hl => by have := List.length_pos_iff.2 hl; simpa using this⟩
  ·have hpos := gsize_pos (l := l) (fun e => by subst e; simp at he)
   obtain ⟨k', rfl⟩ : ∃ k', k = k' + 1 := ⟨k - 1, by omega⟩
   obtain ⟨h1, h2⟩ := groups_few hn hm hu k' (l.drop (gsize l)) (by rw [List.length_drop]; omega) (fun r hr => h r (List.mem_of_mem_drop hr))
   rw [groupsL_more he]
   refine ⟨by rw [List.all_cons, h1, hg, hok]; rfl, fun _ => ?_⟩
   have h3 := h2 (fun e => by have := congrArg List.length e; rw [List.length_drop, List.length_nil] at this; omega)
   rw [List.length_drop] at h3
   have h4 := groups_pos (l.drop (gsize l))
   simp only [List.length_cons, Nat.add_sub_cancel]
   obtain ⟨g, hgg⟩ : ∃ g, (groupsL (l.drop (gsize l))).length = g + 1 := ⟨(groupsL (l.drop (gsize l))).length - 1, by omega⟩
   rw [hgg, Nat.add_sub_cancel] at h3
   rw [hgg, Nat.succ_mul]
   omega
theorem rsz_le {r : Rw} {a b : Nat} (hk : r.1.size ≤ 30) (hv : r.2.length ≤ a) (hb : (numL r.2.length).length ≤ b) : rsz r ≤ 1 + (1 + 30 + (b + a)) := by
 have hs : r.1.data.toList.length = r.1.size := by rw [Array.length_toList]; rfl
 have h1 := numL_len 0 r.1.data.toList.length (by omega)
 unfold rsz rowB rowL textL
 simp only [List.length_append]
 omega
theorem build_next {f n : Nat} {all : List (List UInt8)} {l : List Rw} (hn : n ≤ 4) (ho : (groupsL l).all (pageOk n) = true) :
  buildF (f + 1) n all l = if (groupsL l).length = 1 then some (all ++ pagesF n (groupsL l)) else buildF f (n + 1) (all ++ pagesF n (groupsL l)) (aboveF all.length (groupsL l)) := by
 rw [build_step, level_groups hn, if_pos ho]
 simp only [pages_len]
theorem above_short {fr : Nat} {l : List Rw} (hl : l ≠ []) (h : ∀ r ∈ l, r.1.size ≤ 2) (hfr : fr + (groupsL l).length ≤ 128) : ∀ r ∈ aboveF fr (groupsL l), r.1.size ≤ 2 ∧ r.2.length ≤ 1 ∧ rsz r ≤ 6 := by
 intro r hr
 obtain ⟨j, hj, rfl⟩ := List.getElem_of_mem hr
 rw [above_len] at hj
 have h1 := above_get (fr := fr) hj
 rw [List.getElem?_eq_getElem (by rw [above_len]; exact hj)] at h1
 injection h1 with h1
 rw [h1]
 have hc := List.length_pos_iff.2 (groups_ne hl _ (List.getElem_mem hj))
 have hk : (headKey (groupsL l)[j]).size ≤ 2 := by
  rw [head_key hc]
  have hm : (groupsL l)[j][0] ∈ (groupsL l).flatten := List.mem_flatten.2 ⟨_, List.getElem_mem hj, List.getElem_mem hc⟩
  rw [groups_flatten] at hm
  exact h _ hm
 have hn : (numL (fr + j)).length ≤ 1 := numL_len 0 _ (by omega)
 have hn2 := numL_len 0 (numL (fr + j)).length (by omega)
 refine ⟨hk, hn, ?_⟩
 have hs : (headKey (groupsL l)[j]).data.toList.length = (headKey (groupsL l)[j]).size := by rw [Array.length_toList]; rfl
 have h3 := numL_len 0 (headKey (groupsL l)[j]).data.toList.length (by omega)
 unfold rsz rowB rowL textL
 simp only [List.length_append]
 omega
def pgs (l : List Rw) : Nat := if (groupsL l).length = 1 then 1 else (groupsL l).length + 1
theorem build_two {l : List Rw} (hs : Sorted l) (hn : l.length ≤ 40) (hr : ∀ r ∈ l, r.1.size ≤ 2 ∧ r.2.length ≤ 150) : ∃ ps, buildL l = some ps ∧ ps.length = pgs l ∧ (groupsL l).length ≤ max 1 l.length := by
 have hb : buildL l = buildF 5 0 [] l := by
  unfold buildL
  rw [if_neg]
  rw [(sorted_rising l).2 hs]
  simp
  omega
 rw [hb]
 have hr0 : ∀ r ∈ l, r.1.size ≤ 30 ∧ r.2.length ≤ 150 ∧ rsz r ≤ 184 := by
  intro r h
  obtain ⟨h1, h2⟩ := hr r h
  have := rsz_le (r := r) (a := 150) (b := 2) (by omega) h2 (numL_len 1 _ (by omega))
  exact ⟨by omega, h2, by omega⟩
 obtain ⟨o0, c0⟩ := groups_few (n := 0) (u := 184) (m := 1) (by omega) (by omega) (by omega) _ l (Nat.le_refl _) hr0
 have p0 := groups_pos l
 unfold pgs
 rw [build_next (by omega) o0]
 by_cases e0 : (groupsL l).length = 1
 ·rw [if_pos e0, if_pos e0]
  exact ⟨_, rfl, by simp [pages_len, e0], by omega⟩
 rw [if_neg e0, if_neg e0]
 have hl : l ≠ [] := fun e => e0 (by rw [e]; rfl)
 have c0' := c0 hl
 generalize hg0 : groupsL l = g0 at *
 have k1 : ∀ r ∈ aboveF 0 g0, r.1.size ≤ 2 ∧ r.2.length ≤ 1 ∧ rsz r ≤ 6 := by rw [← hg0]; exact above_short hl (fun r h => (hr r h).1) (by rw [hg0]; omega)
 have hl1 : aboveF 0 g0 ≠ [] := fun e => by have := congrArg List.length e; rw [above_len, List.length_nil] at this; omega
 obtain ⟨o1, c1⟩ := groups_few (n := 1) (u := 6) (m := 41) (by omega) (by omega) (by omega) _ (aboveF 0 g0) (Nat.le_refl _) (fun r h => ⟨by have := (k1 r h).1; omega, by have := (k1 r h).2.1; omega, (k1 r h).2.2⟩)
 have c1' := c1 hl1
 rw [above_len] at c1'
 have p1 := groups_pos (aboveF 0 g0)
 rw [show aboveF ([] : List (List UInt8)).length g0 = aboveF 0 g0 from rfl, build_next (by omega) o1]
 rw [if_pos (by omega)]
 exact ⟨_, rfl, by simp [pages_len]; omega, by omega⟩
theorem fitF_same {u : Nat} (hu : 1 ≤ u) : ∀ (l : List Rw) (left : Nat), (∀ r ∈ l, r.1.size ≤ 30 ∧ r.2.length ≤ 150 ∧ rsz r = u) → fitF l left = min (left / u) l.length
 | [], left, _ => by simp [fitF]
 | r :: rs, left, h => by
  obtain ⟨h1, h2, h3⟩ := h r List.mem_cons_self
  unfold fitF
  rw [if_neg (by omega), h3]
  by_cases hlt : left < u
  ·rw [if_pos hlt, Nat.div_eq_of_lt hlt]
   simp
  ·rw [if_neg hlt, fitF_same hu rs (left - u) (fun x hx => h x (List.mem_cons_of_mem _ hx))]
   have : left / u = (left - u) / u + 1 := by
    rw [Nat.div_eq_sub_div hu (by omega)]
   rw [this, List.length_cons]
   omega
def gN (c : Nat) : Nat → Nat → Nat
 | 0, _ => 1
 | f + 1, n => if n ≤ c then 1 else 1 + gN c f (n - c)
theorem gN_mono (c : Nat) : ∀ (f g n m : Nat), n ≤ m → n ≤ f → m ≤ g → 1 ≤ c → gN c f n ≤ gN c g m
 | 0, g, n, m, _, _, _, _ => by
  have : 1 ≤ gN c g m := by
   cases g with
   | zero => exact Nat.le_refl _
   | succ g => unfold gN; split <;> omega
  exact this
 | f + 1, 0, n, m, h, _, hg, _ => by
  have : n = 0 := by omega
  subst this
  unfold gN
  rw [if_pos (Nat.zero_le _)]
  exact Nat.le_refl _
 | f + 1, g + 1, n, m, h, hf, hg, hc => by
  unfold gN
  by_cases h1 : n ≤ c
  ·rw [if_pos h1]
   split <;> omega
  ·rw [if_neg h1, if_neg (by omega)]
   have := gN_mono c f g (n - c) (m - c) (by omega) (by omega) (by omega) hc
   omega
theorem groups_same {u : Nat} (hu : 1 ≤ u) (hu2 : u ≤ 250) : ∀ (k : Nat) (l : List Rw), l.length ≤ k → (∀ r ∈ l, r.1.size ≤ 30 ∧ r.2.length ≤ 150 ∧ rsz r = u) → (groupsL l).length = gN (250 / u) k l.length
 | k, l, hk, h => by
  have hc : 1 ≤ 250 / u := by rw [Nat.le_div_iff_mul_le (by omega)]; omega
  have hf : fitN l = min (250 / u) l.length := fitF_same hu l 250 h
  have hg : gsize l = min (250 / u) l.length := by unfold gsize; rw [hf]; omega
  cases k with
  | zero =>
   have : l = [] := List.eq_nil_of_length_eq_zero (by omega)
   subst this
   rw [groups_nil]
   rfl
  | succ k =>
   unfold gN
   by_cases he : l.length ≤ 250 / u
   ·rw [if_pos he, groupsL_end (by omega)]
    rfl
   ·rw [if_neg he, groupsL_more (by omega), List.length_cons, groups_same hu hu2 k (l.drop (gsize l)) (by rw [List.length_drop]; omega) (fun r hr => h r (List.mem_of_mem_drop hr)), List.length_drop, hg, show min (250 / u) l.length = 250 / u by omega]
    omega
theorem pgs_less {u : Nat} (hu : 1 ≤ u) (hu2 : u ≤ 250) {l l' : List Rw} (hl : l'.length ≤ l.length) (h : ∀ r ∈ l, r.1.size ≤ 30 ∧ r.2.length ≤ 150 ∧ rsz r = u) (h' : ∀ r ∈ l', r.1.size ≤ 30 ∧ r.2.length ≤ 150 ∧ rsz r = u) : pgs l' ≤ pgs l := by
 have hc : 1 ≤ 250 / u := by rw [Nat.le_div_iff_mul_le (by omega)]; omega
 have e1 := groups_same hu hu2 l.length l (Nat.le_refl _) h
 have e2 := groups_same hu hu2 l'.length l' (Nat.le_refl _) h'
 have hm := gN_mono (250 / u) l'.length l.length l'.length l.length hl (Nat.le_refl _) (Nat.le_refl _) hc
 rw [← e1, ← e2] at hm
 have q1 := groups_pos l
 have q2 := groups_pos l'
 unfold pgs
 split
 ·split <;> omega
 ·split <;> omega
end Go.Pg
