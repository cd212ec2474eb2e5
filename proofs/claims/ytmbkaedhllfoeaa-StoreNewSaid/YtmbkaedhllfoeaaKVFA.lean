/-
 The walk of StoreNew: it answers true of any number and choices.
-/
import Derived.Test.YtmbkaedhllfoeaaKVA
import Derived.Test.YtmbkaedhllfoeaaKVB
import Derived.Test.YtmbkaedhllfoeaaKVEJ
set_option linter.unusedVariables false
namespace Go.Proofs.Ytmbkaedhllfoeaa
open Go.RowKit Go.Rst Go.Dv Go.Crc Go.Str Go.Pg
def HKK (wr w8 : World) (gk : Option Nat) (W : World) : Prop := Below wr.heap.size wr W ∧ w8.heap.size ≤ W.heap.size ∧ ∀ k, gk = some k → k < w8.heap.size ∧ W.heap[k]? = w8.heap[k]?
theorem HKK.none_ {wr W : World} (h : Below wr.heap.size wr W) : HKK wr wr none W := ⟨h, h.size, fun k hk => by cases hk⟩
theorem HKK.weak {wr w8 W : World} {g : Option Nat} (h : HKK wr w8 g W) : HKK wr wr none W := HKK.none_ h.1
theorem HKK.key {wr w0 w8 W : World} {g : Option Nat} {gk : Nat} (h : HKK wr w0 g W) (hb : Below W.heap.size W w8) (hl : gk < w8.heap.size) : HKK wr w8 (some gk) w8 := ⟨h.1.trans (hb.mono h.1.size), Nat.le_refl _, fun k hk => by injection hk with hk; subst hk; exact ⟨hl, rfl⟩⟩
theorem HKK.step {wr w8 W W' : World} {g : Option Nat} (h : HKK wr w8 g W) (hb : Below W.heap.size W W') : HKK wr w8 g W' := ⟨h.1.trans (hb.mono h.1.size), Nat.le_trans h.2.1 hb.size, fun k hk => ⟨(h.2.2 k hk).1, (hb.block k (Nat.lt_of_lt_of_le (h.2.2 k hk).1 h.2.1)).trans (h.2.2 k hk).2⟩⟩
theorem fr_3x {D : Nat → Prop} {a w : World} (h : Fr D a w) {g : Nat} (hg : D g ∨ a.heap.size ≤ g) (v0 v1 v2 : Value) : Fr D a (((w.setCell ⟨g, 0, none⟩ v0).setCell ⟨g, 1, none⟩ v1).setCell ⟨g, 2, none⟩ v2) :=
 ((h.setCell (p := ⟨g, 0, none⟩) hg v0).setCell (p := ⟨g, 1, none⟩) hg v1).setCell (p := ⟨g, 2, none⟩) hg v2
theorem blk_3x {w : World} {g : Nat} {t : TypeId} {z0 z1 z2 : Value} (h : Blk w g t #[z0, z1, z2]) (v0 v1 v2 : Value) :
  Blk (((w.setCell ⟨g, 0, none⟩ v0).setCell ⟨g, 1, none⟩ v1).setCell ⟨g, 2, none⟩ v2) g t #[v0, v1, v2] := ((h.set_ 0 v0).set_ 1 v1).set_ 2 v2
theorem gen_3x {K : World → Prop} {w : World} {g : Nat} {v0 v1 v2 : Value} (h : ∀ w', w' = (((w.setCell ⟨g, 0, none⟩ v0).setCell ⟨g, 1, none⟩ v1).setCell ⟨g, 2, none⟩ v2) → K w') :
  K (((w.setCell ⟨g, 0, none⟩ v0).setCell ⟨g, 1, none⟩ v1).setCell ⟨g, 2, none⟩ v2) := h _ rfl
theorem HKK.box {wr w8 W : World} {gk gb : Nat} (h : HKK wr w8 (some gk) W) (hb : wr.heap.size ≤ gb) (hne : gk ≠ gb) (v0 v1 v2 : Value) : HKK wr w8 (some gk) (((W.setCell ⟨gb, 0, none⟩ v0).setCell ⟨gb, 1, none⟩ v1).setCell ⟨gb, 2, none⟩ v2) := by
 have hf := fr_3x (Fr.refl (fun k => k = gb) W) (.inl rfl) v0 v1 v2
 have hl := (h.2.2 gk rfl).1
 refine ⟨h.1.trans (hf.below (fun k hk => hk ▸ hb) h.1.size), Nat.le_trans h.2.1 hf.size, fun k hk => ?_⟩
 injection hk with hk
 subst hk
 exact ⟨hl, (hf.block _ (Nat.lt_of_lt_of_le hl h.2.1) hne).trans (h.2.2 _ rfl).2⟩
theorem fb_lt {w : World} {B g n c : Nat} {l : List UInt8} (h : FB 5 w B (.slice (some ⟨g, 0, none⟩) n c) l) : g < w.heap.size := by
 rcases h with ⟨e1, _⟩ | ⟨g2, c2, cur, fr, e1, e2, e3, _⟩
 ·cases e1
 ·injection e1 with e1
  injection e1 with e1
  injection e1 with e1
  subst e1
  exact (Array.getElem?_eq_some_iff.1 e3).1
structure NwI (j : Nat) (x : Ss) (cs : List Chg) : Prop where
 few : FewI 1000 j x
 ep : x.ep ≤ 2 + 2 * j
 rows : x.rows = applyL [] cs
 len : cs.length = j
 short : ∀ c ∈ cs, c.1.size ≤ 2 ∧ c.2.1.length ≤ 2 ∧ (c.2.2 = true → c.2.1 = [])
theorem NwI.put {j : Nat} {x : Ss} {cs : List Chg} (h : NwI j x cs) (hj : j < 40) (c : Nat) {v : List UInt8} {g : Bool} (hv : v.length ≤ 2) (hg : g = true → v = []) :
  (commitR x [(key16 c, v, g)]).2 = 0 ∧ NwI (j + 1) (commitR x [(key16 c, v, g)]).1 (cs ++ [(key16 c, v, g)]) ∧ (commitR x [(key16 c, v, g)]).1.ep ≤ 3 + 2 * j := by
 have ha : aN 1000 = 93 := by decide
 obtain ⟨p1, p2, p3, p4⟩ := h.few.put hj (by omega) (by have := h.ep; omega) c (v := v) (g := g) (by omega) hg
 refine ⟨p1, ⟨p3, by have := h.ep; omega, ?_, by rw [List.length_append, h.len]; rfl, fun d hd => ?_⟩, by have := h.ep; omega⟩
 ·rw [p2, h.rows, applyL_snoc]
 ·rcases List.mem_append.1 hd with hd | hd
  ·exact h.short d hd
  ·simp only [List.mem_singleton] at hd
   subst hd
   exact ⟨by show (key16 c).size ≤ 2; rw [key16_size]; omega, hv, hg⟩
theorem NwI.ck {j : Nat} {x : Ss} {cs : List Chg} (h : NwI (j + 1) x cs) (he : x.ep ≤ 3 + 2 * j) (hj : j < 40) : NwI (j + 1) (ckS x) cs := by
 obtain ⟨c1, _, _⟩ := ck_step h.few.inv.good (fun hg => h.few.inv.fnd hg) (by omega)
 exact ⟨⟨c1, (ck_n x).trans h.few.n, layS_fuse h.few.fu _ _ _, h.few.few, h.few.len⟩, by show x.ep + 1 ≤ _; omega, h.rows, h.len, h.short⟩
set_option maxRecDepth 100000 in
set_option maxHeartbeats 20000000 in
theorem new_walk (k : Nat) (cv : Value) (l : List UInt8) (w : World) (hk : k ≤ 255) (hc : RB w cv l) (hcl : l.length ≤ 140737488351232) :
  Calls Try.prog 5 #[.int .u8 (k : Int), cv] w fun e w' => e = .returned (.bool true) ∧ Below w.heap.size w w' := by
 obtain ⟨A, c, rfl⟩ := rb_shape hc
 have HKN := Lib.hid knownS_any
 have HC := Lib.hid hc
 have HN0 := Lib.hid (show DevI 1000 (Sim.new 1000) from ⟨OK.new (by omega), rfl, rfl, new_firm _⟩)
 clear hc
 go_enter Try.func5, Try.ntmps5
 go_wp2_with fail
 go_at_call 6
 refine (own_new (B := w.heap.size) 1000 w (by omega) (Nat.le_refl _)).mono ?_
 rintro e w1 ⟨da, rfl, hown1, hb1⟩
 have HA1 := Lib.hid hown1
 have HB1 := Lib.hid hb1
 have HNEW := Lib.hid (own_new (B := w1.heap.size) 1000 w1 (by omega) (Nat.le_refl _))
 clear hown1 hb1
 go_wp2_with fail
 go_at_call 6
 refine HNEW.out.mono ?_
 rintro e w2 ⟨db, rfl, hown2, hb2⟩
 have HT2 := Lib.hid (two_new (Nat.le_refl _) HA1.out HB1.out hown2 hb2)
 have HB2 := Lib.hid (HB1.out.trans (hb2.mono HB1.out.size))
 clear hown2 hb2
 by_cases hl1 : 40 < l.length
 ·have hl2 : (40 : Int) < (l.length : Int) := by omega
  go_wp2_with fail
  go_at_call 8
  refine (HKN.out _).mono ?_
  rintro e wk ⟨rfl, hbk⟩
  have HBK := Lib.hid (HB2.out.trans (hbk.mono HB2.out.size))
  clear hbk
  go_wp2
  go_ret
  exact ⟨rfl, HBK.out⟩
 have hl2 : ¬ (40 : Int) < (l.length : Int) := by omega
 have HL1 := Lib.hid (show l.length ≤ 40 by omega)
 clear hl1
 obtain ⟨o1, o2, o3, o4, o5, o6, o7⟩ := HN0.out.opened (by omega)
 have hst : NwI 0 (openedS (Sim.new 1000)) [] := ⟨⟨o2.inv, o2.n, o2.fu, by rw [o6]; exact (fun r hr => by cases hr), by rw [o6]; exact Nat.le_refl _⟩, by rw [o5]; exact Nat.le_refl _, by rw [o6]; rfl, rfl, fun c hc => by cases hc⟩
 have hy : (openedS (Sim.new 1000)).fr = 0 := rfl
 have HF := Lib.hid (fun X RB hb h => two_formatA (B := w.heap.size) (da := da) (w := X) (s := Sim.new 1000) (RB := RB) hb h (by rw [HN0.out.n]; omega) (by rw [HN0.out.lo]; exact Nat.zero_le _))
 have HF' := Lib.hid (fun X RB hb h => two_formatA (B := w.heap.size) (da := db) (w := X) (s := Sim.new 1000) (RB := RB) hb h (by rw [HN0.out.n]; omega) (by rw [HN0.out.lo]; exact Nat.zero_le _))
 obtain ⟨Q, hQ⟩ : ∃ Q, Q = formatS (Sim.new 1000) := ⟨_, rfl⟩
 obtain ⟨Y, hY⟩ : ∃ Y, Y = openedS (Sim.new 1000) := ⟨_, rfl⟩
 rw [← hQ] at o1 o3 o4 HF HF'
 rw [← hY] at o1 o5 o6 o7 hst hy
 have HO1 := Lib.hid o1
 have HI := Lib.hid hst
 have HO5 := Lib.hid o3
 have HO6 := Lib.hid o4
 have HEP := Lib.hid o5
 have HRW := Lib.hid o6
 have HUS := Lib.hid o7
 have HFR := Lib.hid hy
 clear o1 o2 o3 o4 o5 o6 o7 hQ hY hst hy
 go_wp2_with fail
 go_at_call 7
 refine (HF.out _ _ (ro_dev _ _) HT2.out).mono ?_
 rintro e w3 ⟨rfl, ht3, hb3⟩
 have HT3 := Lib.hid ht3
 have HB3 := Lib.hid (HB2.out.trans hb3)
 clear ht3 hb3
 go_wp2_with fail
 go_at_call 7
 refine (HF'.out _ _ (ro_dev _ _) HT3.out.swap).mono ?_
 rintro e w4 ⟨rfl, ht4, hb4⟩
 have HT4 := Lib.hid ht4
 have HB4 := Lib.hid (HB3.out.trans hb4)
 clear ht4 hb4
 go_wp2_with fail
 go_at_call 9
 refine (two_openA (ro_dev _ _) HT4.out.swap HO6.out HO5.out HO1.out).mono ?_
 rintro e w5 ⟨sv, rfl, ⟨ga, rfl⟩, ht5, hb5⟩
 have HT5 := Lib.hid ht5
 have HB5 := Lib.hid (HB4.out.trans hb5)
 clear ht5 hb5
 go_wp2_with fail
 go_at_call 9
 refine (two_openA (ro_sto _ _ _) HT5.out.swap HO6.out HO5.out HO1.out).mono ?_
 rintro e w6 ⟨tv, rfl, ⟨gb, rfl⟩, ht6, hb6⟩
 have HT6 := Lib.hid (TwoS.start ht6.swap)
 have HB6 := Lib.hid (HB5.out.trans hb6)
 clear ht6 hb6
 go_wp2_with fail
 go_loopw [11, 12] (fun va q wr => ∃ (j : Nat) (x : Ss) (cs : List Chg), j ≤ l.length ∧ q = .int .i64 j ∧ NwI j x cs ∧ TwoS w.heap.size da db wr (.pointer (some ⟨ga, 0, none⟩)) (.pointer (some ⟨gb, 0, none⟩)) va x Y cs ∧ Below w.heap.size w wr) (fun _ q _ => l.length - (intOf q).toNat)
 case atStart => exact ⟨0, Y, [], Nat.zero_le _, rfl, HI.out, HT6.out, HB6.out⟩
 case round =>
  obtain ⟨j, x, cs, hj, rfl, hni, hts, hbx⟩ := hrel
  obtain ⟨Ava, cva, hva, _⟩ := rc_shape hts.rc
  subst hva
  have HIx := Lib.hid hni
  have HTx := Lib.hid hts
  have HBx := Lib.hid hbx
  clear hni hts hbx
  by_cases hlj : j < l.length
  ·have hlj2 : (j : Int) < (l.length : Int) := by omega
   obtain ⟨b, off, hA, hbs, hcell⟩ := rb_cell HC.out hlj
   subst hA
   have hz255 : l[j].toNat ≤ 255 := by have := UInt8.toNat_lt l[j]; omega
   unfold bv at hcell
   generalize l[j].toNat = z at hcell hz255
   obtain ⟨f, hf⟩ : ∃ f, f = z % 16 := ⟨_, rfl⟩
   obtain ⟨F, hF⟩ : ∃ F, F = 97 + f := ⟨_, rfl⟩
   have m1 : (z : Int).tmod 16 = (f : Int) := by rw [Int.tmod_eq_emod_of_nonneg (by omega)]; omega
   have m2 : IntKind.u8.wrap (f : Int) = (f : Int) := by rw [IntKind.wrap_u8]; omega
   have m3 : IntKind.u8.wrap (97 + (f : Int)) = (F : Int) := by rw [IntKind.wrap_u8]; omega
   have hF255 : F ≤ 255 := by omega
   have hkey : key16 z = ⟨#[UInt8.ofNat F]⟩ := by unfold key16; rw [hF, hf]
   have HKEY := Lib.hid hkey
   have hf16 : f < 16 := by omega
   have hcellr : wr.cell? ⟨b, off + j, none⟩ = some (.int .u8 (z : Int)) := (HBx.out.cell (p := ⟨b, off + j, none⟩) hbs).trans hcell
   have hbr : b < wr.heap.size := Nat.lt_of_lt_of_le hbs HBx.out.size
   have HCR := Lib.hid hcellr
   have HBR := Lib.hid hbr
   clear hf hF hkey hcellr hbr
   go_wp2_with fail
   refine wp_region_held_drew (S := HKK wr wr none) (by kernel_rfl) (HKK.none_ (Below.refl _ _).drew) (fun hHeld => ?_)
   refine wpAnyH_take (i := 0) (oi := { dst := some 62, op := Op.move (Operand.tmp 1), type := 22, pos := "late.go:46", after := #[], guard := none }) (v := ?_) rfl (by kernel_rfl) (by kernel_rfl) (by kernel_rfl) (fun _ _ _ h => h) (Or.inl ⟨by rfl, ?_⟩) (by assumption) ?_
   rotate_left
   ·intro W hSw; go_simp; try (with_reducible rfl)
   try simp only [Act.put, List.setIfInBounds_toArray, List.set_cons_zero, List.set_cons_succ]
   refine wpAnyH_take (i := 1) (oi := { dst := some 63, op := Op.move (Operand.tmp 12), type := 3, pos := "late.go:46", after := #[], guard := none }) (v := ?_) rfl (by kernel_rfl) (by kernel_rfl) (by kernel_rfl) (fun _ _ _ h => h) (Or.inl ⟨by rfl, ?_⟩) (by assumption) ?_
   rotate_left
   ·intro W hSw; go_simp; try (with_reducible rfl)
   try simp only [Act.put, List.setIfInBounds_toArray, List.set_cons_zero, List.set_cons_succ]
   refine wpAnyH_take (i := 2) (oi := { dst := some 64, op := Op.indexAddr 22 (Operand.tmp 62) (Operand.tmp 63), type := 0, pos := "late.go:46", after := #[{ on := 0, ground := Ground.data }, { on := 1, ground := Ground.data }], guard := none }) (v := ?_) rfl (by kernel_rfl) (by kernel_rfl) (by kernel_rfl) (fun _ _ _ h => h) (Or.inl ⟨by rfl, ?_⟩) (by assumption) ?_
   rotate_left
   ·intro W hSw; go_simp; try (with_reducible rfl)
   try simp only [Act.put, List.setIfInBounds_toArray, List.set_cons_zero, List.set_cons_succ]
   refine wpAnyH_take (i := 3) (oi := { dst := some 65, op := Op.load 5 (Operand.tmp 64), type := 5, pos := "late.go:46", after := #[{ on := 2, ground := Ground.data }], guard := none }) (v := ?_) rfl (by kernel_rfl) (by kernel_rfl) (by kernel_rfl) (fun _ _ _ h => h) (Or.inl ⟨by rfl, ?_⟩) (by assumption) ?_
   rotate_left
   ·intro W hSw; have hq := (hSw.1.cell (p := ⟨b, off + j, none⟩) HBR.out).trans HCR.out; go_simp; try (with_reducible rfl)
   try simp only [Act.put, List.setIfInBounds_toArray, List.set_cons_zero, List.set_cons_succ]
   refine wpAnyH_take (i := 4) (oi := { dst := some 66, op := Op.binOp BinOp.rem 5 (Operand.tmp 65) (Operand.const (Value.int IntKind.u8 16)) 5, type := 5, pos := "late.go:46", after := #[{ on := 3, ground := Ground.data }], guard := none }) (v := ?_) rfl (by kernel_rfl) (by kernel_rfl) (by kernel_rfl) (fun _ _ _ h => h) (Or.inl ⟨by rfl, ?_⟩) (by assumption) ?_
   rotate_left
   ·intro W hSw; go_simp; try (with_reducible rfl)
   try simp only [Act.put, List.setIfInBounds_toArray, List.set_cons_zero, List.set_cons_succ]
   refine wpAnyH_take (i := 5) (oi := { dst := some 67, op := Op.binOp BinOp.add 5 (Operand.const (Value.int IntKind.u8 97)) (Operand.tmp 66) 5, type := 5, pos := "late.go:46", after := #[{ on := 4, ground := Ground.data }], guard := none }) (v := ?_) rfl (by kernel_rfl) (by kernel_rfl) (by kernel_rfl) (fun _ _ _ h => h) (Or.inl ⟨by rfl, ?_⟩) (by assumption) ?_
   rotate_left
   ·intro W hSw; go_simp; try (with_reducible rfl)
   try simp only [Act.put, List.setIfInBounds_toArray, List.set_cons_zero, List.set_cons_succ]
   refine wpAnyH_take (i := 8) (oi := { dst := some 70, op := Op.move (Operand.tmp 1), type := 22, pos := "late.go:46", after := #[], guard := none }) (v := ?_) rfl (by kernel_rfl) (by kernel_rfl) (by kernel_rfl) (fun _ _ _ h => h) (Or.inl ⟨by rfl, ?_⟩) (by assumption) ?_
   rotate_left
   ·intro W hSw; go_simp; try (with_reducible rfl)
   try simp only [Act.put, List.setIfInBounds_toArray, List.set_cons_zero, List.set_cons_succ]
   refine wpAnyH_take (i := 9) (oi := { dst := some 71, op := Op.move (Operand.tmp 12), type := 3, pos := "late.go:46", after := #[], guard := none }) (v := ?_) rfl (by kernel_rfl) (by kernel_rfl) (by kernel_rfl) (fun _ _ _ h => h) (Or.inl ⟨by rfl, ?_⟩) (by assumption) ?_
   rotate_left
   ·intro W hSw; go_simp; try (with_reducible rfl)
   try simp only [Act.put, List.setIfInBounds_toArray, List.set_cons_zero, List.set_cons_succ]
   refine wpAnyH_take (i := 10) (oi := { dst := some 72, op := Op.indexAddr 22 (Operand.tmp 70) (Operand.tmp 71), type := 0, pos := "late.go:46", after := #[{ on := 8, ground := Ground.data }, { on := 9, ground := Ground.data }], guard := none }) (v := ?_) rfl (by kernel_rfl) (by kernel_rfl) (by kernel_rfl) (fun _ _ _ h => h) (Or.inl ⟨by rfl, ?_⟩) (by assumption) ?_
   rotate_left
   ·intro W hSw; go_simp; try (with_reducible rfl)
   try simp only [Act.put, List.setIfInBounds_toArray, List.set_cons_zero, List.set_cons_succ]
   refine wpAnyH_take (i := 11) (oi := { dst := some 73, op := Op.load 5 (Operand.tmp 72), type := 5, pos := "late.go:46", after := #[{ on := 10, ground := Ground.data }], guard := none }) (v := ?_) rfl (by kernel_rfl) (by kernel_rfl) (by kernel_rfl) (fun _ _ _ h => h) (Or.inl ⟨by rfl, ?_⟩) (by assumption) ?_
   rotate_left
   ·intro W hSw; have hq := (hSw.1.cell (p := ⟨b, off + j, none⟩) HBR.out).trans HCR.out; go_simp; try (with_reducible rfl)
   try simp only [Act.put, List.setIfInBounds_toArray, List.set_cons_zero, List.set_cons_succ]
   refine wpAnyH_take (i := 12) (oi := { dst := some 74, op := Op.move (Operand.tmp 0), type := 5, pos := "late.go:46", after := #[], guard := none }) (v := ?_) rfl (by kernel_rfl) (by kernel_rfl) (by kernel_rfl) (fun _ _ _ h => h) (Or.inl ⟨by rfl, ?_⟩) (by assumption) ?_
   rotate_left
   ·intro W hSw; go_simp; try (with_reducible rfl)
   try simp only [Act.put, List.setIfInBounds_toArray, List.set_cons_zero, List.set_cons_succ]
   refine wpAnyH_ready (rs := [6, 13, 15]) (by kernel_rfl) (by simp) ?_
   refine AllReadyH.cons (o := { dst := some 68, op := Op.buildSlice 22 1 #[(0, Operand.tmp 67)], type := 22, pos := "late.go:46", after := #[{ on := 5, ground := Ground.data }], guard := none }) rfl (fun K hK => ?_) (AllReadyH.cons (o := { dst := some 75, op := Op.buildSlice 22 2 #[(0, Operand.tmp 73), (1, Operand.tmp 74)], type := 22, pos := "late.go:46", after := #[{ on := 11, ground := Ground.data }, { on := 12, ground := Ground.data }], guard := none }) rfl (fun K hK => ?_) (AllReadyH.cons (o := { dst := some 13, op := Op.alloc 33, type := 0, pos := "late.go:46", after := #[], guard := none }) rfl (fun K hK => ?_) AllReadyH.nil))
   ·go_simp
    first | refine gen_allocD ?_ | refine gen_alloc ?_
    intro w8 hw8 hbw8
    have hcs := hHeld.1.size
    have hblw8 : Below wr.heap.size wr w8 := by first | exact hbw8 | exact below_dl hbw8
    have hk8 := fun hb => fb_one_ (b0 := wr.heap.size) hF255 hb (by first | exact .inl hw8 | exact .inr hw8)
    have hk8 := hk8 (by first | exact hcs | exact Nat.le_refl _)
    have hgklw8 := fb_lt hk8
    clear hw8 hcs
    have hH8 := (HKK.none_ (Below.refl wr.heap.size wr)).key hblw8 hgklw8
    refine hK.out _ _ ?_ (fun _ => ?_)
    ·exact hH8.weak
    clear hK K hHeld
    try simp only [Act.put, List.setIfInBounds_toArray, List.set_cons_zero, List.set_cons_succ]
    have hHeld := hH8
    clear hH8
    refine wpAnyH_more (S' := HKK wr w8 (some (wr.heap.size))) (fun W h => h.weak) _ _ _ _ ?_
    have hk8w := hk8
    refine wpAnyH_take (i := 7) (oi := { dst := some 69, op := Op.convert 22 9 (Operand.tmp 68), type := 9, pos := "late.go:46", after := #[{ on := 6, ground := Ground.data }], guard := none }) (v := ?_) rfl (by kernel_rfl) (by kernel_rfl) (by kernel_rfl) (fun _ _ _ h => h) (Or.inl ⟨by rfl, ?_⟩) (by assumption) ?_
    rotate_left
    ·intro W hSw; have hq := str22 (fb_keep (w' := W) hk8w (fun k hk => by injection hk with hk; subst hk; exact (hSw.2.2 _ rfl).2)).rb; go_simp; try (with_reducible rfl)
    try simp only [Act.put, List.setIfInBounds_toArray, List.set_cons_zero, List.set_cons_succ]
    refine wpAnyH_ready (rs := [13, 15]) (by kernel_rfl) (by simp) ?_
    refine AllReadyH.cons (o := { dst := some 75, op := Op.buildSlice 22 2 #[(0, Operand.tmp 73), (1, Operand.tmp 74)], type := 22, pos := "late.go:46", after := #[{ on := 11, ground := Ground.data }, { on := 12, ground := Ground.data }], guard := none }) rfl (fun K hK => ?_) (AllReadyH.cons (o := { dst := some 13, op := Op.alloc 33, type := 0, pos := "late.go:46", after := #[], guard := none }) rfl (fun K hK => ?_) AllReadyH.nil)
    ·go_simp
     first | refine gen_allocD ?_ | refine gen_alloc ?_
     intro w9 hw9 hbw9
     have hcs := hHeld.1.size
     have hblw9 : Below w8.heap.size w8 w9 := by first | exact hbw9 | exact below_dl hbw9
     have hk8 := hk8.below hblw9
     have hv9 := fun hb => fb_two_ (b0 := wr.heap.size) hz255 hk hb (by first | exact .inl hw9 | exact .inr hw9)
     have hv9 := hv9 (by first | exact hcs | exact Nat.le_refl _)
     have hgklw9 := fb_lt hk8
     have hgvlw9 := fb_lt hv9
     clear hw9 hcs
     have hHeld' := hHeld.step hblw9
     refine hK.out _ _ ?_ (fun _ => ?_)
     ·exact hHeld'
     clear hK K hHeld
     try simp only [Act.put, List.setIfInBounds_toArray, List.set_cons_zero, List.set_cons_succ]
     have hHeld := hHeld'
     clear hHeld'
     refine wpAnyH_take (i := 14) (oi := { dst := some 76, op := Op.build 33 #[(0, Operand.tmp 69), (1, Operand.tmp 75)], type := 33, pos := "late.go:46", after := #[{ on := 7, ground := Ground.data }, { on := 13, ground := Ground.data }], guard := none }) (v := ?_) rfl (by kernel_rfl) (by kernel_rfl) (by kernel_rfl) (fun _ _ _ h => h) (Or.inl ⟨by rfl, ?_⟩) (by assumption) ?_
     rotate_left
     ·intro W hSw; go_simp; try (with_reducible rfl)
     try simp only [Act.put, List.setIfInBounds_toArray, List.set_cons_zero, List.set_cons_succ]
     refine wpAnyH_ready (rs := [15]) (by kernel_rfl) (by simp) ?_
     refine AllReadyH.cons (o := { dst := some 13, op := Op.alloc 33, type := 0, pos := "late.go:46", after := #[], guard := none }) rfl (fun K hK => ?_) AllReadyH.nil
     go_simp
     first | refine gen_allocD ?_ | refine gen_alloc ?_
     intro wb hwb hbwb
     have hcs := hHeld.1.size
     have hblwb : Below w9.heap.size w9 wb := by first | exact hbwb | exact below_dl hbwb
     have hk8 := hk8.below hblwb
     have hv9 := hv9.below hblwb
     have HBX : Hid (Blk wb w9.heap.size 33 #[.string ⟨#[]⟩, .slice none 0 0, .bool false]) := Lib.hid (by rw [hwb]; exact heap_alloc_new _ _)
     have hgbr : wr.heap.size ≤ w9.heap.size := by first | exact hcs | exact Nat.le_refl _
     have hne : wr.heap.size ≠ w9.heap.size := Nat.ne_of_lt hgklw9
     have hnv : w8.heap.size ≠ w9.heap.size := Nat.ne_of_lt hgvlw9
     have hgklwb := fb_lt hk8
     have hgvlwb := fb_lt hv9
     have hgblwb := HBX.out.lt
     clear hwb hcs
     have hHeld' := hHeld.step hblwb
     refine hK.out _ _ ?_ (fun _ => ?_)
     ·exact hHeld'
     clear hK K hHeld
     try simp only [Act.put, List.setIfInBounds_toArray, List.set_cons_zero, List.set_cons_succ]
     have hHeld := hHeld'
     clear hHeld'
     refine wpAnyH_ready (rs := [16]) (by kernel_rfl) (by simp) ?_
     refine AllReadyH.cons (o := { dst := none, op := Op.store 33 (Operand.tmp 13) (Operand.tmp 76), type := 0, pos := "late.go:46", after := #[{ on := 15, ground := Ground.data }, { on := 14, ground := Ground.data }, { on := 0, ground := Ground.phase }, { on := 1, ground := Ground.phase }, { on := 2, ground := Ground.phase }, { on := 3, ground := Ground.phase }, { on := 4, ground := Ground.phase }, { on := 5, ground := Ground.phase }, { on := 6, ground := Ground.phase }, { on := 7, ground := Ground.phase }, { on := 8, ground := Ground.phase }, { on := 9, ground := Ground.phase }, { on := 10, ground := Ground.phase }, { on := 11, ground := Ground.phase }, { on := 12, ground := Ground.phase }, { on := 13, ground := Ground.phase }, { on := 14, ground := Ground.phase }, { on := 15, ground := Ground.phase }], guard := none }) rfl (fun K hK => ?_) AllReadyH.nil
     have z0 := HBX.out.cell 0
     have z1 := HBX.out.cell 1
     have z2 := HBX.out.cell 2
     have zf := HBX.out.frozen
     have zl := HBX.out.lt
     go_simp
     have hHeld' := hHeld.box (gb := w9.heap.size) hgbr hne (.string ⟨#[UInt8.ofNat F]⟩) (.slice (some ⟨w8.heap.size, 0, none⟩) 2 2) (.bool false)
     refine hK.out _ _ ?_ (fun _ => ?_)
     ·exact hHeld'
     clear hK K hHeld
     have hHeld := hHeld'
     clear hHeld' z0 z1 z2 zf zl
     try simp only [Act.put, List.setIfInBounds_toArray, List.set_cons_zero, List.set_cons_succ]
     refine wpAnyH_done (by kernel_rfl) ?_ _
     refine gen_3x ?_
     intro wf hwf
     have hff : Fr (fun k => k = w9.heap.size) wb wf := by rw [hwf]; exact fr_3x (D := fun k => k = w9.heap.size) (Fr.refl _ _) (.inl rfl) _ _ _
     have HBf := Lib.hid ((show Below wr.heap.size wr wf by rw [hwf]; exact hHeld.1))
     have HXf : Hid (Blk wf w9.heap.size 33 #[.string ⟨#[UInt8.ofNat F]⟩, .slice (some ⟨w8.heap.size, 0, none⟩) 2 2, .bool false]) := Lib.hid (by rw [hwf]; exact blk_3x HBX.out _ _ _)
     have HVf := Lib.hid (fb_keep (w' := wf) hv9 (fun k hk => by injection hk with hk; subst hk; exact hff.block _ (fb_lt hv9) hnv))
     have HGB := Lib.hid hgbr
     clear hwf hff hHeld HBX hk8 hv9 hk8w hne hnv
     clear hgbr
     have hcf := (HBf.out.cell (p := ⟨b, off + j, none⟩) HBR.out).trans HCR.out
     have HZ := Lib.hid hz255
     by_cases hz2 : 200 < z
     ·have hz3 : (200 : Int) < (z : Int) := by omega
      have y0 := HXf.out.cell 0
      have y1 := HXf.out.cell 1
      have y2 := HXf.out.cell 2
      have yf := HXf.out.frozen
      have yl := HXf.out.lt
      have hfg := fr_3x (D := fun k => k = w9.heap.size) (Fr.refl _ wf) (.inl rfl) (.string ⟨#[UInt8.ofNat F]⟩) (.slice none 0 0) (.bool true)
      have HBg := Lib.hid (HBf.out.trans (hfg.below (fun k hk => hk ▸ HGB.out) HBf.out.size))
      have HXg := Lib.hid (blk_3x HXf.out (.string ⟨#[UInt8.ofNat F]⟩) (.slice none 0 0) (.bool true))
      have HVg := Lib.hid (show FB 5 (((wf.setCell ⟨w9.heap.size, 0, none⟩ (.string ⟨#[UInt8.ofNat F]⟩)).setCell ⟨w9.heap.size, 1, none⟩ (.slice none 0 0)).setCell ⟨w9.heap.size, 2, none⟩ (.bool true)) wr.heap.size (.slice none 0 0) [] from .inl ⟨rfl, rfl⟩)
      clear hfg
      have hkey := HKEY.out
      obtain ⟨us, hul, hrow, hgrow⟩ := HTx.out.grow
      have hbA := HBg.out.alloc HBg.out.size (Obj.cells #[.string ⟨#[UInt8.ofNat F]⟩, .slice none 0 0, .bool true] 33)
      have ho := own_below hrow hbA
      skip
      have hlen : cs.length < 40 := by have := HIx.out.len; have := HL1.out; omega
      have hjl := HL1.out
      have hbw := HTx.out.size
      have HGROW := Lib.hid hgrow
      have HROW := Lib.hid hrow
      have HUL := Lib.hid hul
      clear hgrow
      go_wp2_with (at_builtin; refine wpList_own3 rfl (.tmp 85) (.tmp 87) 34 34 rfl w.heap.size 33 (.agg #[.string ⟨#[]⟩, .slice none 0 0, .bool false]) 3 48 Try.underlying34 info33 rfl rfl ho rfl (src_three _ (by simp) Try.underlying34 33 _ _ _ rfl rfl rfl) ?_ ?_ ?_ ?_)
      ·unfold maxLen; omega
      ·omega
      ·have hss := HBg.out.size
       first | exact Nat.le_trans hbw hbA.size | (simp; omega)
      intro v' wp ho' hg hn
      have hup := HGROW.out _ wp v' (.slice none 0 0) ⟨#[UInt8.ofNat F]⟩ ([]) true hbA (HVg.out.below ((Below.refl _ _).alloc (Nat.le_refl _) _)) (by rw [hul]; exact ho') hg (hn.imp id (fun h => h.trans (by simp)))
      have hxw := HXg.out.alloc (Obj.cells #[.string ⟨#[UInt8.ofNat F]⟩, .slice none 0 0, .bool true] 33)
      have hxp : Blk wp w9.heap.size 33 #[.string ⟨#[UInt8.ofNat F]⟩, .slice none 0 0, .bool true] := (hg.block w9.heap.size (Blk.lt hxw) (fun he => Nat.lt_irrefl _ (Nat.lt_of_lt_of_le (HROW.out.lt _ he.symm).2 HGB.out))).trans hxw
      have hbp := (HBx.out.trans (hbA.mono HBx.out.size)).grown hg (Nat.le_trans HBx.out.size hbA.size) (fun k hk => (HROW.out.lt k hk).1)
      obtain ⟨p1, p2, p3⟩ := HIx.out.put (by omega) z (v := []) (g := true) (by simp) (fun _ => rfl)
      rw [hkey] at p1 p2 p3
      have hlit := two_lit (k := ⟨#[UInt8.ofNat F]⟩) hup HIx.out.few.inv.good (by rw [← hkey]; exact one_sizes z (by simp) true) rfl
      obtain ⟨R, hR⟩ : ∃ R, R = commitR x [((⟨#[UInt8.ofNat F]⟩ : ByteArray), [], true)] := ⟨_, rfl⟩
      rw [← hR] at p1 p2 p3 hlit
      rw [p1] at hlit
      obtain ⟨cn, hcn⟩ : ∃ cn, cn = cs ++ [((⟨#[UInt8.ofNat F]⟩ : ByteArray), [], true)] := ⟨_, rfl⟩
      rw [← hcn] at p2 hlit
      have HLIT := Lib.hid hlit
      have HN := Lib.hid p2
      have HE3 := Lib.hid p3
      have HXP := Lib.hid hxp
      have HBP := Lib.hid hbp
      clear ho' hg hn hup hxw hxp hbp p1 p2 p3 hR hlit hcn hbA ho hkey hlen hul y0 y1 y2
      have y0 := HXP.out.cell 0
      have y1 := HXP.out.cell 1
      have y2 := HXP.out.cell 2
      go_wp2_with fail
      go_at_call 12
      refine HLIT.out.mono ?_
      rintro e wq ⟨rfl, htq, hbq⟩
      have HTQ := Lib.hid htq
      have HBQ := Lib.hid ((HBP.out.alloc HBP.out.size _).trans hbq)
      clear htq hbq y0 y1 y2
      have hcq := (HBQ.out.cell (p := ⟨b, off + j, none⟩) hbs).trans hcell
      obtain ⟨e8, he8⟩ : ∃ e8, e8 = z % 8 := ⟨_, rfl⟩
      have m8 : (z : Int).tmod 8 = (e8 : Int) := by rw [Int.tmod_eq_emod_of_nonneg (by omega)]; omega
      have hl8 : e8 < 8 := by omega
      clear he8
      by_cases h8 : e8 = 0
      ·subst h8
       have HCK := Lib.hid (two_ck HTQ.out HN.out.few.inv.good (by have := HE3.out; have := HL1.out; omega))
       go_wp2_with fail
       go_at_call 15
       refine HCK.out.mono ?_
       rintro e wv ⟨rfl, htv, hbv⟩
       have HTV := Lib.hid htv
       have HBV := Lib.hid (HBQ.out.trans hbv)
       clear htv hbv
       go_wp2
       go_roundw
       case rel => exact ⟨j + 1, ckS R.1, cn, by omega, by go_num, HN.out.ck HE3.out (by have := HL1.out; omega), HTV.out, HBV.out⟩
       case measure => simp [intOf]; omega
      ·have h8' : ¬ (e8 : Int) = 0 := by omega
       go_wp2
       go_roundw
       case rel => exact ⟨j + 1, R.1, cn, by omega, by go_num, HN.out, HTQ.out, HBQ.out⟩
       case measure => simp [intOf]; omega
     ·have hz3 : ¬ (200 : Int) < (z : Int) := by omega
      have hkey := HKEY.out
      obtain ⟨us, hul, hrow, hgrow⟩ := HTx.out.grow
      have hbA := HBf.out.alloc HBf.out.size (Obj.cells #[.string ⟨#[UInt8.ofNat F]⟩, .slice (some ⟨w8.heap.size, 0, none⟩) 2 2, .bool false] 33)
      have ho := own_below hrow hbA
      have y0 := HXf.out.cell 0
      have y1 := HXf.out.cell 1
      have y2 := HXf.out.cell 2
      have hlen : cs.length < 40 := by have := HIx.out.len; have := HL1.out; omega
      have hjl := HL1.out
      have hbw := HTx.out.size
      have HGROW := Lib.hid hgrow
      have HROW := Lib.hid hrow
      have HUL := Lib.hid hul
      clear hgrow
      go_wp2_with (at_builtin; refine wpList_own3 rfl (.tmp 85) (.tmp 87) 34 34 rfl w.heap.size 33 (.agg #[.string ⟨#[]⟩, .slice none 0 0, .bool false]) 3 48 Try.underlying34 info33 rfl rfl ho rfl (src_three _ (by simp) Try.underlying34 33 _ _ _ rfl rfl rfl) ?_ ?_ ?_ ?_)
      ·unfold maxLen; omega
      ·omega
      ·have hss := HBf.out.size
       first | exact Nat.le_trans hbw hbA.size | (simp; omega)
      intro v' wp ho' hg hn
      have hup := HGROW.out _ wp v' (.slice (some ⟨w8.heap.size, 0, none⟩) 2 2) ⟨#[UInt8.ofNat F]⟩ ([UInt8.ofNat z, UInt8.ofNat k]) false hbA (HVf.out.below ((Below.refl _ _).alloc (Nat.le_refl _) _)) (by rw [hul]; exact ho') hg (hn.imp id (fun h => h.trans (by simp)))
      have hxw := HXf.out.alloc (Obj.cells #[.string ⟨#[UInt8.ofNat F]⟩, .slice (some ⟨w8.heap.size, 0, none⟩) 2 2, .bool false] 33)
      have hxp : Blk wp w9.heap.size 33 #[.string ⟨#[UInt8.ofNat F]⟩, .slice (some ⟨w8.heap.size, 0, none⟩) 2 2, .bool false] := (hg.block w9.heap.size (Blk.lt hxw) (fun he => Nat.lt_irrefl _ (Nat.lt_of_lt_of_le (HROW.out.lt _ he.symm).2 HGB.out))).trans hxw
      have hbp := (HBx.out.trans (hbA.mono HBx.out.size)).grown hg (Nat.le_trans HBx.out.size hbA.size) (fun k hk => (HROW.out.lt k hk).1)
      obtain ⟨p1, p2, p3⟩ := HIx.out.put (by omega) z (v := [UInt8.ofNat z, UInt8.ofNat k]) (g := false) (by simp) (fun h => by cases h)
      rw [hkey] at p1 p2 p3
      have hlit := two_lit (k := ⟨#[UInt8.ofNat F]⟩) hup HIx.out.few.inv.good (by rw [← hkey]; exact one_sizes z (by simp) false) rfl
      obtain ⟨R, hR⟩ : ∃ R, R = commitR x [((⟨#[UInt8.ofNat F]⟩ : ByteArray), [UInt8.ofNat z, UInt8.ofNat k], false)] := ⟨_, rfl⟩
      rw [← hR] at p1 p2 p3 hlit
      rw [p1] at hlit
      obtain ⟨cn, hcn⟩ : ∃ cn, cn = cs ++ [((⟨#[UInt8.ofNat F]⟩ : ByteArray), [UInt8.ofNat z, UInt8.ofNat k], false)] := ⟨_, rfl⟩
      rw [← hcn] at p2 hlit
      have HLIT := Lib.hid hlit
      have HN := Lib.hid p2
      have HE3 := Lib.hid p3
      have HXP := Lib.hid hxp
      have HBP := Lib.hid hbp
      clear ho' hg hn hup hxw hxp hbp p1 p2 p3 hR hlit hcn hbA ho hkey hlen hul y0 y1 y2
      have y0 := HXP.out.cell 0
      have y1 := HXP.out.cell 1
      have y2 := HXP.out.cell 2
      go_wp2_with fail
      go_at_call 12
      refine HLIT.out.mono ?_
      rintro e wq ⟨rfl, htq, hbq⟩
      have HTQ := Lib.hid htq
      have HBQ := Lib.hid ((HBP.out.alloc HBP.out.size _).trans hbq)
      clear htq hbq y0 y1 y2
      have hcq := (HBQ.out.cell (p := ⟨b, off + j, none⟩) hbs).trans hcell
      obtain ⟨e8, he8⟩ : ∃ e8, e8 = z % 8 := ⟨_, rfl⟩
      have m8 : (z : Int).tmod 8 = (e8 : Int) := by rw [Int.tmod_eq_emod_of_nonneg (by omega)]; omega
      have hl8 : e8 < 8 := by omega
      clear he8
      by_cases h8 : e8 = 0
      ·subst h8
       have HCK := Lib.hid (two_ck HTQ.out HN.out.few.inv.good (by have := HE3.out; have := HL1.out; omega))
       go_wp2_with fail
       go_at_call 15
       refine HCK.out.mono ?_
       rintro e wv ⟨rfl, htv, hbv⟩
       have HTV := Lib.hid htv
       have HBV := Lib.hid (HBQ.out.trans hbv)
       clear htv hbv
       go_wp2
       go_roundw
       case rel => exact ⟨j + 1, ckS R.1, cn, by omega, by go_num, HN.out.ck HE3.out (by have := HL1.out; omega), HTV.out, HBV.out⟩
       case measure => simp [intOf]; omega
      ·have h8' : ¬ (e8 : Int) = 0 := by omega
       go_wp2
       go_roundw
       case rel => exact ⟨j + 1, R.1, cn, by omega, by go_num, HN.out, HTQ.out, HBQ.out⟩
       case measure => simp [intOf]; omega
    ·go_simp
     first | refine gen_allocD ?_ | refine gen_alloc ?_
     intro wb hwb hbwb
     have hcs := hHeld.1.size
     have hblwb : Below w8.heap.size w8 wb := by first | exact hbwb | exact below_dl hbwb
     have hk8 := hk8.below hblwb
     have HBX : Hid (Blk wb w8.heap.size 33 #[.string ⟨#[]⟩, .slice none 0 0, .bool false]) := Lib.hid (by rw [hwb]; exact heap_alloc_new _ _)
     have hgbr : wr.heap.size ≤ w8.heap.size := by first | exact hcs | exact Nat.le_refl _
     have hne : wr.heap.size ≠ w8.heap.size := Nat.ne_of_lt hgklw8
     have hgklwb := fb_lt hk8
     have hgblwb := HBX.out.lt
     clear hwb hcs
     have hHeld' := hHeld.step hblwb
     refine hK.out _ _ ?_ (fun _ => ?_)
     ·exact hHeld'
     clear hK K hHeld
     try simp only [Act.put, List.setIfInBounds_toArray, List.set_cons_zero, List.set_cons_succ]
     have hHeld := hHeld'
     clear hHeld'
     refine wpAnyH_ready (rs := [13]) (by kernel_rfl) (by simp) ?_
     refine AllReadyH.cons (o := { dst := some 75, op := Op.buildSlice 22 2 #[(0, Operand.tmp 73), (1, Operand.tmp 74)], type := 22, pos := "late.go:46", after := #[{ on := 11, ground := Ground.data }, { on := 12, ground := Ground.data }], guard := none }) rfl (fun K hK => ?_) AllReadyH.nil
     go_simp
     first | refine gen_allocD ?_ | refine gen_alloc ?_
     intro w9 hw9 hbw9
     have hcs := hHeld.1.size
     have hblw9 : Below wb.heap.size wb w9 := by first | exact hbw9 | exact below_dl hbw9
     have hk8 := hk8.below hblw9
     have HBX := Lib.hid (HBX.out.below hblw9 HBX.out.lt)
     have hv9 := fun hb => fb_two_ (b0 := wr.heap.size) hz255 hk hb (by first | exact .inl hw9 | exact .inr hw9)
     have hv9 := hv9 (by first | exact hcs | exact Nat.le_refl _)
     have hnv : wb.heap.size ≠ w8.heap.size := Nat.ne_of_gt hgblwb
     have hgklw9 := fb_lt hk8
     have hgvlw9 := fb_lt hv9
     have hgblw9 := HBX.out.lt
     clear hw9 hcs
     have hHeld' := hHeld.step hblw9
     refine hK.out _ _ ?_ (fun _ => ?_)
     ·exact hHeld'
     clear hK K hHeld
     try simp only [Act.put, List.setIfInBounds_toArray, List.set_cons_zero, List.set_cons_succ]
     have hHeld := hHeld'
     clear hHeld'
     refine wpAnyH_take (i := 14) (oi := { dst := some 76, op := Op.build 33 #[(0, Operand.tmp 69), (1, Operand.tmp 75)], type := 33, pos := "late.go:46", after := #[{ on := 7, ground := Ground.data }, { on := 13, ground := Ground.data }], guard := none }) (v := ?_) rfl (by kernel_rfl) (by kernel_rfl) (by kernel_rfl) (fun _ _ _ h => h) (Or.inl ⟨by rfl, ?_⟩) (by assumption) ?_
     rotate_left
     ·intro W hSw; go_simp; try (with_reducible rfl)
     try simp only [Act.put, List.setIfInBounds_toArray, List.set_cons_zero, List.set_cons_succ]
     refine wpAnyH_ready (rs := [16]) (by kernel_rfl) (by simp) ?_
     refine AllReadyH.cons (o := { dst := none, op := Op.store 33 (Operand.tmp 13) (Operand.tmp 76), type := 0, pos := "late.go:46", after := #[{ on := 15, ground := Ground.data }, { on := 14, ground := Ground.data }, { on := 0, ground := Ground.phase }, { on := 1, ground := Ground.phase }, { on := 2, ground := Ground.phase }, { on := 3, ground := Ground.phase }, { on := 4, ground := Ground.phase }, { on := 5, ground := Ground.phase }, { on := 6, ground := Ground.phase }, { on := 7, ground := Ground.phase }, { on := 8, ground := Ground.phase }, { on := 9, ground := Ground.phase }, { on := 10, ground := Ground.phase }, { on := 11, ground := Ground.phase }, { on := 12, ground := Ground.phase }, { on := 13, ground := Ground.phase }, { on := 14, ground := Ground.phase }, { on := 15, ground := Ground.phase }], guard := none }) rfl (fun K hK => ?_) AllReadyH.nil
     have z0 := HBX.out.cell 0
     have z1 := HBX.out.cell 1
     have z2 := HBX.out.cell 2
     have zf := HBX.out.frozen
     have zl := HBX.out.lt
     go_simp
     have hHeld' := hHeld.box (gb := w8.heap.size) hgbr hne (.string ⟨#[UInt8.ofNat F]⟩) (.slice (some ⟨wb.heap.size, 0, none⟩) 2 2) (.bool false)
     refine hK.out _ _ ?_ (fun _ => ?_)
     ·exact hHeld'
     clear hK K hHeld
     have hHeld := hHeld'
     clear hHeld' z0 z1 z2 zf zl
     try simp only [Act.put, List.setIfInBounds_toArray, List.set_cons_zero, List.set_cons_succ]
     refine wpAnyH_done (by kernel_rfl) ?_ _
     refine gen_3x ?_
     intro wf hwf
     have hff : Fr (fun k => k = w8.heap.size) w9 wf := by rw [hwf]; exact fr_3x (D := fun k => k = w8.heap.size) (Fr.refl _ _) (.inl rfl) _ _ _
     have HBf := Lib.hid ((show Below wr.heap.size wr wf by rw [hwf]; exact hHeld.1))
     have HXf : Hid (Blk wf w8.heap.size 33 #[.string ⟨#[UInt8.ofNat F]⟩, .slice (some ⟨wb.heap.size, 0, none⟩) 2 2, .bool false]) := Lib.hid (by rw [hwf]; exact blk_3x HBX.out _ _ _)
     have HVf := Lib.hid (fb_keep (w' := wf) hv9 (fun k hk => by injection hk with hk; subst hk; exact hff.block _ (fb_lt hv9) hnv))
     have HGB := Lib.hid hgbr
     clear hwf hff hHeld HBX hk8 hv9 hk8w hne hnv
     clear hgbr
     have hcf := (HBf.out.cell (p := ⟨b, off + j, none⟩) HBR.out).trans HCR.out
     have HZ := Lib.hid hz255
     by_cases hz2 : 200 < z
     ·have hz3 : (200 : Int) < (z : Int) := by omega
      have y0 := HXf.out.cell 0
      have y1 := HXf.out.cell 1
      have y2 := HXf.out.cell 2
      have yf := HXf.out.frozen
      have yl := HXf.out.lt
      have hfg := fr_3x (D := fun k => k = w8.heap.size) (Fr.refl _ wf) (.inl rfl) (.string ⟨#[UInt8.ofNat F]⟩) (.slice none 0 0) (.bool true)
      have HBg := Lib.hid (HBf.out.trans (hfg.below (fun k hk => hk ▸ HGB.out) HBf.out.size))
      have HXg := Lib.hid (blk_3x HXf.out (.string ⟨#[UInt8.ofNat F]⟩) (.slice none 0 0) (.bool true))
      have HVg := Lib.hid (show FB 5 (((wf.setCell ⟨w8.heap.size, 0, none⟩ (.string ⟨#[UInt8.ofNat F]⟩)).setCell ⟨w8.heap.size, 1, none⟩ (.slice none 0 0)).setCell ⟨w8.heap.size, 2, none⟩ (.bool true)) wr.heap.size (.slice none 0 0) [] from .inl ⟨rfl, rfl⟩)
      clear hfg
      have hkey := HKEY.out
      obtain ⟨us, hul, hrow, hgrow⟩ := HTx.out.grow
      have hbA := HBg.out.alloc HBg.out.size (Obj.cells #[.string ⟨#[UInt8.ofNat F]⟩, .slice none 0 0, .bool true] 33)
      have ho := own_below hrow hbA
      skip
      have hlen : cs.length < 40 := by have := HIx.out.len; have := HL1.out; omega
      have hjl := HL1.out
      have hbw := HTx.out.size
      have HGROW := Lib.hid hgrow
      have HROW := Lib.hid hrow
      have HUL := Lib.hid hul
      clear hgrow
      go_wp2_with (at_builtin; refine wpList_own3 rfl (.tmp 85) (.tmp 87) 34 34 rfl w.heap.size 33 (.agg #[.string ⟨#[]⟩, .slice none 0 0, .bool false]) 3 48 Try.underlying34 info33 rfl rfl ho rfl (src_three _ (by simp) Try.underlying34 33 _ _ _ rfl rfl rfl) ?_ ?_ ?_ ?_)
      ·unfold maxLen; omega
      ·omega
      ·have hss := HBg.out.size
       first | exact Nat.le_trans hbw hbA.size | (simp; omega)
      intro v' wp ho' hg hn
      have hup := HGROW.out _ wp v' (.slice none 0 0) ⟨#[UInt8.ofNat F]⟩ ([]) true hbA (HVg.out.below ((Below.refl _ _).alloc (Nat.le_refl _) _)) (by rw [hul]; exact ho') hg (hn.imp id (fun h => h.trans (by simp)))
      have hxw := HXg.out.alloc (Obj.cells #[.string ⟨#[UInt8.ofNat F]⟩, .slice none 0 0, .bool true] 33)
      have hxp : Blk wp w8.heap.size 33 #[.string ⟨#[UInt8.ofNat F]⟩, .slice none 0 0, .bool true] := (hg.block w8.heap.size (Blk.lt hxw) (fun he => Nat.lt_irrefl _ (Nat.lt_of_lt_of_le (HROW.out.lt _ he.symm).2 HGB.out))).trans hxw
      have hbp := (HBx.out.trans (hbA.mono HBx.out.size)).grown hg (Nat.le_trans HBx.out.size hbA.size) (fun k hk => (HROW.out.lt k hk).1)
      obtain ⟨p1, p2, p3⟩ := HIx.out.put (by omega) z (v := []) (g := true) (by simp) (fun _ => rfl)
      rw [hkey] at p1 p2 p3
      have hlit := two_lit (k := ⟨#[UInt8.ofNat F]⟩) hup HIx.out.few.inv.good (by rw [← hkey]; exact one_sizes z (by simp) true) rfl
      obtain ⟨R, hR⟩ : ∃ R, R = commitR x [((⟨#[UInt8.ofNat F]⟩ : ByteArray), [], true)] := ⟨_, rfl⟩
      rw [← hR] at p1 p2 p3 hlit
      rw [p1] at hlit
      obtain ⟨cn, hcn⟩ : ∃ cn, cn = cs ++ [((⟨#[UInt8.ofNat F]⟩ : ByteArray), [], true)] := ⟨_, rfl⟩
      rw [← hcn] at p2 hlit
      have HLIT := Lib.hid hlit
      have HN := Lib.hid p2
      have HE3 := Lib.hid p3
      have HXP := Lib.hid hxp
      have HBP := Lib.hid hbp
      clear ho' hg hn hup hxw hxp hbp p1 p2 p3 hR hlit hcn hbA ho hkey hlen hul y0 y1 y2
      have y0 := HXP.out.cell 0
      have y1 := HXP.out.cell 1
      have y2 := HXP.out.cell 2
      go_wp2_with fail
      go_at_call 12
      refine HLIT.out.mono ?_
      rintro e wq ⟨rfl, htq, hbq⟩
      have HTQ := Lib.hid htq
      have HBQ := Lib.hid ((HBP.out.alloc HBP.out.size _).trans hbq)
      clear htq hbq y0 y1 y2
      have hcq := (HBQ.out.cell (p := ⟨b, off + j, none⟩) hbs).trans hcell
      obtain ⟨e8, he8⟩ : ∃ e8, e8 = z % 8 := ⟨_, rfl⟩
      have m8 : (z : Int).tmod 8 = (e8 : Int) := by rw [Int.tmod_eq_emod_of_nonneg (by omega)]; omega
      have hl8 : e8 < 8 := by omega
      clear he8
      by_cases h8 : e8 = 0
      ·subst h8
       have HCK := Lib.hid (two_ck HTQ.out HN.out.few.inv.good (by have := HE3.out; have := HL1.out; omega))
       go_wp2_with fail
       go_at_call 15
       refine HCK.out.mono ?_
       rintro e wv ⟨rfl, htv, hbv⟩
       have HTV := Lib.hid htv
       have HBV := Lib.hid (HBQ.out.trans hbv)
       clear htv hbv
       go_wp2
       go_roundw
       case rel => exact ⟨j + 1, ckS R.1, cn, by omega, by go_num, HN.out.ck HE3.out (by have := HL1.out; omega), HTV.out, HBV.out⟩
       case measure => simp [intOf]; omega
      ·have h8' : ¬ (e8 : Int) = 0 := by omega
       go_wp2
       go_roundw
       case rel => exact ⟨j + 1, R.1, cn, by omega, by go_num, HN.out, HTQ.out, HBQ.out⟩
       case measure => simp [intOf]; omega
     ·have hz3 : ¬ (200 : Int) < (z : Int) := by omega
      have hkey := HKEY.out
      obtain ⟨us, hul, hrow, hgrow⟩ := HTx.out.grow
      have hbA := HBf.out.alloc HBf.out.size (Obj.cells #[.string ⟨#[UInt8.ofNat F]⟩, .slice (some ⟨wb.heap.size, 0, none⟩) 2 2, .bool false] 33)
      have ho := own_below hrow hbA
      have y0 := HXf.out.cell 0
      have y1 := HXf.out.cell 1
      have y2 := HXf.out.cell 2
      have hlen : cs.length < 40 := by have := HIx.out.len; have := HL1.out; omega
      have hjl := HL1.out
      have hbw := HTx.out.size
      have HGROW := Lib.hid hgrow
      have HROW := Lib.hid hrow
      have HUL := Lib.hid hul
      clear hgrow
      go_wp2_with (at_builtin; refine wpList_own3 rfl (.tmp 85) (.tmp 87) 34 34 rfl w.heap.size 33 (.agg #[.string ⟨#[]⟩, .slice none 0 0, .bool false]) 3 48 Try.underlying34 info33 rfl rfl ho rfl (src_three _ (by simp) Try.underlying34 33 _ _ _ rfl rfl rfl) ?_ ?_ ?_ ?_)
      ·unfold maxLen; omega
      ·omega
      ·have hss := HBf.out.size
       first | exact Nat.le_trans hbw hbA.size | (simp; omega)
      intro v' wp ho' hg hn
      have hup := HGROW.out _ wp v' (.slice (some ⟨wb.heap.size, 0, none⟩) 2 2) ⟨#[UInt8.ofNat F]⟩ ([UInt8.ofNat z, UInt8.ofNat k]) false hbA (HVf.out.below ((Below.refl _ _).alloc (Nat.le_refl _) _)) (by rw [hul]; exact ho') hg (hn.imp id (fun h => h.trans (by simp)))
      have hxw := HXf.out.alloc (Obj.cells #[.string ⟨#[UInt8.ofNat F]⟩, .slice (some ⟨wb.heap.size, 0, none⟩) 2 2, .bool false] 33)
      have hxp : Blk wp w8.heap.size 33 #[.string ⟨#[UInt8.ofNat F]⟩, .slice (some ⟨wb.heap.size, 0, none⟩) 2 2, .bool false] := (hg.block w8.heap.size (Blk.lt hxw) (fun he => Nat.lt_irrefl _ (Nat.lt_of_lt_of_le (HROW.out.lt _ he.symm).2 HGB.out))).trans hxw
      have hbp := (HBx.out.trans (hbA.mono HBx.out.size)).grown hg (Nat.le_trans HBx.out.size hbA.size) (fun k hk => (HROW.out.lt k hk).1)
      obtain ⟨p1, p2, p3⟩ := HIx.out.put (by omega) z (v := [UInt8.ofNat z, UInt8.ofNat k]) (g := false) (by simp) (fun h => by cases h)
      rw [hkey] at p1 p2 p3
      have hlit := two_lit (k := ⟨#[UInt8.ofNat F]⟩) hup HIx.out.few.inv.good (by rw [← hkey]; exact one_sizes z (by simp) false) rfl
      obtain ⟨R, hR⟩ : ∃ R, R = commitR x [((⟨#[UInt8.ofNat F]⟩ : ByteArray), [UInt8.ofNat z, UInt8.ofNat k], false)] := ⟨_, rfl⟩
      rw [← hR] at p1 p2 p3 hlit
      rw [p1] at hlit
      obtain ⟨cn, hcn⟩ : ∃ cn, cn = cs ++ [((⟨#[UInt8.ofNat F]⟩ : ByteArray), [UInt8.ofNat z, UInt8.ofNat k], false)] := ⟨_, rfl⟩
      rw [← hcn] at p2 hlit
      have HLIT := Lib.hid hlit
      have HN := Lib.hid p2
      have HE3 := Lib.hid p3
      have HXP := Lib.hid hxp
      have HBP := Lib.hid hbp
      clear ho' hg hn hup hxw hxp hbp p1 p2 p3 hR hlit hcn hbA ho hkey hlen hul y0 y1 y2
      have y0 := HXP.out.cell 0
      have y1 := HXP.out.cell 1
      have y2 := HXP.out.cell 2
      go_wp2_with fail
      go_at_call 12
      refine HLIT.out.mono ?_
      rintro e wq ⟨rfl, htq, hbq⟩
      have HTQ := Lib.hid htq
      have HBQ := Lib.hid ((HBP.out.alloc HBP.out.size _).trans hbq)
      clear htq hbq y0 y1 y2
      have hcq := (HBQ.out.cell (p := ⟨b, off + j, none⟩) hbs).trans hcell
      obtain ⟨e8, he8⟩ : ∃ e8, e8 = z % 8 := ⟨_, rfl⟩
      have m8 : (z : Int).tmod 8 = (e8 : Int) := by rw [Int.tmod_eq_emod_of_nonneg (by omega)]; omega
      have hl8 : e8 < 8 := by omega
      clear he8
      by_cases h8 : e8 = 0
      ·subst h8
       have HCK := Lib.hid (two_ck HTQ.out HN.out.few.inv.good (by have := HE3.out; have := HL1.out; omega))
       go_wp2_with fail
       go_at_call 15
       refine HCK.out.mono ?_
       rintro e wv ⟨rfl, htv, hbv⟩
       have HTV := Lib.hid htv
       have HBV := Lib.hid (HBQ.out.trans hbv)
       clear htv hbv
       go_wp2
       go_roundw
       case rel => exact ⟨j + 1, ckS R.1, cn, by omega, by go_num, HN.out.ck HE3.out (by have := HL1.out; omega), HTV.out, HBV.out⟩
       case measure => simp [intOf]; omega
      ·have h8' : ¬ (e8 : Int) = 0 := by omega
       go_wp2
       go_roundw
       case rel => exact ⟨j + 1, R.1, cn, by omega, by go_num, HN.out, HTQ.out, HBQ.out⟩
       case measure => simp [intOf]; omega
   ·go_simp
    first | refine gen_allocD ?_ | refine gen_alloc ?_
    intro w9 hw9 hbw9
    have hcs := hHeld.1.size
    have hblw9 : Below wr.heap.size wr w9 := by first | exact hbw9 | exact below_dl hbw9
    have hv9 := fun hb => fb_two_ (b0 := wr.heap.size) hz255 hk hb (by first | exact .inl hw9 | exact .inr hw9)
    have hv9 := hv9 (by first | exact hcs | exact Nat.le_refl _)
    have hgvlw9 := fb_lt hv9
    clear hw9 hcs
    have hHeld' := (HKK.none_ (Below.refl wr.heap.size wr)).step hblw9
    refine hK.out _ _ ?_ (fun _ => ?_)
    ·exact hHeld'
    clear hK K hHeld
    try simp only [Act.put, List.setIfInBounds_toArray, List.set_cons_zero, List.set_cons_succ]
    have hHeld := hHeld'
    clear hHeld'
    refine wpAnyH_ready (rs := [6, 15]) (by kernel_rfl) (by simp) ?_
    refine AllReadyH.cons (o := { dst := some 68, op := Op.buildSlice 22 1 #[(0, Operand.tmp 67)], type := 22, pos := "late.go:46", after := #[{ on := 5, ground := Ground.data }], guard := none }) rfl (fun K hK => ?_) (AllReadyH.cons (o := { dst := some 13, op := Op.alloc 33, type := 0, pos := "late.go:46", after := #[], guard := none }) rfl (fun K hK => ?_) AllReadyH.nil)
    ·go_simp
     first | refine gen_allocD ?_ | refine gen_alloc ?_
     intro w8 hw8 hbw8
     have hcs := hHeld.1.size
     have hblw8 : Below w9.heap.size w9 w8 := by first | exact hbw8 | exact below_dl hbw8
     have hv9 := hv9.below hblw8
     have hk8 := fun hb => fb_one_ (b0 := wr.heap.size) hF255 hb (by first | exact .inl hw8 | exact .inr hw8)
     have hk8 := hk8 (by first | exact hcs | exact Nat.le_refl _)
     have hgklw8 := fb_lt hk8
     have hgvlw8 := fb_lt hv9
     clear hw8 hcs
     have hH8 := hHeld.key hblw8 hgklw8
     refine hK.out _ _ ?_ (fun _ => ?_)
     ·exact hH8.weak
     clear hK K hHeld
     try simp only [Act.put, List.setIfInBounds_toArray, List.set_cons_zero, List.set_cons_succ]
     have hHeld := hH8
     clear hH8
     refine wpAnyH_more (S' := HKK wr w8 (some (w9.heap.size))) (fun W h => h.weak) _ _ _ _ ?_
     have hk8w := hk8
     refine wpAnyH_take (i := 7) (oi := { dst := some 69, op := Op.convert 22 9 (Operand.tmp 68), type := 9, pos := "late.go:46", after := #[{ on := 6, ground := Ground.data }], guard := none }) (v := ?_) rfl (by kernel_rfl) (by kernel_rfl) (by kernel_rfl) (fun _ _ _ h => h) (Or.inl ⟨by rfl, ?_⟩) (by assumption) ?_
     rotate_left
     ·intro W hSw; have hq := str22 (fb_keep (w' := W) hk8w (fun k hk => by injection hk with hk; subst hk; exact (hSw.2.2 _ rfl).2)).rb; go_simp; try (with_reducible rfl)
     try simp only [Act.put, List.setIfInBounds_toArray, List.set_cons_zero, List.set_cons_succ]
     refine wpAnyH_take (i := 14) (oi := { dst := some 76, op := Op.build 33 #[(0, Operand.tmp 69), (1, Operand.tmp 75)], type := 33, pos := "late.go:46", after := #[{ on := 7, ground := Ground.data }, { on := 13, ground := Ground.data }], guard := none }) (v := ?_) rfl (by kernel_rfl) (by kernel_rfl) (by kernel_rfl) (fun _ _ _ h => h) (Or.inl ⟨by rfl, ?_⟩) (by assumption) ?_
     rotate_left
     ·intro W hSw; go_simp; try (with_reducible rfl)
     try simp only [Act.put, List.setIfInBounds_toArray, List.set_cons_zero, List.set_cons_succ]
     refine wpAnyH_ready (rs := [15]) (by kernel_rfl) (by simp) ?_
     refine AllReadyH.cons (o := { dst := some 13, op := Op.alloc 33, type := 0, pos := "late.go:46", after := #[], guard := none }) rfl (fun K hK => ?_) AllReadyH.nil
     go_simp
     first | refine gen_allocD ?_ | refine gen_alloc ?_
     intro wb hwb hbwb
     have hcs := hHeld.1.size
     have hblwb : Below w8.heap.size w8 wb := by first | exact hbwb | exact below_dl hbwb
     have hk8 := hk8.below hblwb
     have hv9 := hv9.below hblwb
     have HBX : Hid (Blk wb w8.heap.size 33 #[.string ⟨#[]⟩, .slice none 0 0, .bool false]) := Lib.hid (by rw [hwb]; exact heap_alloc_new _ _)
     have hgbr : wr.heap.size ≤ w8.heap.size := by first | exact hcs | exact Nat.le_refl _
     have hne : w9.heap.size ≠ w8.heap.size := Nat.ne_of_lt hgklw8
     have hnv : wr.heap.size ≠ w8.heap.size := Nat.ne_of_lt hgvlw8
     have hgklwb := fb_lt hk8
     have hgvlwb := fb_lt hv9
     have hgblwb := HBX.out.lt
     clear hwb hcs
     have hHeld' := hHeld.step hblwb
     refine hK.out _ _ ?_ (fun _ => ?_)
     ·exact hHeld'
     clear hK K hHeld
     try simp only [Act.put, List.setIfInBounds_toArray, List.set_cons_zero, List.set_cons_succ]
     have hHeld := hHeld'
     clear hHeld'
     refine wpAnyH_ready (rs := [16]) (by kernel_rfl) (by simp) ?_
     refine AllReadyH.cons (o := { dst := none, op := Op.store 33 (Operand.tmp 13) (Operand.tmp 76), type := 0, pos := "late.go:46", after := #[{ on := 15, ground := Ground.data }, { on := 14, ground := Ground.data }, { on := 0, ground := Ground.phase }, { on := 1, ground := Ground.phase }, { on := 2, ground := Ground.phase }, { on := 3, ground := Ground.phase }, { on := 4, ground := Ground.phase }, { on := 5, ground := Ground.phase }, { on := 6, ground := Ground.phase }, { on := 7, ground := Ground.phase }, { on := 8, ground := Ground.phase }, { on := 9, ground := Ground.phase }, { on := 10, ground := Ground.phase }, { on := 11, ground := Ground.phase }, { on := 12, ground := Ground.phase }, { on := 13, ground := Ground.phase }, { on := 14, ground := Ground.phase }, { on := 15, ground := Ground.phase }], guard := none }) rfl (fun K hK => ?_) AllReadyH.nil
     have z0 := HBX.out.cell 0
     have z1 := HBX.out.cell 1
     have z2 := HBX.out.cell 2
     have zf := HBX.out.frozen
     have zl := HBX.out.lt
     go_simp
     have hHeld' := hHeld.box (gb := w8.heap.size) hgbr hne (.string ⟨#[UInt8.ofNat F]⟩) (.slice (some ⟨wr.heap.size, 0, none⟩) 2 2) (.bool false)
     refine hK.out _ _ ?_ (fun _ => ?_)
     ·exact hHeld'
     clear hK K hHeld
     have hHeld := hHeld'
     clear hHeld' z0 z1 z2 zf zl
     try simp only [Act.put, List.setIfInBounds_toArray, List.set_cons_zero, List.set_cons_succ]
     refine wpAnyH_done (by kernel_rfl) ?_ _
     refine gen_3x ?_
     intro wf hwf
     have hff : Fr (fun k => k = w8.heap.size) wb wf := by rw [hwf]; exact fr_3x (D := fun k => k = w8.heap.size) (Fr.refl _ _) (.inl rfl) _ _ _
     have HBf := Lib.hid ((show Below wr.heap.size wr wf by rw [hwf]; exact hHeld.1))
     have HXf : Hid (Blk wf w8.heap.size 33 #[.string ⟨#[UInt8.ofNat F]⟩, .slice (some ⟨wr.heap.size, 0, none⟩) 2 2, .bool false]) := Lib.hid (by rw [hwf]; exact blk_3x HBX.out _ _ _)
     have HVf := Lib.hid (fb_keep (w' := wf) hv9 (fun k hk => by injection hk with hk; subst hk; exact hff.block _ (fb_lt hv9) hnv))
     have HGB := Lib.hid hgbr
     clear hwf hff hHeld HBX hk8 hv9 hk8w hne hnv
     clear hgbr
     have hcf := (HBf.out.cell (p := ⟨b, off + j, none⟩) HBR.out).trans HCR.out
     have HZ := Lib.hid hz255
     by_cases hz2 : 200 < z
     ·have hz3 : (200 : Int) < (z : Int) := by omega
      have y0 := HXf.out.cell 0
      have y1 := HXf.out.cell 1
      have y2 := HXf.out.cell 2
      have yf := HXf.out.frozen
      have yl := HXf.out.lt
      have hfg := fr_3x (D := fun k => k = w8.heap.size) (Fr.refl _ wf) (.inl rfl) (.string ⟨#[UInt8.ofNat F]⟩) (.slice none 0 0) (.bool true)
      have HBg := Lib.hid (HBf.out.trans (hfg.below (fun k hk => hk ▸ HGB.out) HBf.out.size))
      have HXg := Lib.hid (blk_3x HXf.out (.string ⟨#[UInt8.ofNat F]⟩) (.slice none 0 0) (.bool true))
      have HVg := Lib.hid (show FB 5 (((wf.setCell ⟨w8.heap.size, 0, none⟩ (.string ⟨#[UInt8.ofNat F]⟩)).setCell ⟨w8.heap.size, 1, none⟩ (.slice none 0 0)).setCell ⟨w8.heap.size, 2, none⟩ (.bool true)) wr.heap.size (.slice none 0 0) [] from .inl ⟨rfl, rfl⟩)
      clear hfg
      have hkey := HKEY.out
      obtain ⟨us, hul, hrow, hgrow⟩ := HTx.out.grow
      have hbA := HBg.out.alloc HBg.out.size (Obj.cells #[.string ⟨#[UInt8.ofNat F]⟩, .slice none 0 0, .bool true] 33)
      have ho := own_below hrow hbA
      skip
      have hlen : cs.length < 40 := by have := HIx.out.len; have := HL1.out; omega
      have hjl := HL1.out
      have hbw := HTx.out.size
      have HGROW := Lib.hid hgrow
      have HROW := Lib.hid hrow
      have HUL := Lib.hid hul
      clear hgrow
      go_wp2_with (at_builtin; refine wpList_own3 rfl (.tmp 85) (.tmp 87) 34 34 rfl w.heap.size 33 (.agg #[.string ⟨#[]⟩, .slice none 0 0, .bool false]) 3 48 Try.underlying34 info33 rfl rfl ho rfl (src_three _ (by simp) Try.underlying34 33 _ _ _ rfl rfl rfl) ?_ ?_ ?_ ?_)
      ·unfold maxLen; omega
      ·omega
      ·have hss := HBg.out.size
       first | exact Nat.le_trans hbw hbA.size | (simp; omega)
      intro v' wp ho' hg hn
      have hup := HGROW.out _ wp v' (.slice none 0 0) ⟨#[UInt8.ofNat F]⟩ ([]) true hbA (HVg.out.below ((Below.refl _ _).alloc (Nat.le_refl _) _)) (by rw [hul]; exact ho') hg (hn.imp id (fun h => h.trans (by simp)))
      have hxw := HXg.out.alloc (Obj.cells #[.string ⟨#[UInt8.ofNat F]⟩, .slice none 0 0, .bool true] 33)
      have hxp : Blk wp w8.heap.size 33 #[.string ⟨#[UInt8.ofNat F]⟩, .slice none 0 0, .bool true] := (hg.block w8.heap.size (Blk.lt hxw) (fun he => Nat.lt_irrefl _ (Nat.lt_of_lt_of_le (HROW.out.lt _ he.symm).2 HGB.out))).trans hxw
      have hbp := (HBx.out.trans (hbA.mono HBx.out.size)).grown hg (Nat.le_trans HBx.out.size hbA.size) (fun k hk => (HROW.out.lt k hk).1)
      obtain ⟨p1, p2, p3⟩ := HIx.out.put (by omega) z (v := []) (g := true) (by simp) (fun _ => rfl)
      rw [hkey] at p1 p2 p3
      have hlit := two_lit (k := ⟨#[UInt8.ofNat F]⟩) hup HIx.out.few.inv.good (by rw [← hkey]; exact one_sizes z (by simp) true) rfl
      obtain ⟨R, hR⟩ : ∃ R, R = commitR x [((⟨#[UInt8.ofNat F]⟩ : ByteArray), [], true)] := ⟨_, rfl⟩
      rw [← hR] at p1 p2 p3 hlit
      rw [p1] at hlit
      obtain ⟨cn, hcn⟩ : ∃ cn, cn = cs ++ [((⟨#[UInt8.ofNat F]⟩ : ByteArray), [], true)] := ⟨_, rfl⟩
      rw [← hcn] at p2 hlit
      have HLIT := Lib.hid hlit
      have HN := Lib.hid p2
      have HE3 := Lib.hid p3
      have HXP := Lib.hid hxp
      have HBP := Lib.hid hbp
      clear ho' hg hn hup hxw hxp hbp p1 p2 p3 hR hlit hcn hbA ho hkey hlen hul y0 y1 y2
      have y0 := HXP.out.cell 0
      have y1 := HXP.out.cell 1
      have y2 := HXP.out.cell 2
      go_wp2_with fail
      go_at_call 12
      refine HLIT.out.mono ?_
      rintro e wq ⟨rfl, htq, hbq⟩
      have HTQ := Lib.hid htq
      have HBQ := Lib.hid ((HBP.out.alloc HBP.out.size _).trans hbq)
      clear htq hbq y0 y1 y2
      have hcq := (HBQ.out.cell (p := ⟨b, off + j, none⟩) hbs).trans hcell
      obtain ⟨e8, he8⟩ : ∃ e8, e8 = z % 8 := ⟨_, rfl⟩
      have m8 : (z : Int).tmod 8 = (e8 : Int) := by rw [Int.tmod_eq_emod_of_nonneg (by omega)]; omega
      have hl8 : e8 < 8 := by omega
      clear he8
      by_cases h8 : e8 = 0
      ·subst h8
       have HCK := Lib.hid (two_ck HTQ.out HN.out.few.inv.good (by have := HE3.out; have := HL1.out; omega))
       go_wp2_with fail
       go_at_call 15
       refine HCK.out.mono ?_
       rintro e wv ⟨rfl, htv, hbv⟩
       have HTV := Lib.hid htv
       have HBV := Lib.hid (HBQ.out.trans hbv)
       clear htv hbv
       go_wp2
       go_roundw
       case rel => exact ⟨j + 1, ckS R.1, cn, by omega, by go_num, HN.out.ck HE3.out (by have := HL1.out; omega), HTV.out, HBV.out⟩
       case measure => simp [intOf]; omega
      ·have h8' : ¬ (e8 : Int) = 0 := by omega
       go_wp2
       go_roundw
       case rel => exact ⟨j + 1, R.1, cn, by omega, by go_num, HN.out, HTQ.out, HBQ.out⟩
       case measure => simp [intOf]; omega
     ·have hz3 : ¬ (200 : Int) < (z : Int) := by omega
      have hkey := HKEY.out
      obtain ⟨us, hul, hrow, hgrow⟩ := HTx.out.grow
      have hbA := HBf.out.alloc HBf.out.size (Obj.cells #[.string ⟨#[UInt8.ofNat F]⟩, .slice (some ⟨wr.heap.size, 0, none⟩) 2 2, .bool false] 33)
      have ho := own_below hrow hbA
      have y0 := HXf.out.cell 0
      have y1 := HXf.out.cell 1
      have y2 := HXf.out.cell 2
      have hlen : cs.length < 40 := by have := HIx.out.len; have := HL1.out; omega
      have hjl := HL1.out
      have hbw := HTx.out.size
      have HGROW := Lib.hid hgrow
      have HROW := Lib.hid hrow
      have HUL := Lib.hid hul
      clear hgrow
      go_wp2_with (at_builtin; refine wpList_own3 rfl (.tmp 85) (.tmp 87) 34 34 rfl w.heap.size 33 (.agg #[.string ⟨#[]⟩, .slice none 0 0, .bool false]) 3 48 Try.underlying34 info33 rfl rfl ho rfl (src_three _ (by simp) Try.underlying34 33 _ _ _ rfl rfl rfl) ?_ ?_ ?_ ?_)
      ·unfold maxLen; omega
      ·omega
      ·have hss := HBf.out.size
       first | exact Nat.le_trans hbw hbA.size | (simp; omega)
      intro v' wp ho' hg hn
      have hup := HGROW.out _ wp v' (.slice (some ⟨wr.heap.size, 0, none⟩) 2 2) ⟨#[UInt8.ofNat F]⟩ ([UInt8.ofNat z, UInt8.ofNat k]) false hbA (HVf.out.below ((Below.refl _ _).alloc (Nat.le_refl _) _)) (by rw [hul]; exact ho') hg (hn.imp id (fun h => h.trans (by simp)))
      have hxw := HXf.out.alloc (Obj.cells #[.string ⟨#[UInt8.ofNat F]⟩, .slice (some ⟨wr.heap.size, 0, none⟩) 2 2, .bool false] 33)
      have hxp : Blk wp w8.heap.size 33 #[.string ⟨#[UInt8.ofNat F]⟩, .slice (some ⟨wr.heap.size, 0, none⟩) 2 2, .bool false] := (hg.block w8.heap.size (Blk.lt hxw) (fun he => Nat.lt_irrefl _ (Nat.lt_of_lt_of_le (HROW.out.lt _ he.symm).2 HGB.out))).trans hxw
      have hbp := (HBx.out.trans (hbA.mono HBx.out.size)).grown hg (Nat.le_trans HBx.out.size hbA.size) (fun k hk => (HROW.out.lt k hk).1)
      obtain ⟨p1, p2, p3⟩ := HIx.out.put (by omega) z (v := [UInt8.ofNat z, UInt8.ofNat k]) (g := false) (by simp) (fun h => by cases h)
      rw [hkey] at p1 p2 p3
      have hlit := two_lit (k := ⟨#[UInt8.ofNat F]⟩) hup HIx.out.few.inv.good (by rw [← hkey]; exact one_sizes z (by simp) false) rfl
      obtain ⟨R, hR⟩ : ∃ R, R = commitR x [((⟨#[UInt8.ofNat F]⟩ : ByteArray), [UInt8.ofNat z, UInt8.ofNat k], false)] := ⟨_, rfl⟩
      rw [← hR] at p1 p2 p3 hlit
      rw [p1] at hlit
      obtain ⟨cn, hcn⟩ : ∃ cn, cn = cs ++ [((⟨#[UInt8.ofNat F]⟩ : ByteArray), [UInt8.ofNat z, UInt8.ofNat k], false)] := ⟨_, rfl⟩
      rw [← hcn] at p2 hlit
      have HLIT := Lib.hid hlit
      have HN := Lib.hid p2
      have HE3 := Lib.hid p3
      have HXP := Lib.hid hxp
      have HBP := Lib.hid hbp
      clear ho' hg hn hup hxw hxp hbp p1 p2 p3 hR hlit hcn hbA ho hkey hlen hul y0 y1 y2
      have y0 := HXP.out.cell 0
      have y1 := HXP.out.cell 1
      have y2 := HXP.out.cell 2
      go_wp2_with fail
      go_at_call 12
      refine HLIT.out.mono ?_
      rintro e wq ⟨rfl, htq, hbq⟩
      have HTQ := Lib.hid htq
      have HBQ := Lib.hid ((HBP.out.alloc HBP.out.size _).trans hbq)
      clear htq hbq y0 y1 y2
      have hcq := (HBQ.out.cell (p := ⟨b, off + j, none⟩) hbs).trans hcell
      obtain ⟨e8, he8⟩ : ∃ e8, e8 = z % 8 := ⟨_, rfl⟩
      have m8 : (z : Int).tmod 8 = (e8 : Int) := by rw [Int.tmod_eq_emod_of_nonneg (by omega)]; omega
      have hl8 : e8 < 8 := by omega
      clear he8
      by_cases h8 : e8 = 0
      ·subst h8
       have HCK := Lib.hid (two_ck HTQ.out HN.out.few.inv.good (by have := HE3.out; have := HL1.out; omega))
       go_wp2_with fail
       go_at_call 15
       refine HCK.out.mono ?_
       rintro e wv ⟨rfl, htv, hbv⟩
       have HTV := Lib.hid htv
       have HBV := Lib.hid (HBQ.out.trans hbv)
       clear htv hbv
       go_wp2
       go_roundw
       case rel => exact ⟨j + 1, ckS R.1, cn, by omega, by go_num, HN.out.ck HE3.out (by have := HL1.out; omega), HTV.out, HBV.out⟩
       case measure => simp [intOf]; omega
      ·have h8' : ¬ (e8 : Int) = 0 := by omega
       go_wp2
       go_roundw
       case rel => exact ⟨j + 1, R.1, cn, by omega, by go_num, HN.out, HTQ.out, HBQ.out⟩
       case measure => simp [intOf]; omega
    ·go_simp
     first | refine gen_allocD ?_ | refine gen_alloc ?_
     intro wb hwb hbwb
     have hcs := hHeld.1.size
     have hblwb : Below w9.heap.size w9 wb := by first | exact hbwb | exact below_dl hbwb
     have hv9 := hv9.below hblwb
     have HBX : Hid (Blk wb w9.heap.size 33 #[.string ⟨#[]⟩, .slice none 0 0, .bool false]) := Lib.hid (by rw [hwb]; exact heap_alloc_new _ _)
     have hgbr : wr.heap.size ≤ w9.heap.size := by first | exact hcs | exact Nat.le_refl _
     have hnv : wr.heap.size ≠ w9.heap.size := Nat.ne_of_lt hgvlw9
     have hgvlwb := fb_lt hv9
     have hgblwb := HBX.out.lt
     clear hwb hcs
     have hHeld' := hHeld.step hblwb
     refine hK.out _ _ ?_ (fun _ => ?_)
     ·exact hHeld'
     clear hK K hHeld
     try simp only [Act.put, List.setIfInBounds_toArray, List.set_cons_zero, List.set_cons_succ]
     have hHeld := hHeld'
     clear hHeld'
     refine wpAnyH_ready (rs := [6]) (by kernel_rfl) (by simp) ?_
     refine AllReadyH.cons (o := { dst := some 68, op := Op.buildSlice 22 1 #[(0, Operand.tmp 67)], type := 22, pos := "late.go:46", after := #[{ on := 5, ground := Ground.data }], guard := none }) rfl (fun K hK => ?_) AllReadyH.nil
     go_simp
     first | refine gen_allocD ?_ | refine gen_alloc ?_
     intro w8 hw8 hbw8
     have hcs := hHeld.1.size
     have hblw8 : Below wb.heap.size wb w8 := by first | exact hbw8 | exact below_dl hbw8
     have hv9 := hv9.below hblw8
     have HBX := Lib.hid (HBX.out.below hblw8 HBX.out.lt)
     have hk8 := fun hb => fb_one_ (b0 := wr.heap.size) hF255 hb (by first | exact .inl hw8 | exact .inr hw8)
     have hk8 := hk8 (by first | exact hcs | exact Nat.le_refl _)
     have hne : wb.heap.size ≠ w9.heap.size := Nat.ne_of_gt hgblwb
     have hgklw8 := fb_lt hk8
     have hgvlw8 := fb_lt hv9
     have hgblw8 := HBX.out.lt
     clear hw8 hcs
     have hH8 := hHeld.key hblw8 hgklw8
     refine hK.out _ _ ?_ (fun _ => ?_)
     ·exact hH8.weak
     clear hK K hHeld
     try simp only [Act.put, List.setIfInBounds_toArray, List.set_cons_zero, List.set_cons_succ]
     have hHeld := hH8
     clear hH8
     refine wpAnyH_more (S' := HKK wr w8 (some (wb.heap.size))) (fun W h => h.weak) _ _ _ _ ?_
     have hk8w := hk8
     refine wpAnyH_take (i := 7) (oi := { dst := some 69, op := Op.convert 22 9 (Operand.tmp 68), type := 9, pos := "late.go:46", after := #[{ on := 6, ground := Ground.data }], guard := none }) (v := ?_) rfl (by kernel_rfl) (by kernel_rfl) (by kernel_rfl) (fun _ _ _ h => h) (Or.inl ⟨by rfl, ?_⟩) (by assumption) ?_
     rotate_left
     ·intro W hSw; have hq := str22 (fb_keep (w' := W) hk8w (fun k hk => by injection hk with hk; subst hk; exact (hSw.2.2 _ rfl).2)).rb; go_simp; try (with_reducible rfl)
     try simp only [Act.put, List.setIfInBounds_toArray, List.set_cons_zero, List.set_cons_succ]
     refine wpAnyH_take (i := 14) (oi := { dst := some 76, op := Op.build 33 #[(0, Operand.tmp 69), (1, Operand.tmp 75)], type := 33, pos := "late.go:46", after := #[{ on := 7, ground := Ground.data }, { on := 13, ground := Ground.data }], guard := none }) (v := ?_) rfl (by kernel_rfl) (by kernel_rfl) (by kernel_rfl) (fun _ _ _ h => h) (Or.inl ⟨by rfl, ?_⟩) (by assumption) ?_
     rotate_left
     ·intro W hSw; go_simp; try (with_reducible rfl)
     try simp only [Act.put, List.setIfInBounds_toArray, List.set_cons_zero, List.set_cons_succ]
     refine wpAnyH_ready (rs := [16]) (by kernel_rfl) (by simp) ?_
     refine AllReadyH.cons (o := { dst := none, op := Op.store 33 (Operand.tmp 13) (Operand.tmp 76), type := 0, pos := "late.go:46", after := #[{ on := 15, ground := Ground.data }, { on := 14, ground := Ground.data }, { on := 0, ground := Ground.phase }, { on := 1, ground := Ground.phase }, { on := 2, ground := Ground.phase }, { on := 3, ground := Ground.phase }, { on := 4, ground := Ground.phase }, { on := 5, ground := Ground.phase }, { on := 6, ground := Ground.phase }, { on := 7, ground := Ground.phase }, { on := 8, ground := Ground.phase }, { on := 9, ground := Ground.phase }, { on := 10, ground := Ground.phase }, { on := 11, ground := Ground.phase }, { on := 12, ground := Ground.phase }, { on := 13, ground := Ground.phase }, { on := 14, ground := Ground.phase }, { on := 15, ground := Ground.phase }], guard := none }) rfl (fun K hK => ?_) AllReadyH.nil
     have z0 := HBX.out.cell 0
     have z1 := HBX.out.cell 1
     have z2 := HBX.out.cell 2
     have zf := HBX.out.frozen
     have zl := HBX.out.lt
     go_simp
     have hHeld' := hHeld.box (gb := w9.heap.size) hgbr hne (.string ⟨#[UInt8.ofNat F]⟩) (.slice (some ⟨wr.heap.size, 0, none⟩) 2 2) (.bool false)
     refine hK.out _ _ ?_ (fun _ => ?_)
     ·exact hHeld'
     clear hK K hHeld
     have hHeld := hHeld'
     clear hHeld' z0 z1 z2 zf zl
     try simp only [Act.put, List.setIfInBounds_toArray, List.set_cons_zero, List.set_cons_succ]
     refine wpAnyH_done (by kernel_rfl) ?_ _
     refine gen_3x ?_
     intro wf hwf
     have hff : Fr (fun k => k = w9.heap.size) w8 wf := by rw [hwf]; exact fr_3x (D := fun k => k = w9.heap.size) (Fr.refl _ _) (.inl rfl) _ _ _
     have HBf := Lib.hid ((show Below wr.heap.size wr wf by rw [hwf]; exact hHeld.1))
     have HXf : Hid (Blk wf w9.heap.size 33 #[.string ⟨#[UInt8.ofNat F]⟩, .slice (some ⟨wr.heap.size, 0, none⟩) 2 2, .bool false]) := Lib.hid (by rw [hwf]; exact blk_3x HBX.out _ _ _)
     have HVf := Lib.hid (fb_keep (w' := wf) hv9 (fun k hk => by injection hk with hk; subst hk; exact hff.block _ (fb_lt hv9) hnv))
     have HGB := Lib.hid hgbr
     clear hwf hff hHeld HBX hk8 hv9 hk8w hne hnv
     clear hgbr
     have hcf := (HBf.out.cell (p := ⟨b, off + j, none⟩) HBR.out).trans HCR.out
     have HZ := Lib.hid hz255
     by_cases hz2 : 200 < z
     ·have hz3 : (200 : Int) < (z : Int) := by omega
      have y0 := HXf.out.cell 0
      have y1 := HXf.out.cell 1
      have y2 := HXf.out.cell 2
      have yf := HXf.out.frozen
      have yl := HXf.out.lt
      have hfg := fr_3x (D := fun k => k = w9.heap.size) (Fr.refl _ wf) (.inl rfl) (.string ⟨#[UInt8.ofNat F]⟩) (.slice none 0 0) (.bool true)
      have HBg := Lib.hid (HBf.out.trans (hfg.below (fun k hk => hk ▸ HGB.out) HBf.out.size))
      have HXg := Lib.hid (blk_3x HXf.out (.string ⟨#[UInt8.ofNat F]⟩) (.slice none 0 0) (.bool true))
      have HVg := Lib.hid (show FB 5 (((wf.setCell ⟨w9.heap.size, 0, none⟩ (.string ⟨#[UInt8.ofNat F]⟩)).setCell ⟨w9.heap.size, 1, none⟩ (.slice none 0 0)).setCell ⟨w9.heap.size, 2, none⟩ (.bool true)) wr.heap.size (.slice none 0 0) [] from .inl ⟨rfl, rfl⟩)
      clear hfg
      have hkey := HKEY.out
      obtain ⟨us, hul, hrow, hgrow⟩ := HTx.out.grow
      have hbA := HBg.out.alloc HBg.out.size (Obj.cells #[.string ⟨#[UInt8.ofNat F]⟩, .slice none 0 0, .bool true] 33)
      have ho := own_below hrow hbA
      skip
      have hlen : cs.length < 40 := by have := HIx.out.len; have := HL1.out; omega
      have hjl := HL1.out
      have hbw := HTx.out.size
      have HGROW := Lib.hid hgrow
      have HROW := Lib.hid hrow
      have HUL := Lib.hid hul
      clear hgrow
      go_wp2_with (at_builtin; refine wpList_own3 rfl (.tmp 85) (.tmp 87) 34 34 rfl w.heap.size 33 (.agg #[.string ⟨#[]⟩, .slice none 0 0, .bool false]) 3 48 Try.underlying34 info33 rfl rfl ho rfl (src_three _ (by simp) Try.underlying34 33 _ _ _ rfl rfl rfl) ?_ ?_ ?_ ?_)
      ·unfold maxLen; omega
      ·omega
      ·have hss := HBg.out.size
       first | exact Nat.le_trans hbw hbA.size | (simp; omega)
      intro v' wp ho' hg hn
      have hup := HGROW.out _ wp v' (.slice none 0 0) ⟨#[UInt8.ofNat F]⟩ ([]) true hbA (HVg.out.below ((Below.refl _ _).alloc (Nat.le_refl _) _)) (by rw [hul]; exact ho') hg (hn.imp id (fun h => h.trans (by simp)))
      have hxw := HXg.out.alloc (Obj.cells #[.string ⟨#[UInt8.ofNat F]⟩, .slice none 0 0, .bool true] 33)
      have hxp : Blk wp w9.heap.size 33 #[.string ⟨#[UInt8.ofNat F]⟩, .slice none 0 0, .bool true] := (hg.block w9.heap.size (Blk.lt hxw) (fun he => Nat.lt_irrefl _ (Nat.lt_of_lt_of_le (HROW.out.lt _ he.symm).2 HGB.out))).trans hxw
      have hbp := (HBx.out.trans (hbA.mono HBx.out.size)).grown hg (Nat.le_trans HBx.out.size hbA.size) (fun k hk => (HROW.out.lt k hk).1)
      obtain ⟨p1, p2, p3⟩ := HIx.out.put (by omega) z (v := []) (g := true) (by simp) (fun _ => rfl)
      rw [hkey] at p1 p2 p3
      have hlit := two_lit (k := ⟨#[UInt8.ofNat F]⟩) hup HIx.out.few.inv.good (by rw [← hkey]; exact one_sizes z (by simp) true) rfl
      obtain ⟨R, hR⟩ : ∃ R, R = commitR x [((⟨#[UInt8.ofNat F]⟩ : ByteArray), [], true)] := ⟨_, rfl⟩
      rw [← hR] at p1 p2 p3 hlit
      rw [p1] at hlit
      obtain ⟨cn, hcn⟩ : ∃ cn, cn = cs ++ [((⟨#[UInt8.ofNat F]⟩ : ByteArray), [], true)] := ⟨_, rfl⟩
      rw [← hcn] at p2 hlit
      have HLIT := Lib.hid hlit
      have HN := Lib.hid p2
      have HE3 := Lib.hid p3
      have HXP := Lib.hid hxp
      have HBP := Lib.hid hbp
      clear ho' hg hn hup hxw hxp hbp p1 p2 p3 hR hlit hcn hbA ho hkey hlen hul y0 y1 y2
      have y0 := HXP.out.cell 0
      have y1 := HXP.out.cell 1
      have y2 := HXP.out.cell 2
      go_wp2_with fail
      go_at_call 12
      refine HLIT.out.mono ?_
      rintro e wq ⟨rfl, htq, hbq⟩
      have HTQ := Lib.hid htq
      have HBQ := Lib.hid ((HBP.out.alloc HBP.out.size _).trans hbq)
      clear htq hbq y0 y1 y2
      have hcq := (HBQ.out.cell (p := ⟨b, off + j, none⟩) hbs).trans hcell
      obtain ⟨e8, he8⟩ : ∃ e8, e8 = z % 8 := ⟨_, rfl⟩
      have m8 : (z : Int).tmod 8 = (e8 : Int) := by rw [Int.tmod_eq_emod_of_nonneg (by omega)]; omega
      have hl8 : e8 < 8 := by omega
      clear he8
      by_cases h8 : e8 = 0
      ·subst h8
       have HCK := Lib.hid (two_ck HTQ.out HN.out.few.inv.good (by have := HE3.out; have := HL1.out; omega))
       go_wp2_with fail
       go_at_call 15
       refine HCK.out.mono ?_
       rintro e wv ⟨rfl, htv, hbv⟩
       have HTV := Lib.hid htv
       have HBV := Lib.hid (HBQ.out.trans hbv)
       clear htv hbv
       go_wp2
       go_roundw
       case rel => exact ⟨j + 1, ckS R.1, cn, by omega, by go_num, HN.out.ck HE3.out (by have := HL1.out; omega), HTV.out, HBV.out⟩
       case measure => simp [intOf]; omega
      ·have h8' : ¬ (e8 : Int) = 0 := by omega
       go_wp2
       go_roundw
       case rel => exact ⟨j + 1, R.1, cn, by omega, by go_num, HN.out, HTQ.out, HBQ.out⟩
       case measure => simp [intOf]; omega
     ·have hz3 : ¬ (200 : Int) < (z : Int) := by omega
      have hkey := HKEY.out
      obtain ⟨us, hul, hrow, hgrow⟩ := HTx.out.grow
      have hbA := HBf.out.alloc HBf.out.size (Obj.cells #[.string ⟨#[UInt8.ofNat F]⟩, .slice (some ⟨wr.heap.size, 0, none⟩) 2 2, .bool false] 33)
      have ho := own_below hrow hbA
      have y0 := HXf.out.cell 0
      have y1 := HXf.out.cell 1
      have y2 := HXf.out.cell 2
      have hlen : cs.length < 40 := by have := HIx.out.len; have := HL1.out; omega
      have hjl := HL1.out
      have hbw := HTx.out.size
      have HGROW := Lib.hid hgrow
      have HROW := Lib.hid hrow
      have HUL := Lib.hid hul
      clear hgrow
      go_wp2_with (at_builtin; refine wpList_own3 rfl (.tmp 85) (.tmp 87) 34 34 rfl w.heap.size 33 (.agg #[.string ⟨#[]⟩, .slice none 0 0, .bool false]) 3 48 Try.underlying34 info33 rfl rfl ho rfl (src_three _ (by simp) Try.underlying34 33 _ _ _ rfl rfl rfl) ?_ ?_ ?_ ?_)
      ·unfold maxLen; omega
      ·omega
      ·have hss := HBf.out.size
       first | exact Nat.le_trans hbw hbA.size | (simp; omega)
      intro v' wp ho' hg hn
      have hup := HGROW.out _ wp v' (.slice (some ⟨wr.heap.size, 0, none⟩) 2 2) ⟨#[UInt8.ofNat F]⟩ ([UInt8.ofNat z, UInt8.ofNat k]) false hbA (HVf.out.below ((Below.refl _ _).alloc (Nat.le_refl _) _)) (by rw [hul]; exact ho') hg (hn.imp id (fun h => h.trans (by simp)))
      have hxw := HXf.out.alloc (Obj.cells #[.string ⟨#[UInt8.ofNat F]⟩, .slice (some ⟨wr.heap.size, 0, none⟩) 2 2, .bool false] 33)
      have hxp : Blk wp w9.heap.size 33 #[.string ⟨#[UInt8.ofNat F]⟩, .slice (some ⟨wr.heap.size, 0, none⟩) 2 2, .bool false] := (hg.block w9.heap.size (Blk.lt hxw) (fun he => Nat.lt_irrefl _ (Nat.lt_of_lt_of_le (HROW.out.lt _ he.symm).2 HGB.out))).trans hxw
      have hbp := (HBx.out.trans (hbA.mono HBx.out.size)).grown hg (Nat.le_trans HBx.out.size hbA.size) (fun k hk => (HROW.out.lt k hk).1)
      obtain ⟨p1, p2, p3⟩ := HIx.out.put (by omega) z (v := [UInt8.ofNat z, UInt8.ofNat k]) (g := false) (by simp) (fun h => by cases h)
      rw [hkey] at p1 p2 p3
      have hlit := two_lit (k := ⟨#[UInt8.ofNat F]⟩) hup HIx.out.few.inv.good (by rw [← hkey]; exact one_sizes z (by simp) false) rfl
      obtain ⟨R, hR⟩ : ∃ R, R = commitR x [((⟨#[UInt8.ofNat F]⟩ : ByteArray), [UInt8.ofNat z, UInt8.ofNat k], false)] := ⟨_, rfl⟩
      rw [← hR] at p1 p2 p3 hlit
      rw [p1] at hlit
      obtain ⟨cn, hcn⟩ : ∃ cn, cn = cs ++ [((⟨#[UInt8.ofNat F]⟩ : ByteArray), [UInt8.ofNat z, UInt8.ofNat k], false)] := ⟨_, rfl⟩
      rw [← hcn] at p2 hlit
      have HLIT := Lib.hid hlit
      have HN := Lib.hid p2
      have HE3 := Lib.hid p3
      have HXP := Lib.hid hxp
      have HBP := Lib.hid hbp
      clear ho' hg hn hup hxw hxp hbp p1 p2 p3 hR hlit hcn hbA ho hkey hlen hul y0 y1 y2
      have y0 := HXP.out.cell 0
      have y1 := HXP.out.cell 1
      have y2 := HXP.out.cell 2
      go_wp2_with fail
      go_at_call 12
      refine HLIT.out.mono ?_
      rintro e wq ⟨rfl, htq, hbq⟩
      have HTQ := Lib.hid htq
      have HBQ := Lib.hid ((HBP.out.alloc HBP.out.size _).trans hbq)
      clear htq hbq y0 y1 y2
      have hcq := (HBQ.out.cell (p := ⟨b, off + j, none⟩) hbs).trans hcell
      obtain ⟨e8, he8⟩ : ∃ e8, e8 = z % 8 := ⟨_, rfl⟩
      have m8 : (z : Int).tmod 8 = (e8 : Int) := by rw [Int.tmod_eq_emod_of_nonneg (by omega)]; omega
      have hl8 : e8 < 8 := by omega
      clear he8
      by_cases h8 : e8 = 0
      ·subst h8
       have HCK := Lib.hid (two_ck HTQ.out HN.out.few.inv.good (by have := HE3.out; have := HL1.out; omega))
       go_wp2_with fail
       go_at_call 15
       refine HCK.out.mono ?_
       rintro e wv ⟨rfl, htv, hbv⟩
       have HTV := Lib.hid htv
       have HBV := Lib.hid (HBQ.out.trans hbv)
       clear htv hbv
       go_wp2
       go_roundw
       case rel => exact ⟨j + 1, ckS R.1, cn, by omega, by go_num, HN.out.ck HE3.out (by have := HL1.out; omega), HTV.out, HBV.out⟩
       case measure => simp [intOf]; omega
      ·have h8' : ¬ (e8 : Int) = 0 := by omega
       go_wp2
       go_roundw
       case rel => exact ⟨j + 1, R.1, cn, by omega, by go_num, HN.out, HTQ.out, HBQ.out⟩
       case measure => simp [intOf]; omega
   ·go_simp
    first | refine gen_allocD ?_ | refine gen_alloc ?_
    intro wb hwb hbwb
    have hcs := hHeld.1.size
    have hblwb : Below wr.heap.size wr wb := by first | exact hbwb | exact below_dl hbwb
    have HBX : Hid (Blk wb wr.heap.size 33 #[.string ⟨#[]⟩, .slice none 0 0, .bool false]) := Lib.hid (by rw [hwb]; exact heap_alloc_new _ _)
    have hgbr : wr.heap.size ≤ wr.heap.size := by first | exact hcs | exact Nat.le_refl _
    have hgblwb := HBX.out.lt
    clear hwb hcs
    have hHeld' := (HKK.none_ (Below.refl wr.heap.size wr)).step hblwb
    refine hK.out _ _ ?_ (fun _ => ?_)
    ·exact hHeld'
    clear hK K hHeld
    try simp only [Act.put, List.setIfInBounds_toArray, List.set_cons_zero, List.set_cons_succ]
    have hHeld := hHeld'
    clear hHeld'
    refine wpAnyH_ready (rs := [6, 13]) (by kernel_rfl) (by simp) ?_
    refine AllReadyH.cons (o := { dst := some 68, op := Op.buildSlice 22 1 #[(0, Operand.tmp 67)], type := 22, pos := "late.go:46", after := #[{ on := 5, ground := Ground.data }], guard := none }) rfl (fun K hK => ?_) (AllReadyH.cons (o := { dst := some 75, op := Op.buildSlice 22 2 #[(0, Operand.tmp 73), (1, Operand.tmp 74)], type := 22, pos := "late.go:46", after := #[{ on := 11, ground := Ground.data }, { on := 12, ground := Ground.data }], guard := none }) rfl (fun K hK => ?_) AllReadyH.nil)
    ·go_simp
     first | refine gen_allocD ?_ | refine gen_alloc ?_
     intro w8 hw8 hbw8
     have hcs := hHeld.1.size
     have hblw8 : Below wb.heap.size wb w8 := by first | exact hbw8 | exact below_dl hbw8
     have HBX := Lib.hid (HBX.out.below hblw8 HBX.out.lt)
     have hk8 := fun hb => fb_one_ (b0 := wr.heap.size) hF255 hb (by first | exact .inl hw8 | exact .inr hw8)
     have hk8 := hk8 (by first | exact hcs | exact Nat.le_refl _)
     have hne : wb.heap.size ≠ wr.heap.size := Nat.ne_of_gt hgblwb
     have hgklw8 := fb_lt hk8
     have hgblw8 := HBX.out.lt
     clear hw8 hcs
     have hH8 := hHeld.key hblw8 hgklw8
     refine hK.out _ _ ?_ (fun _ => ?_)
     ·exact hH8.weak
     clear hK K hHeld
     try simp only [Act.put, List.setIfInBounds_toArray, List.set_cons_zero, List.set_cons_succ]
     have hHeld := hH8
     clear hH8
     refine wpAnyH_more (S' := HKK wr w8 (some (wb.heap.size))) (fun W h => h.weak) _ _ _ _ ?_
     have hk8w := hk8
     refine wpAnyH_take (i := 7) (oi := { dst := some 69, op := Op.convert 22 9 (Operand.tmp 68), type := 9, pos := "late.go:46", after := #[{ on := 6, ground := Ground.data }], guard := none }) (v := ?_) rfl (by kernel_rfl) (by kernel_rfl) (by kernel_rfl) (fun _ _ _ h => h) (Or.inl ⟨by rfl, ?_⟩) (by assumption) ?_
     rotate_left
     ·intro W hSw; have hq := str22 (fb_keep (w' := W) hk8w (fun k hk => by injection hk with hk; subst hk; exact (hSw.2.2 _ rfl).2)).rb; go_simp; try (with_reducible rfl)
     try simp only [Act.put, List.setIfInBounds_toArray, List.set_cons_zero, List.set_cons_succ]
     refine wpAnyH_ready (rs := [13]) (by kernel_rfl) (by simp) ?_
     refine AllReadyH.cons (o := { dst := some 75, op := Op.buildSlice 22 2 #[(0, Operand.tmp 73), (1, Operand.tmp 74)], type := 22, pos := "late.go:46", after := #[{ on := 11, ground := Ground.data }, { on := 12, ground := Ground.data }], guard := none }) rfl (fun K hK => ?_) AllReadyH.nil
     go_simp
     first | refine gen_allocD ?_ | refine gen_alloc ?_
     intro w9 hw9 hbw9
     have hcs := hHeld.1.size
     have hblw9 : Below w8.heap.size w8 w9 := by first | exact hbw9 | exact below_dl hbw9
     have hk8 := hk8.below hblw9
     have HBX := Lib.hid (HBX.out.below hblw9 HBX.out.lt)
     have hv9 := fun hb => fb_two_ (b0 := wr.heap.size) hz255 hk hb (by first | exact .inl hw9 | exact .inr hw9)
     have hv9 := hv9 (by first | exact hcs | exact Nat.le_refl _)
     have hnv : w8.heap.size ≠ wr.heap.size := Nat.ne_of_gt hgblw8
     have hgklw9 := fb_lt hk8
     have hgvlw9 := fb_lt hv9
     have hgblw9 := HBX.out.lt
     clear hw9 hcs
     have hHeld' := hHeld.step hblw9
     refine hK.out _ _ ?_ (fun _ => ?_)
     ·exact hHeld'
     clear hK K hHeld
     try simp only [Act.put, List.setIfInBounds_toArray, List.set_cons_zero, List.set_cons_succ]
     have hHeld := hHeld'
     clear hHeld'
     refine wpAnyH_take (i := 14) (oi := { dst := some 76, op := Op.build 33 #[(0, Operand.tmp 69), (1, Operand.tmp 75)], type := 33, pos := "late.go:46", after := #[{ on := 7, ground := Ground.data }, { on := 13, ground := Ground.data }], guard := none }) (v := ?_) rfl (by kernel_rfl) (by kernel_rfl) (by kernel_rfl) (fun _ _ _ h => h) (Or.inl ⟨by rfl, ?_⟩) (by assumption) ?_
     rotate_left
     ·intro W hSw; go_simp; try (with_reducible rfl)
     try simp only [Act.put, List.setIfInBounds_toArray, List.set_cons_zero, List.set_cons_succ]
     refine wpAnyH_ready (rs := [16]) (by kernel_rfl) (by simp) ?_
     refine AllReadyH.cons (o := { dst := none, op := Op.store 33 (Operand.tmp 13) (Operand.tmp 76), type := 0, pos := "late.go:46", after := #[{ on := 15, ground := Ground.data }, { on := 14, ground := Ground.data }, { on := 0, ground := Ground.phase }, { on := 1, ground := Ground.phase }, { on := 2, ground := Ground.phase }, { on := 3, ground := Ground.phase }, { on := 4, ground := Ground.phase }, { on := 5, ground := Ground.phase }, { on := 6, ground := Ground.phase }, { on := 7, ground := Ground.phase }, { on := 8, ground := Ground.phase }, { on := 9, ground := Ground.phase }, { on := 10, ground := Ground.phase }, { on := 11, ground := Ground.phase }, { on := 12, ground := Ground.phase }, { on := 13, ground := Ground.phase }, { on := 14, ground := Ground.phase }, { on := 15, ground := Ground.phase }], guard := none }) rfl (fun K hK => ?_) AllReadyH.nil
     have z0 := HBX.out.cell 0
     have z1 := HBX.out.cell 1
     have z2 := HBX.out.cell 2
     have zf := HBX.out.frozen
     have zl := HBX.out.lt
     go_simp
     have hHeld' := hHeld.box (gb := wr.heap.size) hgbr hne (.string ⟨#[UInt8.ofNat F]⟩) (.slice (some ⟨w8.heap.size, 0, none⟩) 2 2) (.bool false)
     refine hK.out _ _ ?_ (fun _ => ?_)
     ·exact hHeld'
     clear hK K hHeld
     have hHeld := hHeld'
     clear hHeld' z0 z1 z2 zf zl
     try simp only [Act.put, List.setIfInBounds_toArray, List.set_cons_zero, List.set_cons_succ]
     refine wpAnyH_done (by kernel_rfl) ?_ _
     refine gen_3x ?_
     intro wf hwf
     have hff : Fr (fun k => k = wr.heap.size) w9 wf := by rw [hwf]; exact fr_3x (D := fun k => k = wr.heap.size) (Fr.refl _ _) (.inl rfl) _ _ _
     have HBf := Lib.hid ((show Below wr.heap.size wr wf by rw [hwf]; exact hHeld.1))
     have HXf : Hid (Blk wf wr.heap.size 33 #[.string ⟨#[UInt8.ofNat F]⟩, .slice (some ⟨w8.heap.size, 0, none⟩) 2 2, .bool false]) := Lib.hid (by rw [hwf]; exact blk_3x HBX.out _ _ _)
     have HVf := Lib.hid (fb_keep (w' := wf) hv9 (fun k hk => by injection hk with hk; subst hk; exact hff.block _ (fb_lt hv9) hnv))
     have HGB := Lib.hid hgbr
     clear hwf hff hHeld HBX hk8 hv9 hk8w hne hnv
     clear hgbr
     have hcf := (HBf.out.cell (p := ⟨b, off + j, none⟩) HBR.out).trans HCR.out
     have HZ := Lib.hid hz255
     by_cases hz2 : 200 < z
     ·have hz3 : (200 : Int) < (z : Int) := by omega
      have y0 := HXf.out.cell 0
      have y1 := HXf.out.cell 1
      have y2 := HXf.out.cell 2
      have yf := HXf.out.frozen
      have yl := HXf.out.lt
      have hfg := fr_3x (D := fun k => k = wr.heap.size) (Fr.refl _ wf) (.inl rfl) (.string ⟨#[UInt8.ofNat F]⟩) (.slice none 0 0) (.bool true)
      have HBg := Lib.hid (HBf.out.trans (hfg.below (fun k hk => hk ▸ HGB.out) HBf.out.size))
      have HXg := Lib.hid (blk_3x HXf.out (.string ⟨#[UInt8.ofNat F]⟩) (.slice none 0 0) (.bool true))
      have HVg := Lib.hid (show FB 5 (((wf.setCell ⟨wr.heap.size, 0, none⟩ (.string ⟨#[UInt8.ofNat F]⟩)).setCell ⟨wr.heap.size, 1, none⟩ (.slice none 0 0)).setCell ⟨wr.heap.size, 2, none⟩ (.bool true)) wr.heap.size (.slice none 0 0) [] from .inl ⟨rfl, rfl⟩)
      clear hfg
      have hkey := HKEY.out
      obtain ⟨us, hul, hrow, hgrow⟩ := HTx.out.grow
      have hbA := HBg.out.alloc HBg.out.size (Obj.cells #[.string ⟨#[UInt8.ofNat F]⟩, .slice none 0 0, .bool true] 33)
      have ho := own_below hrow hbA
      skip
      have hlen : cs.length < 40 := by have := HIx.out.len; have := HL1.out; omega
      have hjl := HL1.out
      have hbw := HTx.out.size
      have HGROW := Lib.hid hgrow
      have HROW := Lib.hid hrow
      have HUL := Lib.hid hul
      clear hgrow
      go_wp2_with (at_builtin; refine wpList_own3 rfl (.tmp 85) (.tmp 87) 34 34 rfl w.heap.size 33 (.agg #[.string ⟨#[]⟩, .slice none 0 0, .bool false]) 3 48 Try.underlying34 info33 rfl rfl ho rfl (src_three _ (by simp) Try.underlying34 33 _ _ _ rfl rfl rfl) ?_ ?_ ?_ ?_)
      ·unfold maxLen; omega
      ·omega
      ·have hss := HBg.out.size
       first | exact Nat.le_trans hbw hbA.size | (simp; omega)
      intro v' wp ho' hg hn
      have hup := HGROW.out _ wp v' (.slice none 0 0) ⟨#[UInt8.ofNat F]⟩ ([]) true hbA (HVg.out.below ((Below.refl _ _).alloc (Nat.le_refl _) _)) (by rw [hul]; exact ho') hg (hn.imp id (fun h => h.trans (by simp)))
      have hxw := HXg.out.alloc (Obj.cells #[.string ⟨#[UInt8.ofNat F]⟩, .slice none 0 0, .bool true] 33)
      have hxp : Blk wp wr.heap.size 33 #[.string ⟨#[UInt8.ofNat F]⟩, .slice none 0 0, .bool true] := (hg.block wr.heap.size (Blk.lt hxw) (fun he => Nat.lt_irrefl _ (Nat.lt_of_lt_of_le (HROW.out.lt _ he.symm).2 HGB.out))).trans hxw
      have hbp := (HBx.out.trans (hbA.mono HBx.out.size)).grown hg (Nat.le_trans HBx.out.size hbA.size) (fun k hk => (HROW.out.lt k hk).1)
      obtain ⟨p1, p2, p3⟩ := HIx.out.put (by omega) z (v := []) (g := true) (by simp) (fun _ => rfl)
      rw [hkey] at p1 p2 p3
      have hlit := two_lit (k := ⟨#[UInt8.ofNat F]⟩) hup HIx.out.few.inv.good (by rw [← hkey]; exact one_sizes z (by simp) true) rfl
      obtain ⟨R, hR⟩ : ∃ R, R = commitR x [((⟨#[UInt8.ofNat F]⟩ : ByteArray), [], true)] := ⟨_, rfl⟩
      rw [← hR] at p1 p2 p3 hlit
      rw [p1] at hlit
      obtain ⟨cn, hcn⟩ : ∃ cn, cn = cs ++ [((⟨#[UInt8.ofNat F]⟩ : ByteArray), [], true)] := ⟨_, rfl⟩
      rw [← hcn] at p2 hlit
      have HLIT := Lib.hid hlit
      have HN := Lib.hid p2
      have HE3 := Lib.hid p3
      have HXP := Lib.hid hxp
      have HBP := Lib.hid hbp
      clear ho' hg hn hup hxw hxp hbp p1 p2 p3 hR hlit hcn hbA ho hkey hlen hul y0 y1 y2
      have y0 := HXP.out.cell 0
      have y1 := HXP.out.cell 1
      have y2 := HXP.out.cell 2
      go_wp2_with fail
      go_at_call 12
      refine HLIT.out.mono ?_
      rintro e wq ⟨rfl, htq, hbq⟩
      have HTQ := Lib.hid htq
      have HBQ := Lib.hid ((HBP.out.alloc HBP.out.size _).trans hbq)
      clear htq hbq y0 y1 y2
      have hcq := (HBQ.out.cell (p := ⟨b, off + j, none⟩) hbs).trans hcell
      obtain ⟨e8, he8⟩ : ∃ e8, e8 = z % 8 := ⟨_, rfl⟩
      have m8 : (z : Int).tmod 8 = (e8 : Int) := by rw [Int.tmod_eq_emod_of_nonneg (by omega)]; omega
      have hl8 : e8 < 8 := by omega
      clear he8
      by_cases h8 : e8 = 0
      ·subst h8
       have HCK := Lib.hid (two_ck HTQ.out HN.out.few.inv.good (by have := HE3.out; have := HL1.out; omega))
       go_wp2_with fail
       go_at_call 15
       refine HCK.out.mono ?_
       rintro e wv ⟨rfl, htv, hbv⟩
       have HTV := Lib.hid htv
       have HBV := Lib.hid (HBQ.out.trans hbv)
       clear htv hbv
       go_wp2
       go_roundw
       case rel => exact ⟨j + 1, ckS R.1, cn, by omega, by go_num, HN.out.ck HE3.out (by have := HL1.out; omega), HTV.out, HBV.out⟩
       case measure => simp [intOf]; omega
      ·have h8' : ¬ (e8 : Int) = 0 := by omega
       go_wp2
       go_roundw
       case rel => exact ⟨j + 1, R.1, cn, by omega, by go_num, HN.out, HTQ.out, HBQ.out⟩
       case measure => simp [intOf]; omega
     ·have hz3 : ¬ (200 : Int) < (z : Int) := by omega
      have hkey := HKEY.out
      obtain ⟨us, hul, hrow, hgrow⟩ := HTx.out.grow
      have hbA := HBf.out.alloc HBf.out.size (Obj.cells #[.string ⟨#[UInt8.ofNat F]⟩, .slice (some ⟨w8.heap.size, 0, none⟩) 2 2, .bool false] 33)
      have ho := own_below hrow hbA
      have y0 := HXf.out.cell 0
      have y1 := HXf.out.cell 1
      have y2 := HXf.out.cell 2
      have hlen : cs.length < 40 := by have := HIx.out.len; have := HL1.out; omega
      have hjl := HL1.out
      have hbw := HTx.out.size
      have HGROW := Lib.hid hgrow
      have HROW := Lib.hid hrow
      have HUL := Lib.hid hul
      clear hgrow
      go_wp2_with (at_builtin; refine wpList_own3 rfl (.tmp 85) (.tmp 87) 34 34 rfl w.heap.size 33 (.agg #[.string ⟨#[]⟩, .slice none 0 0, .bool false]) 3 48 Try.underlying34 info33 rfl rfl ho rfl (src_three _ (by simp) Try.underlying34 33 _ _ _ rfl rfl rfl) ?_ ?_ ?_ ?_)
      ·unfold maxLen; omega
      ·omega
      ·have hss := HBf.out.size
       first | exact Nat.le_trans hbw hbA.size | (simp; omega)
      intro v' wp ho' hg hn
      have hup := HGROW.out _ wp v' (.slice (some ⟨w8.heap.size, 0, none⟩) 2 2) ⟨#[UInt8.ofNat F]⟩ ([UInt8.ofNat z, UInt8.ofNat k]) false hbA (HVf.out.below ((Below.refl _ _).alloc (Nat.le_refl _) _)) (by rw [hul]; exact ho') hg (hn.imp id (fun h => h.trans (by simp)))
      have hxw := HXf.out.alloc (Obj.cells #[.string ⟨#[UInt8.ofNat F]⟩, .slice (some ⟨w8.heap.size, 0, none⟩) 2 2, .bool false] 33)
      have hxp : Blk wp wr.heap.size 33 #[.string ⟨#[UInt8.ofNat F]⟩, .slice (some ⟨w8.heap.size, 0, none⟩) 2 2, .bool false] := (hg.block wr.heap.size (Blk.lt hxw) (fun he => Nat.lt_irrefl _ (Nat.lt_of_lt_of_le (HROW.out.lt _ he.symm).2 HGB.out))).trans hxw
      have hbp := (HBx.out.trans (hbA.mono HBx.out.size)).grown hg (Nat.le_trans HBx.out.size hbA.size) (fun k hk => (HROW.out.lt k hk).1)
      obtain ⟨p1, p2, p3⟩ := HIx.out.put (by omega) z (v := [UInt8.ofNat z, UInt8.ofNat k]) (g := false) (by simp) (fun h => by cases h)
      rw [hkey] at p1 p2 p3
      have hlit := two_lit (k := ⟨#[UInt8.ofNat F]⟩) hup HIx.out.few.inv.good (by rw [← hkey]; exact one_sizes z (by simp) false) rfl
      obtain ⟨R, hR⟩ : ∃ R, R = commitR x [((⟨#[UInt8.ofNat F]⟩ : ByteArray), [UInt8.ofNat z, UInt8.ofNat k], false)] := ⟨_, rfl⟩
      rw [← hR] at p1 p2 p3 hlit
      rw [p1] at hlit
      obtain ⟨cn, hcn⟩ : ∃ cn, cn = cs ++ [((⟨#[UInt8.ofNat F]⟩ : ByteArray), [UInt8.ofNat z, UInt8.ofNat k], false)] := ⟨_, rfl⟩
      rw [← hcn] at p2 hlit
      have HLIT := Lib.hid hlit
      have HN := Lib.hid p2
      have HE3 := Lib.hid p3
      have HXP := Lib.hid hxp
      have HBP := Lib.hid hbp
      clear ho' hg hn hup hxw hxp hbp p1 p2 p3 hR hlit hcn hbA ho hkey hlen hul y0 y1 y2
      have y0 := HXP.out.cell 0
      have y1 := HXP.out.cell 1
      have y2 := HXP.out.cell 2
      go_wp2_with fail
      go_at_call 12
      refine HLIT.out.mono ?_
      rintro e wq ⟨rfl, htq, hbq⟩
      have HTQ := Lib.hid htq
      have HBQ := Lib.hid ((HBP.out.alloc HBP.out.size _).trans hbq)
      clear htq hbq y0 y1 y2
      have hcq := (HBQ.out.cell (p := ⟨b, off + j, none⟩) hbs).trans hcell
      obtain ⟨e8, he8⟩ : ∃ e8, e8 = z % 8 := ⟨_, rfl⟩
      have m8 : (z : Int).tmod 8 = (e8 : Int) := by rw [Int.tmod_eq_emod_of_nonneg (by omega)]; omega
      have hl8 : e8 < 8 := by omega
      clear he8
      by_cases h8 : e8 = 0
      ·subst h8
       have HCK := Lib.hid (two_ck HTQ.out HN.out.few.inv.good (by have := HE3.out; have := HL1.out; omega))
       go_wp2_with fail
       go_at_call 15
       refine HCK.out.mono ?_
       rintro e wv ⟨rfl, htv, hbv⟩
       have HTV := Lib.hid htv
       have HBV := Lib.hid (HBQ.out.trans hbv)
       clear htv hbv
       go_wp2
       go_roundw
       case rel => exact ⟨j + 1, ckS R.1, cn, by omega, by go_num, HN.out.ck HE3.out (by have := HL1.out; omega), HTV.out, HBV.out⟩
       case measure => simp [intOf]; omega
      ·have h8' : ¬ (e8 : Int) = 0 := by omega
       go_wp2
       go_roundw
       case rel => exact ⟨j + 1, R.1, cn, by omega, by go_num, HN.out, HTQ.out, HBQ.out⟩
       case measure => simp [intOf]; omega
    ·go_simp
     first | refine gen_allocD ?_ | refine gen_alloc ?_
     intro w9 hw9 hbw9
     have hcs := hHeld.1.size
     have hblw9 : Below wb.heap.size wb w9 := by first | exact hbw9 | exact below_dl hbw9
     have HBX := Lib.hid (HBX.out.below hblw9 HBX.out.lt)
     have hv9 := fun hb => fb_two_ (b0 := wr.heap.size) hz255 hk hb (by first | exact .inl hw9 | exact .inr hw9)
     have hv9 := hv9 (by first | exact hcs | exact Nat.le_refl _)
     have hnv : wb.heap.size ≠ wr.heap.size := Nat.ne_of_gt hgblwb
     have hgvlw9 := fb_lt hv9
     have hgblw9 := HBX.out.lt
     clear hw9 hcs
     have hHeld' := hHeld.step hblw9
     refine hK.out _ _ ?_ (fun _ => ?_)
     ·exact hHeld'
     clear hK K hHeld
     try simp only [Act.put, List.setIfInBounds_toArray, List.set_cons_zero, List.set_cons_succ]
     have hHeld := hHeld'
     clear hHeld'
     refine wpAnyH_ready (rs := [6]) (by kernel_rfl) (by simp) ?_
     refine AllReadyH.cons (o := { dst := some 68, op := Op.buildSlice 22 1 #[(0, Operand.tmp 67)], type := 22, pos := "late.go:46", after := #[{ on := 5, ground := Ground.data }], guard := none }) rfl (fun K hK => ?_) AllReadyH.nil
     go_simp
     first | refine gen_allocD ?_ | refine gen_alloc ?_
     intro w8 hw8 hbw8
     have hcs := hHeld.1.size
     have hblw8 : Below w9.heap.size w9 w8 := by first | exact hbw8 | exact below_dl hbw8
     have hv9 := hv9.below hblw8
     have HBX := Lib.hid (HBX.out.below hblw8 HBX.out.lt)
     have hk8 := fun hb => fb_one_ (b0 := wr.heap.size) hF255 hb (by first | exact .inl hw8 | exact .inr hw8)
     have hk8 := hk8 (by first | exact hcs | exact Nat.le_refl _)
     have hne : w9.heap.size ≠ wr.heap.size := Nat.ne_of_gt hgblw9
     have hgklw8 := fb_lt hk8
     have hgvlw8 := fb_lt hv9
     have hgblw8 := HBX.out.lt
     clear hw8 hcs
     have hH8 := hHeld.key hblw8 hgklw8
     refine hK.out _ _ ?_ (fun _ => ?_)
     ·exact hH8.weak
     clear hK K hHeld
     try simp only [Act.put, List.setIfInBounds_toArray, List.set_cons_zero, List.set_cons_succ]
     have hHeld := hH8
     clear hH8
     refine wpAnyH_more (S' := HKK wr w8 (some (w9.heap.size))) (fun W h => h.weak) _ _ _ _ ?_
     have hk8w := hk8
     refine wpAnyH_take (i := 7) (oi := { dst := some 69, op := Op.convert 22 9 (Operand.tmp 68), type := 9, pos := "late.go:46", after := #[{ on := 6, ground := Ground.data }], guard := none }) (v := ?_) rfl (by kernel_rfl) (by kernel_rfl) (by kernel_rfl) (fun _ _ _ h => h) (Or.inl ⟨by rfl, ?_⟩) (by assumption) ?_
     rotate_left
     ·intro W hSw; have hq := str22 (fb_keep (w' := W) hk8w (fun k hk => by injection hk with hk; subst hk; exact (hSw.2.2 _ rfl).2)).rb; go_simp; try (with_reducible rfl)
     try simp only [Act.put, List.setIfInBounds_toArray, List.set_cons_zero, List.set_cons_succ]
     refine wpAnyH_take (i := 14) (oi := { dst := some 76, op := Op.build 33 #[(0, Operand.tmp 69), (1, Operand.tmp 75)], type := 33, pos := "late.go:46", after := #[{ on := 7, ground := Ground.data }, { on := 13, ground := Ground.data }], guard := none }) (v := ?_) rfl (by kernel_rfl) (by kernel_rfl) (by kernel_rfl) (fun _ _ _ h => h) (Or.inl ⟨by rfl, ?_⟩) (by assumption) ?_
     rotate_left
     ·intro W hSw; go_simp; try (with_reducible rfl)
     try simp only [Act.put, List.setIfInBounds_toArray, List.set_cons_zero, List.set_cons_succ]
     refine wpAnyH_ready (rs := [16]) (by kernel_rfl) (by simp) ?_
     refine AllReadyH.cons (o := { dst := none, op := Op.store 33 (Operand.tmp 13) (Operand.tmp 76), type := 0, pos := "late.go:46", after := #[{ on := 15, ground := Ground.data }, { on := 14, ground := Ground.data }, { on := 0, ground := Ground.phase }, { on := 1, ground := Ground.phase }, { on := 2, ground := Ground.phase }, { on := 3, ground := Ground.phase }, { on := 4, ground := Ground.phase }, { on := 5, ground := Ground.phase }, { on := 6, ground := Ground.phase }, { on := 7, ground := Ground.phase }, { on := 8, ground := Ground.phase }, { on := 9, ground := Ground.phase }, { on := 10, ground := Ground.phase }, { on := 11, ground := Ground.phase }, { on := 12, ground := Ground.phase }, { on := 13, ground := Ground.phase }, { on := 14, ground := Ground.phase }, { on := 15, ground := Ground.phase }], guard := none }) rfl (fun K hK => ?_) AllReadyH.nil
     have z0 := HBX.out.cell 0
     have z1 := HBX.out.cell 1
     have z2 := HBX.out.cell 2
     have zf := HBX.out.frozen
     have zl := HBX.out.lt
     go_simp
     have hHeld' := hHeld.box (gb := wr.heap.size) hgbr hne (.string ⟨#[UInt8.ofNat F]⟩) (.slice (some ⟨wb.heap.size, 0, none⟩) 2 2) (.bool false)
     refine hK.out _ _ ?_ (fun _ => ?_)
     ·exact hHeld'
     clear hK K hHeld
     have hHeld := hHeld'
     clear hHeld' z0 z1 z2 zf zl
     try simp only [Act.put, List.setIfInBounds_toArray, List.set_cons_zero, List.set_cons_succ]
     refine wpAnyH_done (by kernel_rfl) ?_ _
     refine gen_3x ?_
     intro wf hwf
     have hff : Fr (fun k => k = wr.heap.size) w8 wf := by rw [hwf]; exact fr_3x (D := fun k => k = wr.heap.size) (Fr.refl _ _) (.inl rfl) _ _ _
     have HBf := Lib.hid ((show Below wr.heap.size wr wf by rw [hwf]; exact hHeld.1))
     have HXf : Hid (Blk wf wr.heap.size 33 #[.string ⟨#[UInt8.ofNat F]⟩, .slice (some ⟨wb.heap.size, 0, none⟩) 2 2, .bool false]) := Lib.hid (by rw [hwf]; exact blk_3x HBX.out _ _ _)
     have HVf := Lib.hid (fb_keep (w' := wf) hv9 (fun k hk => by injection hk with hk; subst hk; exact hff.block _ (fb_lt hv9) hnv))
     have HGB := Lib.hid hgbr
     clear hwf hff hHeld HBX hk8 hv9 hk8w hne hnv
     clear hgbr
     have hcf := (HBf.out.cell (p := ⟨b, off + j, none⟩) HBR.out).trans HCR.out
     have HZ := Lib.hid hz255
     by_cases hz2 : 200 < z
     ·have hz3 : (200 : Int) < (z : Int) := by omega
      have y0 := HXf.out.cell 0
      have y1 := HXf.out.cell 1
      have y2 := HXf.out.cell 2
      have yf := HXf.out.frozen
      have yl := HXf.out.lt
      have hfg := fr_3x (D := fun k => k = wr.heap.size) (Fr.refl _ wf) (.inl rfl) (.string ⟨#[UInt8.ofNat F]⟩) (.slice none 0 0) (.bool true)
      have HBg := Lib.hid (HBf.out.trans (hfg.below (fun k hk => hk ▸ HGB.out) HBf.out.size))
      have HXg := Lib.hid (blk_3x HXf.out (.string ⟨#[UInt8.ofNat F]⟩) (.slice none 0 0) (.bool true))
      have HVg := Lib.hid (show FB 5 (((wf.setCell ⟨wr.heap.size, 0, none⟩ (.string ⟨#[UInt8.ofNat F]⟩)).setCell ⟨wr.heap.size, 1, none⟩ (.slice none 0 0)).setCell ⟨wr.heap.size, 2, none⟩ (.bool true)) wr.heap.size (.slice none 0 0) [] from .inl ⟨rfl, rfl⟩)
      clear hfg
      have hkey := HKEY.out
      obtain ⟨us, hul, hrow, hgrow⟩ := HTx.out.grow
      have hbA := HBg.out.alloc HBg.out.size (Obj.cells #[.string ⟨#[UInt8.ofNat F]⟩, .slice none 0 0, .bool true] 33)
      have ho := own_below hrow hbA
      skip
      have hlen : cs.length < 40 := by have := HIx.out.len; have := HL1.out; omega
      have hjl := HL1.out
      have hbw := HTx.out.size
      have HGROW := Lib.hid hgrow
      have HROW := Lib.hid hrow
      have HUL := Lib.hid hul
      clear hgrow
      go_wp2_with (at_builtin; refine wpList_own3 rfl (.tmp 85) (.tmp 87) 34 34 rfl w.heap.size 33 (.agg #[.string ⟨#[]⟩, .slice none 0 0, .bool false]) 3 48 Try.underlying34 info33 rfl rfl ho rfl (src_three _ (by simp) Try.underlying34 33 _ _ _ rfl rfl rfl) ?_ ?_ ?_ ?_)
      ·unfold maxLen; omega
      ·omega
      ·have hss := HBg.out.size
       first | exact Nat.le_trans hbw hbA.size | (simp; omega)
      intro v' wp ho' hg hn
      have hup := HGROW.out _ wp v' (.slice none 0 0) ⟨#[UInt8.ofNat F]⟩ ([]) true hbA (HVg.out.below ((Below.refl _ _).alloc (Nat.le_refl _) _)) (by rw [hul]; exact ho') hg (hn.imp id (fun h => h.trans (by simp)))
      have hxw := HXg.out.alloc (Obj.cells #[.string ⟨#[UInt8.ofNat F]⟩, .slice none 0 0, .bool true] 33)
      have hxp : Blk wp wr.heap.size 33 #[.string ⟨#[UInt8.ofNat F]⟩, .slice none 0 0, .bool true] := (hg.block wr.heap.size (Blk.lt hxw) (fun he => Nat.lt_irrefl _ (Nat.lt_of_lt_of_le (HROW.out.lt _ he.symm).2 HGB.out))).trans hxw
      have hbp := (HBx.out.trans (hbA.mono HBx.out.size)).grown hg (Nat.le_trans HBx.out.size hbA.size) (fun k hk => (HROW.out.lt k hk).1)
      obtain ⟨p1, p2, p3⟩ := HIx.out.put (by omega) z (v := []) (g := true) (by simp) (fun _ => rfl)
      rw [hkey] at p1 p2 p3
      have hlit := two_lit (k := ⟨#[UInt8.ofNat F]⟩) hup HIx.out.few.inv.good (by rw [← hkey]; exact one_sizes z (by simp) true) rfl
      obtain ⟨R, hR⟩ : ∃ R, R = commitR x [((⟨#[UInt8.ofNat F]⟩ : ByteArray), [], true)] := ⟨_, rfl⟩
      rw [← hR] at p1 p2 p3 hlit
      rw [p1] at hlit
      obtain ⟨cn, hcn⟩ : ∃ cn, cn = cs ++ [((⟨#[UInt8.ofNat F]⟩ : ByteArray), [], true)] := ⟨_, rfl⟩
      rw [← hcn] at p2 hlit
      have HLIT := Lib.hid hlit
      have HN := Lib.hid p2
      have HE3 := Lib.hid p3
      have HXP := Lib.hid hxp
      have HBP := Lib.hid hbp
      clear ho' hg hn hup hxw hxp hbp p1 p2 p3 hR hlit hcn hbA ho hkey hlen hul y0 y1 y2
      have y0 := HXP.out.cell 0
      have y1 := HXP.out.cell 1
      have y2 := HXP.out.cell 2
      go_wp2_with fail
      go_at_call 12
      refine HLIT.out.mono ?_
      rintro e wq ⟨rfl, htq, hbq⟩
      have HTQ := Lib.hid htq
      have HBQ := Lib.hid ((HBP.out.alloc HBP.out.size _).trans hbq)
      clear htq hbq y0 y1 y2
      have hcq := (HBQ.out.cell (p := ⟨b, off + j, none⟩) hbs).trans hcell
      obtain ⟨e8, he8⟩ : ∃ e8, e8 = z % 8 := ⟨_, rfl⟩
      have m8 : (z : Int).tmod 8 = (e8 : Int) := by rw [Int.tmod_eq_emod_of_nonneg (by omega)]; omega
      have hl8 : e8 < 8 := by omega
      clear he8
      by_cases h8 : e8 = 0
      ·subst h8
       have HCK := Lib.hid (two_ck HTQ.out HN.out.few.inv.good (by have := HE3.out; have := HL1.out; omega))
       go_wp2_with fail
       go_at_call 15
       refine HCK.out.mono ?_
       rintro e wv ⟨rfl, htv, hbv⟩
       have HTV := Lib.hid htv
       have HBV := Lib.hid (HBQ.out.trans hbv)
       clear htv hbv
       go_wp2
       go_roundw
       case rel => exact ⟨j + 1, ckS R.1, cn, by omega, by go_num, HN.out.ck HE3.out (by have := HL1.out; omega), HTV.out, HBV.out⟩
       case measure => simp [intOf]; omega
      ·have h8' : ¬ (e8 : Int) = 0 := by omega
       go_wp2
       go_roundw
       case rel => exact ⟨j + 1, R.1, cn, by omega, by go_num, HN.out, HTQ.out, HBQ.out⟩
       case measure => simp [intOf]; omega
     ·have hz3 : ¬ (200 : Int) < (z : Int) := by omega
      have hkey := HKEY.out
      obtain ⟨us, hul, hrow, hgrow⟩ := HTx.out.grow
      have hbA := HBf.out.alloc HBf.out.size (Obj.cells #[.string ⟨#[UInt8.ofNat F]⟩, .slice (some ⟨wb.heap.size, 0, none⟩) 2 2, .bool false] 33)
      have ho := own_below hrow hbA
      have y0 := HXf.out.cell 0
      have y1 := HXf.out.cell 1
      have y2 := HXf.out.cell 2
      have hlen : cs.length < 40 := by have := HIx.out.len; have := HL1.out; omega
      have hjl := HL1.out
      have hbw := HTx.out.size
      have HGROW := Lib.hid hgrow
      have HROW := Lib.hid hrow
      have HUL := Lib.hid hul
      clear hgrow
      go_wp2_with (at_builtin; refine wpList_own3 rfl (.tmp 85) (.tmp 87) 34 34 rfl w.heap.size 33 (.agg #[.string ⟨#[]⟩, .slice none 0 0, .bool false]) 3 48 Try.underlying34 info33 rfl rfl ho rfl (src_three _ (by simp) Try.underlying34 33 _ _ _ rfl rfl rfl) ?_ ?_ ?_ ?_)
      ·unfold maxLen; omega
      ·omega
      ·have hss := HBf.out.size
       first | exact Nat.le_trans hbw hbA.size | (simp; omega)
      intro v' wp ho' hg hn
      have hup := HGROW.out _ wp v' (.slice (some ⟨wb.heap.size, 0, none⟩) 2 2) ⟨#[UInt8.ofNat F]⟩ ([UInt8.ofNat z, UInt8.ofNat k]) false hbA (HVf.out.below ((Below.refl _ _).alloc (Nat.le_refl _) _)) (by rw [hul]; exact ho') hg (hn.imp id (fun h => h.trans (by simp)))
      have hxw := HXf.out.alloc (Obj.cells #[.string ⟨#[UInt8.ofNat F]⟩, .slice (some ⟨wb.heap.size, 0, none⟩) 2 2, .bool false] 33)
      have hxp : Blk wp wr.heap.size 33 #[.string ⟨#[UInt8.ofNat F]⟩, .slice (some ⟨wb.heap.size, 0, none⟩) 2 2, .bool false] := (hg.block wr.heap.size (Blk.lt hxw) (fun he => Nat.lt_irrefl _ (Nat.lt_of_lt_of_le (HROW.out.lt _ he.symm).2 HGB.out))).trans hxw
      have hbp := (HBx.out.trans (hbA.mono HBx.out.size)).grown hg (Nat.le_trans HBx.out.size hbA.size) (fun k hk => (HROW.out.lt k hk).1)
      obtain ⟨p1, p2, p3⟩ := HIx.out.put (by omega) z (v := [UInt8.ofNat z, UInt8.ofNat k]) (g := false) (by simp) (fun h => by cases h)
      rw [hkey] at p1 p2 p3
      have hlit := two_lit (k := ⟨#[UInt8.ofNat F]⟩) hup HIx.out.few.inv.good (by rw [← hkey]; exact one_sizes z (by simp) false) rfl
      obtain ⟨R, hR⟩ : ∃ R, R = commitR x [((⟨#[UInt8.ofNat F]⟩ : ByteArray), [UInt8.ofNat z, UInt8.ofNat k], false)] := ⟨_, rfl⟩
      rw [← hR] at p1 p2 p3 hlit
      rw [p1] at hlit
      obtain ⟨cn, hcn⟩ : ∃ cn, cn = cs ++ [((⟨#[UInt8.ofNat F]⟩ : ByteArray), [UInt8.ofNat z, UInt8.ofNat k], false)] := ⟨_, rfl⟩
      rw [← hcn] at p2 hlit
      have HLIT := Lib.hid hlit
      have HN := Lib.hid p2
      have HE3 := Lib.hid p3
      have HXP := Lib.hid hxp
      have HBP := Lib.hid hbp
      clear ho' hg hn hup hxw hxp hbp p1 p2 p3 hR hlit hcn hbA ho hkey hlen hul y0 y1 y2
      have y0 := HXP.out.cell 0
      have y1 := HXP.out.cell 1
      have y2 := HXP.out.cell 2
      go_wp2_with fail
      go_at_call 12
      refine HLIT.out.mono ?_
      rintro e wq ⟨rfl, htq, hbq⟩
      have HTQ := Lib.hid htq
      have HBQ := Lib.hid ((HBP.out.alloc HBP.out.size _).trans hbq)
      clear htq hbq y0 y1 y2
      have hcq := (HBQ.out.cell (p := ⟨b, off + j, none⟩) hbs).trans hcell
      obtain ⟨e8, he8⟩ : ∃ e8, e8 = z % 8 := ⟨_, rfl⟩
      have m8 : (z : Int).tmod 8 = (e8 : Int) := by rw [Int.tmod_eq_emod_of_nonneg (by omega)]; omega
      have hl8 : e8 < 8 := by omega
      clear he8
      by_cases h8 : e8 = 0
      ·subst h8
       have HCK := Lib.hid (two_ck HTQ.out HN.out.few.inv.good (by have := HE3.out; have := HL1.out; omega))
       go_wp2_with fail
       go_at_call 15
       refine HCK.out.mono ?_
       rintro e wv ⟨rfl, htv, hbv⟩
       have HTV := Lib.hid htv
       have HBV := Lib.hid (HBQ.out.trans hbv)
       clear htv hbv
       go_wp2
       go_roundw
       case rel => exact ⟨j + 1, ckS R.1, cn, by omega, by go_num, HN.out.ck HE3.out (by have := HL1.out; omega), HTV.out, HBV.out⟩
       case measure => simp [intOf]; omega
      ·have h8' : ¬ (e8 : Int) = 0 := by omega
       go_wp2
       go_roundw
       case rel => exact ⟨j + 1, R.1, cn, by omega, by go_num, HN.out, HTQ.out, HBQ.out⟩
       case measure => simp [intOf]; omega
  ·obtain rfl : j = l.length := by omega
   have hm2 : ¬ (l.length : Int) < (l.length : Int) := by omega
   obtain ⟨a1, a2, a3, a4⟩ := all_commit (cs := cs) HI.out.few.inv HI.out.few.n HEP.out HUS.out HFR.out HRW.out (by have := HIx.out.len; have := HL1.out; omega) HIx.out.short
   have hall := two_all HTx.out HI.out.few.inv.good (by have := HIx.out.len; have := HL1.out; omega) a4
   obtain ⟨Z, hZ⟩ : ∃ Z, Z = commitR Y cs := ⟨_, rfl⟩
   rw [← hZ] at a1 a2 a3 hall
   rw [a1] at hall
   have HALL := Lib.hid hall
   have HZR := Lib.hid (a2.trans HIx.out.rows.symm)
   have HZI := Lib.hid a3
   have HXI := Lib.hid HIx.out.few.inv
   have HRL := Lib.hid (show x.rows.length ≤ 40 by have := HIx.out.few.len; have := HL1.out; omega)
   obtain ⟨RL, hRL⟩ : ∃ RL, RL = x.rows.length := ⟨_, rfl⟩
   have HRLE := Lib.hid hRL
   have hrl40 : RL ≤ 40 := by rw [hRL]; exact HRL.out
   clear a1 a2 a3 a4 hall hZ hRL
   go_wp2_with fail
   go_at_call 12
   refine HALL.out.mono ?_
   rintro e w7 ⟨rfl, hs7, ht7, hb7⟩
   have HS7 := Lib.hid hs7
   have HT7 := Lib.hid ht7
   have HB7 := Lib.hid (HBx.out.trans hb7)
   have HR7 := Lib.hid (own_rowsS hs7 HXI.out.good)
   clear hs7 ht7 hb7
   go_wp2_with fail
   go_at_call 14
   refine HR7.out.mono ?_
   rintro e w8 ⟨rv8, rfl, hor8, hb8⟩
   obtain ⟨A8, c8, hrv8⟩ := or_shape hor8
   subst hrv8
   have HS8 := Lib.hid (HS7.out.below hb8)
   have HT8 := Lib.hid (HT7.out.below hb8)
   have HB8 := Lib.hid (HB7.out.trans (hb8.mono HB7.out.size))
   have HR8 := own_rowsS HT8.out HZI.out.good
   rw [HZR.out] at HR8
   have HR8 := Lib.hid HR8
   clear hor8 hb8
   rw [← HRLE.out]
   go_wp2_with fail
   go_at_call 14
   refine HR8.out.mono ?_
   rintro e w9 ⟨rv9, rfl, hor9, hb9⟩
   obtain ⟨A9, c9, hrv9⟩ := or_shape hor9
   subst hrv9
   have HS9 := Lib.hid (HS8.out.below hb9)
   have HT9 := Lib.hid (HT8.out.below hb9)
   have HB9 := Lib.hid (HB8.out.trans (hb9.mono HB8.out.size))
   have HR9 := own_rowsS HT9.out HZI.out.good
   rw [HZR.out] at HR9
   have HR9 := Lib.hid HR9
   clear hor9 hb9
   rw [← HRLE.out]
   go_wp2_with fail
   go_at_call 14
   refine HR9.out.mono ?_
   rintro e w10 ⟨rv10, rfl, hor10, hb10⟩
   obtain ⟨A10, c10, hrv10⟩ := or_shape hor10
   subst hrv10
   have HS10 := Lib.hid (HS9.out.below hb10)
   have HB10 := Lib.hid (HB9.out.trans (hb10.mono HB9.out.size))
   have HOR10 := Lib.hid hor10
   clear hor10 hb10
   have hrr10 := HOR10.out.rr
   rw [← HRLE.out]
   rw [← HRLE.out] at hrr10
   have HRR := Lib.hid hrr10
   clear hrr10
   go_wp2_with fail
   go_loopw [121] (fun q wr => ∃ i : Nat, i ≤ RL ∧ q = .int .i64 i ∧ Below w10.heap.size w10 wr) (fun q _ => RL - (intOf q).toNat)
   case atStart => exact ⟨0, Nat.zero_le _, rfl, Below.refl _ _⟩
   case round =>
    obtain ⟨i, hi, rfl, hbi⟩ := hrel
    have HBi := Lib.hid hbi
    clear hbi
    by_cases hlt : i < RL
    ·have hlt2 : (i : Int) < (RL : Int) := by omega
     have hltx : i < x.rows.length := by rw [← HRLE.out]; exact hlt
     obtain ⟨b, off, u, hA, q1, q2, hru⟩ := rr_at (rr_below HRR.out HBi.out (Nat.le_refl _)) hltx
     subst hA
     obtain ⟨K, hK⟩ : ∃ K, K = x.rows[i].1 := ⟨_, rfl⟩
     obtain ⟨VL, hVL⟩ : ∃ VL, VL = x.rows[i].2 := ⟨_, rfl⟩
     rw [← hK] at q1
     rw [← hVL] at hru
     obtain ⟨Au, cu, hu⟩ := rb_shape hru
     subst hu
     have HRU := Lib.hid hru
     have HK := Lib.hid hK
     have HVL := Lib.hid hVL
     clear hru hK hVL
     go_wp2_with fail
     refine gen_alloc ?_
     intro wb hwb hbb
     have HXb : Hid (Blk wb wr.heap.size 47 #[.string K, .slice Au VL.length cu]) := Lib.hid (by rw [hwb]; exact heap_alloc_new _ _)
     have HBb := Lib.hid (HBi.out.trans (hbb.mono HBi.out.size))
     have HRb := Lib.hid (HRU.out.below hbb)
     have HSb := Lib.hid (HS10.out.below HBb.out)
     clear hwb hbb q1 q2
     refine wp_region_held_drew (S := SB [wb]) (by kernel_rfl) (SB.start _) (fun hHeld => ?_)
     refine wpAnyH_take (i := 0) (oi := { dst := some 126, op := Op.move (Operand.tmp 7), type := 29, pos := "late.go:62", after := #[], guard := none }) (v := ?_) rfl (by kernel_rfl) (by kernel_rfl) (by kernel_rfl) (fun _ _ _ h => h) (Or.inl ⟨by rfl, ?_⟩) (by assumption) ?_
     rotate_left
     ·intro W hSw; go_simp; try (with_reducible rfl)
     try simp only [Act.put, List.setIfInBounds_toArray, List.set_cons_zero, List.set_cons_succ]
     refine wpAnyH_take (i := 2) (oi := { dst := some 128, op := Op.move (Operand.tmp 14), type := 3, pos := "late.go:62", after := #[], guard := none }) (v := ?_) rfl (by kernel_rfl) (by kernel_rfl) (by kernel_rfl) (fun _ _ _ h => h) (Or.inl ⟨by rfl, ?_⟩) (by assumption) ?_
     rotate_left
     ·intro W hSw; go_simp; try (with_reducible rfl)
     try simp only [Act.put, List.setIfInBounds_toArray, List.set_cons_zero, List.set_cons_succ]
     refine wpAnyH_take (i := 6) (oi := { dst := some 132, op := Op.fieldAddr 47 (Operand.tmp 15) 0, type := 0, pos := "late.go:62", after := #[], guard := none }) (v := ?_) rfl (by kernel_rfl) (by kernel_rfl) (by kernel_rfl) (fun _ _ _ h => h) (Or.inl ⟨by rfl, ?_⟩) (by assumption) ?_
     rotate_left
     ·intro W hSw; go_simp; try (with_reducible rfl)
     try simp only [Act.put, List.setIfInBounds_toArray, List.set_cons_zero, List.set_cons_succ]
     refine wpAnyH_take (i := 7) (oi := { dst := some 133, op := Op.load 9 (Operand.tmp 132), type := 9, pos := "late.go:62", after := #[{ on := 6, ground := Ground.data }], guard := none }) (v := ?_) rfl (by kernel_rfl) (by kernel_rfl) (by kernel_rfl) (fun _ _ _ h => h) (Or.inl ⟨by rfl, ?_⟩) (by assumption) ?_
     rotate_left
     ·intro W hSw; have hq := (((SB.b0 hSw)).cell (p := ⟨wr.heap.size, 0, none⟩) HXb.out.lt).trans (HXb.out.cell 0); go_simp; try (with_reducible rfl)
     try simp only [Act.put, List.setIfInBounds_toArray, List.set_cons_zero, List.set_cons_succ]
     refine wpAnyH_ready (rs := [1]) (by kernel_rfl) (by simp) ?_
     refine AllReadyH.cons (o := { dst := some 127, op := Op.call { callee := Callee.value (Operand.func 14), args := #[Operand.tmp 126], argTypes := #[29] }, type := 40, pos := "late.go:62", after := #[{ on := 0, ground := Ground.data }], guard := none }) rfl (fun K hK => ?_) AllReadyH.nil
     go_simp
     refine (own_rowsS (HSb.out.below (SB.b0 hHeld)) HXI.out.good).mono ?_
     rintro e wc ⟨rvwc, rfl, horwc, hbwc⟩
     obtain ⟨gwc, capwc, vwc, hvwc, hgwc, qawc, qbwc, hfwc⟩ := or_row horwc hltx
     rw [← HK.out] at qawc
     rw [← HVL.out] at hfwc
     subst hvwc
     obtain ⟨Awc, cwc, hswc⟩ := rb_shape hfwc.rb
     subst hswc
     rw [← HRLE.out]
     clear horwc
     try (go_wp2_with fail)
     have hHeld' := SB.step hHeld hbwc
     refine hK.out _ _ ?_ (fun _ => ?_)
     ·exact hHeld'
     clear hK K
     try simp only [Act.put, List.setIfInBounds_toArray, List.set_cons_zero, List.set_cons_succ]
     have hHeld := SB.more hHeld'
     clear hHeld'
     refine wpAnyH_more (S' := SB [wc, wb]) (fun W h => SB.less W h) _ _ _ _ ?_
     refine wpAnyH_take (i := 3) (oi := { dst := some 129, op := Op.indexAddr 40 (Operand.tmp 127) (Operand.tmp 128), type := 0, pos := "late.go:62", after := #[{ on := 1, ground := Ground.data }, { on := 2, ground := Ground.data }], guard := none }) (v := ?_) rfl (by kernel_rfl) (by kernel_rfl) (by kernel_rfl) (fun _ _ _ h => h) (Or.inl ⟨by rfl, ?_⟩) (by assumption) ?_
     rotate_left
     ·intro W hSw; go_simp; try (with_reducible rfl)
     try simp only [Act.put, List.setIfInBounds_toArray, List.set_cons_zero, List.set_cons_succ]
     refine wpAnyH_take (i := 4) (oi := { dst := some 130, op := Op.fieldAddr 47 (Operand.tmp 129) 0, type := 0, pos := "late.go:62", after := #[{ on := 3, ground := Ground.data }], guard := none }) (v := ?_) rfl (by kernel_rfl) (by kernel_rfl) (by kernel_rfl) (fun _ _ _ h => h) (Or.inl ⟨by rfl, ?_⟩) (by assumption) ?_
     rotate_left
     ·intro W hSw; go_simp; try (with_reducible rfl)
     try simp only [Act.put, List.setIfInBounds_toArray, List.set_cons_zero, List.set_cons_succ]
     refine wpAnyH_take (i := 5) (oi := { dst := some 131, op := Op.load 9 (Operand.tmp 130), type := 9, pos := "late.go:62", after := #[{ on := 4, ground := Ground.data }], guard := none }) (v := ?_) rfl (by kernel_rfl) (by kernel_rfl) (by kernel_rfl) (fun _ _ _ h => h) (Or.inl ⟨by rfl, ?_⟩) (by assumption) ?_
     rotate_left
     ·intro W hSw; have hq := (((SB.b0 hSw)).cell (p := ⟨gwc, i * 2, none⟩) hgwc).trans qawc; go_simp; try (with_reducible rfl)
     try simp only [Act.put, List.setIfInBounds_toArray, List.set_cons_zero, List.set_cons_succ]
     refine wpAnyH_take (i := 8) (oi := { dst := some 134, op := Op.binOp BinOp.neq 9 (Operand.tmp 131) (Operand.tmp 133) 9, type := 4, pos := "late.go:62", after := #[{ on := 5, ground := Ground.data }, { on := 7, ground := Ground.data }], guard := none }) (v := ?_) rfl (by kernel_rfl) (by kernel_rfl) (by kernel_rfl) (fun _ _ _ h => h) (Or.inl ⟨by rfl, ?_⟩) (by assumption) ?_
     rotate_left
     ·intro W hSw; go_simp; try (with_reducible rfl)
     try simp only [Act.put, List.setIfInBounds_toArray, List.set_cons_zero, List.set_cons_succ]
     refine wpAnyH_take (i := 9) (oi := { dst := some 135, op := Op.move (Operand.tmp 134), type := 4, pos := "late.go:62", after := #[{ on := 8, ground := Ground.data }, { on := 1, ground := Ground.chain }], guard := none }) (v := ?_) rfl (by kernel_rfl) (by kernel_rfl) (by kernel_rfl) (fun _ _ _ h => h) (Or.inl ⟨by rfl, ?_⟩) (by assumption) ?_
     rotate_left
     ·intro W hSw; go_simp; try (with_reducible rfl)
     try simp only [Act.put, List.setIfInBounds_toArray, List.set_cons_zero, List.set_cons_succ]
     refine wpAnyH_take (i := 10) (oi := { dst := some 136, op := Op.move (Operand.tmp 7), type := 29, pos := "late.go:62", after := #[{ on := 9, ground := Ground.guard }], guard := some (9, false) }) (v := ?_) rfl (by kernel_rfl) (by kernel_rfl) (by kernel_rfl) (fun _ _ _ h => h) (Or.inl ⟨by rfl, ?_⟩) (by assumption) ?_
     rotate_left
     ·intro W hSw; go_simp; try (with_reducible rfl)
     try simp only [Act.put, List.setIfInBounds_toArray, List.set_cons_zero, List.set_cons_succ]
     refine wpAnyH_take (i := 12) (oi := { dst := some 138, op := Op.move (Operand.tmp 14), type := 3, pos := "late.go:62", after := #[{ on := 9, ground := Ground.guard }], guard := some (9, false) }) (v := ?_) rfl (by kernel_rfl) (by kernel_rfl) (by kernel_rfl) (fun _ _ _ h => h) (Or.inl ⟨by rfl, ?_⟩) (by assumption) ?_
     rotate_left
     ·intro W hSw; go_simp; try (with_reducible rfl)
     try simp only [Act.put, List.setIfInBounds_toArray, List.set_cons_zero, List.set_cons_succ]
     refine wpAnyH_take (i := 17) (oi := { dst := some 143, op := Op.fieldAddr 47 (Operand.tmp 15) 1, type := 0, pos := "late.go:62", after := #[{ on := 9, ground := Ground.guard }], guard := some (9, false) }) (v := ?_) rfl (by kernel_rfl) (by kernel_rfl) (by kernel_rfl) (fun _ _ _ h => h) (Or.inl ⟨by rfl, ?_⟩) (by assumption) ?_
     rotate_left
     ·intro W hSw; go_simp; try (with_reducible rfl)
     try simp only [Act.put, List.setIfInBounds_toArray, List.set_cons_zero, List.set_cons_succ]
     refine wpAnyH_take (i := 18) (oi := { dst := some 144, op := Op.load 22 (Operand.tmp 143), type := 22, pos := "late.go:62", after := #[{ on := 17, ground := Ground.data }, { on := 9, ground := Ground.guard }], guard := some (9, false) }) (v := ?_) rfl (by kernel_rfl) (by kernel_rfl) (by kernel_rfl) (fun _ _ _ h => h) (Or.inl ⟨by rfl, ?_⟩) (by assumption) ?_
     rotate_left
     ·intro W hSw; have hq := (((SB.b1 hSw)).cell (p := ⟨wr.heap.size, 1, none⟩) HXb.out.lt).trans (HXb.out.cell 1); go_simp; try (with_reducible rfl)
     try simp only [Act.put, List.setIfInBounds_toArray, List.set_cons_zero, List.set_cons_succ]
     refine wpAnyH_take (i := 19) (oi := { dst := some 145, op := Op.convert 22 9 (Operand.tmp 144), type := 9, pos := "late.go:62", after := #[{ on := 18, ground := Ground.data }, { on := 9, ground := Ground.guard }], guard := some (9, false) }) (v := ?_) rfl (by kernel_rfl) (by kernel_rfl) (by kernel_rfl) (fun _ _ _ h => h) (Or.inl ⟨by rfl, ?_⟩) (by assumption) ?_
     rotate_left
     ·intro W hSw; have hq := str22 (HRb.out.below (SB.b1 hSw)); go_simp; try (with_reducible rfl)
     try simp only [Act.put, List.setIfInBounds_toArray, List.set_cons_zero, List.set_cons_succ]
     refine wpAnyH_ready (rs := [11]) (by kernel_rfl) (by simp) ?_
     refine AllReadyH.cons (o := { dst := some 137, op := Op.call { callee := Callee.value (Operand.func 14), args := #[Operand.tmp 136], argTypes := #[29] }, type := 40, pos := "late.go:62", after := #[{ on := 10, ground := Ground.data }, { on := 9, ground := Ground.chain }, { on := 9, ground := Ground.guard }], guard := some (9, false) }) rfl (fun K hK => ?_) AllReadyH.nil
     go_simp
     refine (own_rowsS (HSb.out.below (SB.b1 hHeld)) HXI.out.good).mono ?_
     rintro e wd ⟨rvwd, rfl, horwd, hbwd⟩
     obtain ⟨gwd, capwd, vwd, hvwd, hgwd, qawd, qbwd, hfwd⟩ := or_row horwd hltx
     rw [← HK.out] at qawd
     rw [← HVL.out] at hfwd
     subst hvwd
     obtain ⟨Awd, cwd, hswd⟩ := rb_shape hfwd.rb
     subst hswd
     rw [← HRLE.out]
     clear horwd
     try (go_wp2_with fail)
     have hHeld' := SB.step hHeld hbwd
     refine hK.out _ _ ?_ (fun _ => ?_)
     ·exact hHeld'
     clear hK K
     try simp only [Act.put, List.setIfInBounds_toArray, List.set_cons_zero, List.set_cons_succ]
     have hHeld := SB.more hHeld'
     clear hHeld'
     refine wpAnyH_more (S' := SB [wd, wc, wb]) (fun W h => SB.less W h) _ _ _ _ ?_
     refine wpAnyH_take (i := 13) (oi := { dst := some 139, op := Op.indexAddr 40 (Operand.tmp 137) (Operand.tmp 138), type := 0, pos := "late.go:62", after := #[{ on := 11, ground := Ground.data }, { on := 12, ground := Ground.data }, { on := 9, ground := Ground.guard }], guard := some (9, false) }) (v := ?_) rfl (by kernel_rfl) (by kernel_rfl) (by kernel_rfl) (fun _ _ _ h => h) (Or.inl ⟨by rfl, ?_⟩) (by assumption) ?_
     rotate_left
     ·intro W hSw; go_simp; try (with_reducible rfl)
     try simp only [Act.put, List.setIfInBounds_toArray, List.set_cons_zero, List.set_cons_succ]
     refine wpAnyH_take (i := 14) (oi := { dst := some 140, op := Op.fieldAddr 47 (Operand.tmp 139) 1, type := 0, pos := "late.go:62", after := #[{ on := 13, ground := Ground.data }, { on := 9, ground := Ground.guard }], guard := some (9, false) }) (v := ?_) rfl (by kernel_rfl) (by kernel_rfl) (by kernel_rfl) (fun _ _ _ h => h) (Or.inl ⟨by rfl, ?_⟩) (by assumption) ?_
     rotate_left
     ·intro W hSw; go_simp; try (with_reducible rfl)
     try simp only [Act.put, List.setIfInBounds_toArray, List.set_cons_zero, List.set_cons_succ]
     refine wpAnyH_take (i := 15) (oi := { dst := some 141, op := Op.load 22 (Operand.tmp 140), type := 22, pos := "late.go:62", after := #[{ on := 14, ground := Ground.data }, { on := 9, ground := Ground.guard }], guard := some (9, false) }) (v := ?_) rfl (by kernel_rfl) (by kernel_rfl) (by kernel_rfl) (fun _ _ _ h => h) (Or.inl ⟨by rfl, ?_⟩) (by assumption) ?_
     rotate_left
     ·intro W hSw; have hq := (((SB.b0 hSw)).cell (p := ⟨gwd, i * 2 + 1, none⟩) hgwd).trans qbwd; go_simp; try (with_reducible rfl)
     try simp only [Act.put, List.setIfInBounds_toArray, List.set_cons_zero, List.set_cons_succ]
     refine wpAnyH_take (i := 16) (oi := { dst := some 142, op := Op.convert 22 9 (Operand.tmp 141), type := 9, pos := "late.go:62", after := #[{ on := 15, ground := Ground.data }, { on := 9, ground := Ground.guard }], guard := some (9, false) }) (v := ?_) rfl (by kernel_rfl) (by kernel_rfl) (by kernel_rfl) (fun _ _ _ h => h) (Or.inl ⟨by rfl, ?_⟩) (by assumption) ?_
     rotate_left
     ·intro W hSw; have hq := str22 (hfwd.rb.below (SB.b0 hSw)); go_simp; try (with_reducible rfl)
     try simp only [Act.put, List.setIfInBounds_toArray, List.set_cons_zero, List.set_cons_succ]
     refine wpAnyH_take (i := 20) (oi := { dst := some 146, op := Op.binOp BinOp.neq 9 (Operand.tmp 142) (Operand.tmp 145) 9, type := 4, pos := "late.go:62", after := #[{ on := 16, ground := Ground.data }, { on := 19, ground := Ground.data }, { on := 9, ground := Ground.guard }], guard := some (9, false) }) (v := ?_) rfl (by kernel_rfl) (by kernel_rfl) (by kernel_rfl) (fun _ _ _ h => h) (Or.inl ⟨by rfl, ?_⟩) (by assumption) ?_
     rotate_left
     ·intro W hSw; go_simp; try (with_reducible rfl)
     try simp only [Act.put, List.setIfInBounds_toArray, List.set_cons_zero, List.set_cons_succ]
     refine wpAnyH_take (i := 21) (oi := { dst := some 147, op := Op.pick (Operand.tmp 135) (Operand.const (Value.bool true)) (Operand.tmp 146), type := 4, pos := "late.go:62", after := #[{ on := 9, ground := Ground.data }, { on := 20, ground := Ground.data }], guard := none }) (v := ?_) rfl (by kernel_rfl) (by kernel_rfl) (by kernel_rfl) (fun _ _ _ h => h) (Or.inl ⟨by rfl, ?_⟩) (by assumption) ?_
     rotate_left
     ·intro W hSw; go_simp; try (with_reducible rfl)
     try simp only [Act.put, List.setIfInBounds_toArray, List.set_cons_zero, List.set_cons_succ]
     refine wpAnyH_done (by kernel_rfl) ?_ _
     have HBz := Lib.hid (HBb.out.trans ((SB.b2 hHeld).mono HBb.out.size))
     clear hHeld
     go_wp2
     go_roundw
     case rel => exact ⟨i + 1, by omega, by go_num, HBz.out⟩
     case measure => simp [intOf]; omega
    ·obtain rfl : i = RL := by omega
     have hm2 : ¬ (i : Int) < (i : Int) := by omega
     have HBe := Lib.hid (HB10.out.trans (HBi.out.mono HB10.out.size))
     go_wp2_with fail
     go_at_call 8
     refine (HKN.out _).mono ?_
     rintro e wk ⟨rfl, hbk⟩
     have HBK := Lib.hid (HBe.out.trans (hbk.mono HBe.out.size))
     clear hbk
     go_wp2
     go_ret
     exact ⟨rfl, HBK.out⟩
end Go.Proofs.Ytmbkaedhllfoeaa
