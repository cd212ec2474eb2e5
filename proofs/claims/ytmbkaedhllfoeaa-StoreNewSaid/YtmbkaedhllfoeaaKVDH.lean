/-
 The contract of the store's laid: the pages that a head tells of.
-/
import Derived.Test.YtmbkaedhllfoeaaKVCE
import Derived.Test.YtmbkaedhllfoeaaKVCF
import Derived.Test.YtmbkaedhllfoeaaKVDG
set_option linter.unusedVariables false
namespace Go.Proofs.Ytmbkaedhllfoeaa
open Go.RowKit Go.Rst Go.Dv Go.Crc Go.Str
def laidL (s : Sim) (ar pg : Nat) : List (List UInt8) := chunkL256 (secsL s (firstN s.firm.length ar) (pg * 4)).flatten
set_option maxRecDepth 100000 in
set_option maxHeartbeats 2000000 in
theorem laid_any {D : Nat → Prop} {w : World} {v : Value} {s : Sim} (ep ar pg : Nat) (h : Dev D w v s) (hn : 64 ≤ s.firm.length) (har : ar ≤ 1) (hp0 : 0 < pg) (hpg : pg ≤ aN s.firm.length) :
  Calls Try.prog 24 #[dv v, .agg #[.int .i64 (ep : Int), .int .i64 (ar : Int), .int .i64 (pg : Int)]] w fun e w' => ∃ pv, e = .returned pv ∧ PN w' w.heap.size pv (laidL s ar pg) ∧ Below w.heap.size w w' := by
 have HN := h.ok.n
 have HOK := Lib.hid h.ok
 have H := Lib.hid h
 obtain ⟨g, rfl⟩ := dev_ptr h
 have hff := firstN_le hn har hpg
 have ha := aN_le s.firm.length
 obtain ⟨F, hF⟩ : ∃ F, F = firstN s.firm.length ar := ⟨_, rfl⟩
 rw [← hF] at hff
 have HF := Lib.hid hF
 have hpg6 : pg ≤ 600 := by omega
 have hmul : ((pg * 4 : Nat) : Int) = (pg : Int) * 4 := by omega
 have hc1 := fun X (hX : Below w.heap.size w X) => first_any (w := X) ar har (H.out.below hX)
 rw [← hF] at hc1
 have HC1 := Lib.hid hc1
 have hc2 := fun X (hX : Below w.heap.size w X) => rd_any (w := X) F (pg * 4) (H.out.below hX) (by omega)
 rw [hmul] at hc2
 have HC2 := Lib.hid hc2
 have hw4 : IntKind.i64.wrap ((pg : Int) * 4) = (pg : Int) * 4 := by rw [IntKind.wrap_i64]; omega
 obtain ⟨B, hB⟩ : ∃ B, B = Obj.cells #[.int .i64 (ep : Int), .int .i64 (ar : Int), .int .i64 (pg : Int)] 59 := ⟨_, rfl⟩
 have kb : Dv.Blk (w.alloc B) w.heap.size 59 #[.int .i64 (ep : Int), .int .i64 (ar : Int), .int .i64 (pg : Int)] := by rw [hB]; exact heap_alloc_new w _
 have KB := Lib.hid kb
 have HBB := Lib.hid hB
 have hb1 : Below w.heap.size w (w.alloc B) := (Below.refl _ _).alloc (Nat.le_refl _) _
 have HB1 := Lib.hid hb1
 clear h ha hF hmul hc1 hc2 kb hB hb1
 go_enter Try.func24, Try.ntmps24
 go_wp2_with fail
 rw [← HBB.out]
 refine wp_region_held_drew (S := fun X => Dv.Blk X w.heap.size 59 #[.int .i64 (ep : Int), .int .i64 (ar : Int), .int .i64 (pg : Int)] ∧ Below w.heap.size w X) (by kernel_rfl) ⟨KB.out, HB1.out.drew⟩ (fun hHeld => ?_)
 refine wpAnyH_take (i := 0) (oi := { dst := some 6, op := Op.move (Operand.tmp 0), type := 73, pos := "lay.go:84", after := #[], guard := none }) (v := ?_) rfl (by kernel_rfl) (by kernel_rfl) (by kernel_rfl) (fun _ _ _ h => h) (Or.inl ⟨by rfl, ?_⟩) (by assumption) ?_
 rotate_left
 ·intro X hSw; go_simp; try (with_reducible rfl)
 try simp only [Act.put, List.setIfInBounds_toArray, List.set_cons_zero, List.set_cons_succ]
 refine wpAnyH_take (i := 1) (oi := { dst := some 7, op := Op.move (Operand.tmp 0), type := 73, pos := "lay.go:84", after := #[], guard := none }) (v := ?_) rfl (by kernel_rfl) (by kernel_rfl) (by kernel_rfl) (fun _ _ _ h => h) (Or.inl ⟨by rfl, ?_⟩) (by assumption) ?_
 rotate_left
 ·intro X hSw; go_simp; try (with_reducible rfl)
 try simp only [Act.put, List.setIfInBounds_toArray, List.set_cons_zero, List.set_cons_succ]
 refine wpAnyH_take (i := 2) (oi := { dst := some 8, op := Op.fieldAddr 59 (Operand.tmp 3) 1, type := 0, pos := "lay.go:84", after := #[], guard := none }) (v := ?_) rfl (by kernel_rfl) (by kernel_rfl) (by kernel_rfl) (fun _ _ _ h => h) (Or.inl ⟨by rfl, ?_⟩) (by assumption) ?_
 rotate_left
 ·intro X hSw; go_simp; try (with_reducible rfl)
 try simp only [Act.put, List.setIfInBounds_toArray, List.set_cons_zero, List.set_cons_succ]
 refine wpAnyH_take (i := 3) (oi := { dst := some 9, op := Op.load 3 (Operand.tmp 8), type := 3, pos := "lay.go:84", after := #[{ on := 2, ground := Ground.data }], guard := none }) (v := ?_) rfl (by kernel_rfl) (by kernel_rfl) (by kernel_rfl) (fun _ _ _ h => h) (Or.inl ⟨by rfl, ?_⟩) (by assumption) ?_
 rotate_left
 ·intro X hSw; have z0 := hSw.1.cell 0; have z1 := hSw.1.cell 1; have z2 := hSw.1.cell 2; simp at z0 z1 z2; go_simp; try (with_reducible rfl)
 try simp only [Act.put, List.setIfInBounds_toArray, List.set_cons_zero, List.set_cons_succ]
 refine wpAnyH_take (i := 5) (oi := { dst := some 11, op := Op.fieldAddr 59 (Operand.tmp 3) 2, type := 0, pos := "lay.go:84", after := #[], guard := none }) (v := ?_) rfl (by kernel_rfl) (by kernel_rfl) (by kernel_rfl) (fun _ _ _ h => h) (Or.inl ⟨by rfl, ?_⟩) (by assumption) ?_
 rotate_left
 ·intro X hSw; go_simp; try (with_reducible rfl)
 try simp only [Act.put, List.setIfInBounds_toArray, List.set_cons_zero, List.set_cons_succ]
 refine wpAnyH_take (i := 6) (oi := { dst := some 12, op := Op.load 3 (Operand.tmp 11), type := 3, pos := "lay.go:84", after := #[{ on := 5, ground := Ground.data }], guard := none }) (v := ?_) rfl (by kernel_rfl) (by kernel_rfl) (by kernel_rfl) (fun _ _ _ h => h) (Or.inl ⟨by rfl, ?_⟩) (by assumption) ?_
 rotate_left
 ·intro X hSw; have z0 := hSw.1.cell 0; have z1 := hSw.1.cell 1; have z2 := hSw.1.cell 2; simp at z0 z1 z2; go_simp; try (with_reducible rfl)
 try simp only [Act.put, List.setIfInBounds_toArray, List.set_cons_zero, List.set_cons_succ]
 refine wpAnyH_take (i := 7) (oi := { dst := some 13, op := Op.binOp BinOp.mul 3 (Operand.tmp 12) (Operand.const (Value.int IntKind.i64 4)) 3, type := 3, pos := "lay.go:84", after := #[{ on := 6, ground := Ground.data }], guard := none }) (v := ?_) rfl (by kernel_rfl) (by kernel_rfl) (by kernel_rfl) (fun _ _ _ h => h) (Or.inl ⟨by rfl, ?_⟩) (by assumption) ?_
 rotate_left
 ·intro X hSw; go_simp; try (with_reducible rfl)
 try simp only [Act.put, List.setIfInBounds_toArray, List.set_cons_zero, List.set_cons_succ]
 refine wpAnyH_ready (rs := [4]) (by kernel_rfl) (by simp) ?_
 refine AllReadyH.cons (o := { dst := some 10, op := Op.call { callee := Callee.value (Operand.func 41), args := #[Operand.tmp 7, Operand.tmp 9], argTypes := #[73, 3] }, type := 3, pos := "lay.go:84", after := #[{ on := 1, ground := Ground.data }, { on := 3, ground := Ground.data }], guard := none }) rfl (fun K hK => ?_) AllReadyH.nil
 go_simp
 refine (HC1.out _ hHeld.2).mono ?_
 rintro e w3 ⟨rfl, rfl⟩
 try (go_wp2_with fail)
 refine hK.out _ _ ?_ (fun _ => ?_)
 ·exact hHeld
 clear hK K
 try simp only [Act.put, List.setIfInBounds_toArray, List.set_cons_zero, List.set_cons_succ]
 refine wpAnyH_ready (rs := [8]) (by kernel_rfl) (by simp) ?_
 refine AllReadyH.cons (o := { dst := some 14, op := Op.call { callee := Callee.value (Operand.func 26), args := #[Operand.tmp 6, Operand.tmp 10, Operand.tmp 13], argTypes := #[73, 3, 3] }, type := 35, pos := "lay.go:84", after := #[{ on := 0, ground := Ground.data }, { on := 4, ground := Ground.data }, { on := 7, ground := Ground.data }, { on := 4, ground := Ground.chain }], guard := none }) rfl (fun K hK => ?_) AllReadyH.nil
 go_simp
 refine (HC2.out _ hHeld.2).mono ?_
 rintro e w4 ⟨pv, rfl, hop, hb4⟩
 obtain ⟨Ap, cp, hpv, hpc1, hpc2⟩ := hop.shape
 rw [secsL_len] at hpv hpc2
 subst hpv
 have HOP := Lib.hid hop.pn
 have HB4 := Lib.hid (hHeld.2.trans (hb4.mono hHeld.2.size))
 have KB4 := Lib.hid (hHeld.1.below hb4 hHeld.1.lt)
 clear hop hb4
 try (go_wp2_with fail)
 have hHeld' := (show Dv.Blk w4 w.heap.size 59 #[.int .i64 (ep : Int), .int .i64 (ar : Int), .int .i64 (pg : Int)] ∧ Below w.heap.size w w4 from ⟨KB4.out, HB4.out⟩)
 refine hK.out _ _ ?_ (fun _ => ?_)
 ·exact hHeld'
 clear hK K hHeld
 have hHeld := hHeld'
 clear hHeld'
 try simp only [Act.put, List.setIfInBounds_toArray, List.set_cons_zero, List.set_cons_succ]
 refine wpAnyH_take (i := 9) (oi := { dst := some 5, op := Op.assign (Operand.tmp 14), type := 35, pos := "lay.go:84", after := #[{ on := 8, ground := Ground.data }, { on := 8, ground := Ground.chain }, { on := 0, ground := Ground.phase }, { on := 1, ground := Ground.phase }, { on := 2, ground := Ground.phase }, { on := 3, ground := Ground.phase }, { on := 4, ground := Ground.phase }, { on := 5, ground := Ground.phase }, { on := 6, ground := Ground.phase }, { on := 7, ground := Ground.phase }, { on := 8, ground := Ground.phase }], guard := none }) (v := ?_) rfl (by kernel_rfl) (by kernel_rfl) (by kernel_rfl) (fun _ _ _ h => h) (Or.inl ⟨by rfl, ?_⟩) (by assumption) ?_
 rotate_left
 ·intro X hSw; go_simp; try (with_reducible rfl)
 try simp only [Act.put, List.setIfInBounds_toArray, List.set_cons_zero, List.set_cons_succ]
 refine wpAnyH_done (by kernel_rfl) ?_ _
 clear hHeld KB KB4
 have hsl := HOK.out
 obtain ⟨SL, hSL⟩ : ∃ SL, SL = secsL s F (pg * 4) := ⟨_, rfl⟩
 have hsl64 : ∀ x ∈ SL, x.length = 64 := by
  intro x hx
  rw [hSL] at hx
  unfold secsL at hx
  obtain ⟨i, hi, rfl⟩ := List.mem_map.1 hx
  exact hsl.read (by have := List.mem_range.1 hi; omega)
 have hsll : SL.length = pg * 4 := by rw [hSL]; exact secsL_len _ _ _
 obtain ⟨bl, hbl⟩ : ∃ bl, bl = SL.flatten := ⟨_, rfl⟩
 have hfl : bl.length = pg * 4 * 64 := by rw [hbl, flat_length hsl64, hsll]
 rw [← hSL] at HOP
 obtain ⟨qs, hqs, hPS⟩ := HOP.out.ps (by intro e; rw [e] at hsll; simp at hsll; omega)
 have hcat := cat_flatten hqs
 rw [← hbl] at hcat
 have hcc := concat_any _ qs w4 hPS (by rw [hcat, hfl]; omega)
 rw [hcat] at hcc
 have HCC := Lib.hid hcc
 have HFL := Lib.hid hfl
 have HBL := Lib.hid hbl
 have HSL := Lib.hid hSL
 clear hcc hqs hPS hcat hsl64 hsll hfl hbl hSL hsl
 go_wp2_with fail
 go_at_call 43
 refine HCC.out.mono ?_
 rintro e w5 ⟨v2, rfl, ho2, hb2⟩
 obtain ⟨b2, c2, rfl⟩ := ownsRow_succ (k := bl.length - 1) (by rw [Nat.sub_add_cancel (by have := HFL.out; omega)]; exact ho2)
 rw [Nat.sub_add_cancel (by have := HFL.out; omega)] at ho2 ⊢
 have HO2 := Lib.hid ho2
 have HB2 := Lib.hid hb2
 clear ho2 hb2
 go_wp2_with fail
 go_at_call 32
 refine (chunk256_any _ w5 rfl).mono ?_
 rintro e w6 ⟨rfl, hw6⟩
 have hd6 := dc256_new (RB.own HO2.out)
 rw [← hw6] at hd6
 have hb6 : Below w5.heap.size w5 w6 := by rw [hw6]; exact ((Below.refl _ _).alloc (Nat.le_refl _) _).alloc (by simp) _
 have HD6 := Lib.hid hd6
 have HB6 := Lib.hid hb6
 clear hw6 hd6 hb6
 go_wp2_with fail
 go_at_call 42
 refine (coll256_any b2 0 c2 bl.length w5.heap.size bl w6 rfl HD6.out (by have := HFL.out; omega)).mono ?_
 rintro e w7 ⟨sv, us, rfl, hus, hous, hxs, hb7⟩
 have hb47 := HB2.out.trans (((HB6.out).trans (hb7.mono HB6.out.size)).mono HB2.out.size)
 have hw7 := HB4.out.trans (hb47.mono HB4.out.size)
 have hb2lt : w4.heap.size ≤ b2 ∧ b2 < w5.heap.size := by
  rcases HO2.out.2 with ⟨h0, _⟩ | ⟨g', cap', cur', he', hbb', hg', _⟩
  ·cases h0
  ·injection he' with he' _ _; injection he' with he'; injection he' with he' _; subst he'; exact ⟨hbb', (Array.getElem?_eq_some_iff.1 hg').1⟩
 have hpn := pieces_pn (base := w4.heap.size) hus (own_base hous (Nat.le_trans HB2.out.size HB6.out.size)) hxs ((RB.own HO2.out).below ((HB6.out).trans (hb7.mono HB6.out.size))) hb2lt.1 (Nat.lt_of_lt_of_le hb2lt.2 (Nat.le_trans HB6.out.size hb7.size))
 have hpn2 := hpn.base_ HB4.out.size
 rw [HBL.out, HSL.out, HF.out] at hpn2
 have HPN := Lib.hid (show PN w7 w.heap.size sv (laidL s ar pg) from hpn2)
 have HB7 := Lib.hid hw7
 obtain ⟨As, cs, rfl, _⟩ := own_shape hous
 clear hus hous hxs hb7 hb47 hw7 hb2lt hpn hpn2
 go_wp2
 go_ret
 exact ⟨_, rfl, HPN.out, HB7.out⟩
end Go.Proofs.Ytmbkaedhllfoeaa
