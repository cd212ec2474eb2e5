/-
  The contracts of code.change, of the generic list at changes, and of code.Changes: they make the bytes of changes that take at most a billion bytes in all.
-/
import Derived.Test.YtjanggdjbieceaaOneM
import Derived.Test.YtjanggdjbieceaaRowList
namespace Go.Proofs.Ytjanggdjbieceaa
open Go.RowKit Go.Rst

set_option maxRecDepth 100000 in
set_option maxHeartbeats 4000000 in
theorem change_any (k : ByteArray) (v : Value) (l : List UInt8) (gn : Bool) (hk : k.size ≤ 1000000000) (hl : l.length ≤ 1000000000) (w : World) (hv : RB w v l) :
    Calls Try.prog 39 #[.agg #[.string k, v, .bool gn]] w (NewB 5 w (chgL (k, l, gn))) := by
  have hkl := textL_len (l := k.data.toList) (by rw [Array.length_toList]; exact hk)
  have htl := textL_len (l := l) hl
  have hsz : (⟨l.toArray⟩ : ByteArray).size ≤ 1000000000 := by show l.toArray.size ≤ _; simpa using hl
  have HSZ := Lib.hid hsz
  have HV := Lib.hid hv
  obtain ⟨A, c, rfl, _, h2, _⟩ := hv
  simp only [maxLen] at h2
  clear hsz
  cases gn
  · have E : chgL (k, l, false) = (textL k.data.toList ++ [0]) ++ textL l := by simp [chgL]
    have HE := Lib.hid E
    clear E
    go_enter Try.func39, Try.ntmps39
    go_wp2_with fail
    obtain ⟨wb, hwb⟩ : ∃ wb, wb = w.alloc (.cells #[.string k, .slice A l.length c, .bool false] 49) := ⟨_, rfl⟩
    rw [← hwb]
    have HWB := Lib.hid (show Below w.heap.size w wb by rw [hwb]; exact (Below.refl _ _).alloc (Nat.le_refl _) _)
    have HLT := Lib.hid (show w.heap.size < wb.heap.size by rw [hwb]; simp)
    have HC0 := Lib.hid (show wb.cell? ⟨w.heap.size, 0, none⟩ = some (.string k) by rw [hwb]; simp)
    have HCU := Lib.hid (show wb.cell? ⟨w.heap.size, 1, none⟩ = some (.slice A l.length c) by rw [hwb]; simp)
    have HCG := Lib.hid (show wb.cell? ⟨w.heap.size, 2, none⟩ = some (.bool false) by rw [hwb]; simp)
    have HRV := Lib.hid (show RB wb (.slice A l.length c) l by rw [hwb]; exact HV.out.alloc _)
    clear hwb
    refine (text_any k hk _).mono ?_
    rintro e w1 ⟨v1, rfl, hown, hbel⟩
    obtain ⟨A1, c1, rfl, _⟩ := own_shape hown
    have hcg := (hbel.cell (p := ⟨w.heap.size, 2, none⟩) HLT.out).trans HCG.out
    have HO1 := Lib.hid hown
    have HB1 := Lib.hid hbel
    clear hown hbel
    go_wp2
    refine wp_region_held_drew (S := fun X => Below wb.heap.size wb X) (by kernel_rfl) HB1.out.drew (fun hHeld => ?_)
    refine wpAnyH_take (i := 0) (oi := { dst := some 12, op := Op.move (Operand.tmp 3), type := 22, pos := "code.go:63", after := #[], guard := none }) (v := ?_) rfl (by kernel_rfl) (by kernel_rfl) (by kernel_rfl) (fun _ _ _ h => h) (Or.inl ⟨by rfl, ?_⟩) (by assumption) ?_
    rotate_left
    · intro X hSw; go_simp; try (with_reducible rfl)
    try simp only [Act.put, List.setIfInBounds_toArray, List.set_cons_zero, List.set_cons_succ]
    refine wpAnyH_take (i := 3) (oi := { dst := some 15, op := Op.fieldAddr 49 (Operand.tmp 1) 1, type := 0, pos := "code.go:63", after := #[], guard := none }) (v := ?_) rfl (by kernel_rfl) (by kernel_rfl) (by kernel_rfl) (fun _ _ _ h => h) (Or.inl ⟨by rfl, ?_⟩) (by assumption) ?_
    rotate_left
    · intro X hSw; go_simp; try (with_reducible rfl)
    try simp only [Act.put, List.setIfInBounds_toArray, List.set_cons_zero, List.set_cons_succ]
    refine wpAnyH_take (i := 4) (oi := { dst := some 16, op := Op.load 22 (Operand.tmp 15), type := 22, pos := "code.go:63", after := #[{ on := 3, ground := Ground.data }], guard := none }) (v := ?_) rfl (by kernel_rfl) (by kernel_rfl) (by kernel_rfl) (fun _ _ _ h => h) (Or.inl ⟨by rfl, ?_⟩) (by assumption) ?_
    rotate_left
    · intro X hSw; have hq := (hSw.cell (p := ⟨w.heap.size, 1, none⟩) HLT.out).trans HCU.out; go_simp; try (with_reducible rfl)
    try simp only [Act.put, List.setIfInBounds_toArray, List.set_cons_zero, List.set_cons_succ]
    refine wpAnyH_take (i := 5) (oi := { dst := some 17, op := Op.convert 22 9 (Operand.tmp 16), type := 9, pos := "code.go:63", after := #[{ on := 4, ground := Ground.data }], guard := none }) (v := ?_) rfl (by kernel_rfl) (by kernel_rfl) (by kernel_rfl) (fun _ _ _ h => h) (Or.inl ⟨by rfl, ?_⟩) (by assumption) ?_
    rotate_left
    · intro X hSw; have hq := str22 (HRV.out.below hSw); go_simp; try (with_reducible rfl)
    try simp only [Act.put, List.setIfInBounds_toArray, List.set_cons_zero, List.set_cons_succ]
    refine wpAnyH_ready (rs := [1]) (by kernel_rfl) (by simp) ?_
    refine AllReadyH.cons (o := { dst := some 13, op := Op.buildSlice 22 1 #[(0, Operand.const (Value.int IntKind.u8 0))], type := 22, pos := "code.go:63", after := #[], guard := none }) rfl (fun K hK => ?_) AllReadyH.nil
    go_simp
    refine gen_allocD ?_
    intro w2 hw2 hbw2
    have hHeld' := HB1.out.trans (hbw2.mono HB1.out.size)
    refine hK.out _ _ ?_ (fun _ => ?_)
    · exact hHeld'
    clear hK K hHeld
    try simp only [Act.put, List.setIfInBounds_toArray, List.set_cons_zero, List.set_cons_succ]
    have hHeld := hHeld'
    clear hHeld'
    have hz : RB w2 (.slice (some ⟨w1.heap.size, 0, none⟩) 1 1) [0] := by rw [hw2]; exact (RB.lit w1 5 (0, 0) [0] _ rfl 1 rfl (by decide)).drew
    have own2 := own_below HO1.out hbw2
    clear hw2
    refine wpAnyH_ready (rs := [2]) (by kernel_rfl) (by simp) ?_
    refine AllReadyH.cons (o := { dst := some 14, op := Op.call { callee := Callee.builtin Builtin.append, args := #[Operand.tmp 12, Operand.tmp 13], argTypes := #[22, 22] }, type := 22, pos := "code.go:63", after := #[{ on := 0, ground := Ground.data }, { on := 1, ground := Ground.data }], guard := none }) rfl (fun K hK => ?_) AllReadyH.nil
    refine step_own (by rfl) (.tmp 12) (.tmp 13) 22 22 (by rfl) wb.heap.size 5 (.int .u8 0) 1 1 Try.underlying22 info5 rfl (by rfl) own2 (by rfl) (hz.src Try.underlying22) hHeld (Nat.le_refl _) (by unfold maxLen; simp; omega) (by simp; omega) hHeld.size ?_
    intro v4 w3 hown3 hbel3 _
    have hHeld' := hbel3
    refine hK.out _ _ ?_ (fun _ => ?_)
    · exact hHeld'
    clear hK K hHeld
    try simp only [Act.put, List.setIfInBounds_toArray, List.set_cons_zero, List.set_cons_succ]
    have hHeld := hHeld'
    clear hHeld'
    have own3 := hown3
    clear hown3
    obtain ⟨A4, c4, rfl, _⟩ := own_shape own3
    refine wpAnyH_ready (rs := [6]) (by kernel_rfl) (by simp) ?_
    refine AllReadyH.cons (o := { dst := some 18, op := Op.call { callee := Callee.value (Operand.func 17), args := #[Operand.tmp 17], argTypes := #[9] }, type := 22, pos := "code.go:63", after := #[{ on := 5, ground := Ground.data }, { on := 2, ground := Ground.chain }], guard := none }) rfl (fun K hK => ?_) AllReadyH.nil
    go_simp
    refine (text_any _ HSZ.out _).mono ?_
    rintro x w4 ⟨v5, rfl, hown5, hbw5⟩
    try (go_wp2_with fail)
    have hHeld' := hHeld.trans (hbw5.mono hHeld.size)
    refine hK.out _ _ ?_ (fun _ => ?_)
    · exact hHeld'
    clear hK K hHeld
    try simp only [Act.put, List.setIfInBounds_toArray, List.set_cons_zero, List.set_cons_succ]
    have hHeld := hHeld'
    clear hHeld'
    have own4 := own_below own3 hbw5
    refine wpAnyH_ready (rs := [7]) (by kernel_rfl) (by simp) ?_
    refine AllReadyH.cons (o := { dst := some 19, op := Op.call { callee := Callee.builtin Builtin.append, args := #[Operand.tmp 14, Operand.tmp 18], argTypes := #[22, 22] }, type := 22, pos := "code.go:63", after := #[{ on := 2, ground := Ground.data }, { on := 6, ground := Ground.data }, { on := 6, ground := Ground.chain }], guard := none }) rfl (fun K hK => ?_) AllReadyH.nil
    refine step_own (by rfl) (.tmp 14) (.tmp 18) 22 22 (by rfl) wb.heap.size 5 (.int .u8 0) 1 1 Try.underlying22 info5 rfl (by rfl) own4 (by rfl) ((RB.own hown5).src Try.underlying22) hHeld (Nat.le_refl _) (by unfold maxLen; simp; omega) (by simp; omega) hHeld.size ?_
    intro v6 w5 hown6 hbel6 _
    have hHeld' := hbel6
    refine hK.out _ _ ?_ (fun _ => ?_)
    · exact hHeld'
    clear hK K hHeld
    try simp only [Act.put, List.setIfInBounds_toArray, List.set_cons_zero, List.set_cons_succ]
    have hHeld := hHeld'
    clear hHeld'
    refine wpAnyH_take (i := 8) (oi := { dst := some 2, op := Op.assign (Operand.tmp 19), type := 22, pos := "code.go:63", after := #[{ on := 7, ground := Ground.data }, { on := 7, ground := Ground.chain }, { on := 0, ground := Ground.phase }, { on := 1, ground := Ground.phase }, { on := 2, ground := Ground.phase }, { on := 3, ground := Ground.phase }, { on := 4, ground := Ground.phase }, { on := 5, ground := Ground.phase }, { on := 6, ground := Ground.phase }, { on := 7, ground := Ground.phase }], guard := none }) (v := ?_) rfl (by kernel_rfl) (by kernel_rfl) (by kernel_rfl) (fun _ _ _ h => h) (Or.inl ⟨by rfl, ?_⟩) (by assumption) ?_
    rotate_left
    · intro X hSw; go_simp; try (with_reducible rfl)
    try simp only [Act.put, List.setIfInBounds_toArray, List.set_cons_zero, List.set_cons_succ]
    refine wpAnyH_done (by kernel_rfl) ?_ _
    go_wp2
    go_ret
    refine ⟨_, rfl, ?_, HWB.out.trans (hHeld.mono HWB.out.size)⟩
    rw [HE.out]
    exact own_base (own_cat (l := textL k.data.toList ++ [0]) (m := textL l) (by rw [List.length_append, bvs_append]; exact hown6)) HWB.out.size
  · have E : chgL (k, l, true) = textL k.data.toList ++ [1] := by simp [chgL]
    have HE := Lib.hid E
    clear E
    go_enter Try.func39, Try.ntmps39
    go_wp2_with fail
    obtain ⟨wb, hwb⟩ : ∃ wb, wb = w.alloc (.cells #[.string k, .slice A l.length c, .bool true] 49) := ⟨_, rfl⟩
    rw [← hwb]
    have HWB := Lib.hid (show Below w.heap.size w wb by rw [hwb]; exact (Below.refl _ _).alloc (Nat.le_refl _) _)
    have HLT := Lib.hid (show w.heap.size < wb.heap.size by rw [hwb]; simp)
    have HCG := Lib.hid (show wb.cell? ⟨w.heap.size, 2, none⟩ = some (.bool true) by rw [hwb]; simp)
    clear hwb
    refine (text_any k hk _).mono ?_
    rintro e w1 ⟨v1, rfl, hown, hbel⟩
    have hcg := (hbel.cell (p := ⟨w.heap.size, 2, none⟩) HLT.out).trans HCG.out
    have HO1 := Lib.hid hown
    have HB1 := Lib.hid hbel
    clear hown hbel
    go_wp2_with (at_builtin; refine wpList_own rfl (.tmp 9) (.tmp 10) 22 22 rfl wb.heap.size 5 (.int .u8 0) 1 1 Try.underlying22 info5 rfl rfl (HO1.out.alloc _) rfl (src_one w1 Try.underlying22 5 _ rfl) (HB1.out.alloc HB1.out.size _) (Nat.le_refl _) ?_ ?_ ?_ ?_)
    · unfold maxLen; omega
    · omega
    · have := HB1.out.size; simp; omega
    · intro v2 w2 hown2 hbel2 _
      go_wp2
      go_ret
      refine ⟨v2, rfl, ?_, HWB.out.trans (hbel2.mono HWB.out.size)⟩
      rw [HE.out]
      exact own_base (own_cat (l := textL k.data.toList) (m := [1]) hown2) HWB.out.size
end Go.Proofs.Ytjanggdjbieceaa
