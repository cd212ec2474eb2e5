/-
  The contracts of the program's word, counts and sector.
-/
import Derived.Test.YtomkbgghljcbfaaLMath
import Derived.Test.YtomkbgghljcbfaaCConcat
import Derived.Test.YtomkbgghljcbfaaGSeal
import Derived.Laws.MakeOwn
import Derived.Test.YtomkbgghljcbfaaRowList
import Derived.Test.YtomkbgghljcbfaaGBack
set_option linter.unusedVariables false

namespace Go.Proofs.Ytomkbgghljcbfaa
open Go.RowKit Go.Rst Go.Crc

set_option maxRecDepth 100000 in
set_option maxHeartbeats 400000 in
theorem wordP_any (n : Nat) (hn : n ≤ 1073741824) (w : World) : Calls Try.prog 69 #[.int .i64 n] w (NewB 5 w (wordL n)) := by
  go_enter Try.func69, Try.ntmps69
  go_wp2
  go_ret
  exact ⟨_, rfl, own_lit (by have h := word_cells (n := n); rw [show (n : Int) / 16777216 % 256 = (n : Int) / 16777216 by omega] at h; exact h) rfl (by decide), (Below.refl _ _).alloc (Nat.le_refl _) _⟩

set_option maxRecDepth 100000 in
set_option maxHeartbeats 400000 in
theorem counts_any (n : Int) (w : World) : Calls Try.prog 44 #[.int .i64 n] w fun e w' => e = .returned (.bool (decide (0 ≤ n ∧ n ≤ 1073741824))) ∧ w = w' := by
  by_cases h1 : 0 ≤ n
  · by_cases h2 : n ≤ 1073741824
    · have e : decide (0 ≤ n ∧ n ≤ 1073741824) = true := by simp [h1, h2]
      rw [e]
      go_enter Try.func44, Try.ntmps44
      go_wp2
      go_ret
      exact ⟨rfl, rfl⟩
    · have e : decide (0 ≤ n ∧ n ≤ 1073741824) = false := by simp [h1, h2]
      rw [e]
      go_enter Try.func44, Try.ntmps44
      go_wp2
      go_ret
      exact ⟨rfl, rfl⟩
  · have e : decide (0 ≤ n ∧ n ≤ 1073741824) = false := by simp [h1]
    rw [e]
    go_enter Try.func44, Try.ntmps44
    go_wp2
    go_ret
    exact ⟨rfl, rfl⟩

theorem PS.five {w : World} {v0 v1 v2 v3 v4 : Value} {l0 l1 l2 l3 l4 : List UInt8} {e : TypeId} (h0 : RB w v0 l0) (h1 : RB w v1 l1) (h2 : RB w v2 l2) (h3 : RB w v3 l3) (h4 : RB w v4 l4) :
    PS (w.alloc (.cells #[v0, v1, v2, v3, v4] e)) (.slice (some ⟨w.heap.size, 0, none⟩) 5 5) [(v0, l0), (v1, l1), (v2, l2), (v3, l3), (v4, l4)] := by
  refine ⟨w.heap.size, 0, 5, rfl, by simp, by decide, by simp, fun j hj => ?_⟩
  have hc := cell_of_row (w.alloc (.cells #[v0, v1, v2, v3, v4] e)) w.heap.size (0 + j) #[v0, v1, v2, v3, v4] e (0, 0) (heap_alloc_new w _)
  match j, hj with
  | 0, _ => exact ⟨hc, h0.alloc _⟩
  | 1, _ => exact ⟨hc, h1.alloc _⟩
  | 2, _ => exact ⟨hc, h2.alloc _⟩
  | 3, _ => exact ⟨hc, h3.alloc _⟩
  | 4, _ => exact ⟨hc, h4.alloc _⟩
theorem cat_sector (ep n i of : Nat) (b : List UInt8) (hb : b.length ≤ 49) (v0 v1 v2 v3 v4 : Value) :
    cat [(v0, wordL ep), (v1, wordL n), (v2, [UInt8.ofNat i, UInt8.ofNat of, UInt8.ofNat b.length]), (v3, b), (v4, List.replicate (49 - b.length) 0)] = pad60 (headL ep n i of b) := by
  unfold pad60
  rw [headL_length, show 60 - (11 + b.length) = 49 - b.length by omega]
  simp [cat, headL, List.append_assoc]

set_option maxRecDepth 100000 in
set_option maxHeartbeats 1600000 in
theorem sector_any (ep n i of : Nat) (v : Value) (b : List UInt8) (he : ep ≤ 1073741824) (hn : n ≤ 1073741824) (w : World) (hv : RB w v b) (hb : b.length ≤ 49) :
    Calls Try.prog 47 #[.int .i64 ep, .int .i64 n, .int .i64 i, .int .i64 of, v] w (NewB 5 w (partL ep n i of b)) := by
  obtain ⟨i5, hi5, hz5, hs5, hb5⟩ := info_parts info5
  have HI5 := Lib.hid hi5
  have HZ5 := Lib.hid hz5
  have HS5 := Lib.hid hs5
  have HB5 := Lib.hid hb5
  clear hi5 hz5 hs5 hb5
  have HV := Lib.hid hv
  obtain ⟨A, c, rfl, _⟩ := hv
  obtain ⟨L, hL⟩ : ∃ L, L = b.length := ⟨_, rfl⟩
  have hcat := cat_sector ep n i of b hb
  have hpl : (pad60 (headL ep n i of b)).length = 60 := by unfold pad60; rw [List.length_append, List.length_replicate, headL_length]; omega
  have hpt : partL ep n i of b = sealL (pad60 (headL ep n i of b)) := rfl
  have h3 := three_cells (i := i) (o := of) (l := b.length) (by omega)
  rw [← hL] at hcat h3 hb
  rw [← hL]
  generalize partL ep n i of b = PT at *
  generalize pad60 (headL ep n i of b) = PD at *
  obtain ⟨H3, hH3⟩ : ∃ H3, H3 = [UInt8.ofNat i, UInt8.ofNat of, UInt8.ofNat L] := ⟨_, rfl⟩
  rw [← hH3] at hcat h3
  have HH3 := Lib.hid (show H3.length = 3 by rw [hH3]; rfl)
  have HC := Lib.hid hcat
  have HPL := Lib.hid hpl
  have HPT := Lib.hid hpt
  have H3C := Lib.hid h3
  have HL := Lib.hid hL
  have hm : (49 : Int) - (L : Int) = ((49 - L : Nat) : Int) := by omega
  obtain ⟨M, hM⟩ : ∃ M, M = 49 - L := ⟨_, rfl⟩
  rw [← hM] at hm
  have HM := Lib.hid hM
  have hM49 : M ≤ 49 := by omega
  clear hcat hpl hpt h3 hH3 hL hM
  go_enter Try.func47, Try.ntmps47
  go_wp2_with (refine wpList_make_full _ rfl (.tmp 23) (.tmp 23) 23 rfl 0 5 i5 (.int .u8 0) 1 Try.underlying23 HI5.out HZ5.out HS5.out .i64 .i64 (M : Int) (M : Int) M rfl rfl rfl rfl (by rw [HB5.out]; omega) (by unfold maxLen; omega) (Nat.zero_le _) ?_)
  intro w1 hown1 hgrow1
  have b0 : Below w.heap.size w (w.alloc (.cells #[.int .u8 ((i : Int) % 256), .int .u8 ((of : Int) % 256), .int .u8 (L : Int)] 5)) := (Below.refl _ _).alloc (Nat.le_refl _) _
  have o3 : (w.alloc (.cells #[.int .u8 ((i : Int) % 256), .int .u8 ((of : Int) % 256), .int .u8 (L : Int)] 5)).ownsRow w.heap.size 5 1 (.slice (some ⟨w.heap.size, 0, none⟩) 3 3) H3.length (bvs H3) := own_lit H3C.out (by rw [HH3.out]) (by decide)
  have b1 : Below (w.heap.size + 1) (w.alloc (.cells #[.int .u8 ((i : Int) % 256), .int .u8 ((of : Int) % 256), .int .u8 (L : Int)] 5)) w1 := ((Below.refl _ _).grown hgrow1 (by simp) (fun z hz => by cases hz))
  have r3 := (RB.own o3).below (show Below (w.alloc (.cells #[.int .u8 ((i : Int) % 256), .int .u8 ((of : Int) % 256), .int .u8 (L : Int)] 5)).heap.size _ w1 by rw [World.size_alloc]; exact b1)
  have rb := HV.out.below (b0.trans (b1.mono (Nat.le_succ _)))
  have r0 : RB w1 (.slice (some ⟨w.heap.size + 1, 0, none⟩) M M) (List.replicate M 0) := by
    have h := hown1
    rw [madeL] at h
    exact RB.own (by rw [List.length_replicate]; exact h)
  have hbw := b0.trans (b1.mono (Nat.le_succ _))
  have R3 := Lib.hid r3
  have RBX := Lib.hid rb
  have R0 := Lib.hid r0
  have HB := Lib.hid hbw
  clear b0 o3 b1 r3 rb r0 hbw hown1 hgrow1
  go_wp2_with fail
  refine (wordP_any ep he _).mono ?_
  rintro e w2 ⟨v2, rfl, ho2, hb2⟩
  obtain ⟨A2, c2, rfl, _⟩ := own_shape ho2
  have R3 := Lib.hid (R3.out.below hb2)
  have RBX := Lib.hid (RBX.out.below hb2)
  have R0 := Lib.hid (R0.out.below hb2)
  have R2 := Lib.hid (RB.own ho2)
  have HB := Lib.hid (HB.out.trans (hb2.mono HB.out.size))
  clear ho2 hb2
  go_wp2_with fail
  refine (wordP_any n hn _).mono ?_
  rintro e w3 ⟨v3, rfl, ho3, hb3⟩
  obtain ⟨A4, c4, rfl, _⟩ := own_shape ho3
  have hps := PS.five (e := 23) (R2.out.below hb3) (RB.own ho3) (R3.out.below hb3) (RBX.out.below hb3) (R0.out.below hb3)
  rw [wordL_length, wordL_length] at hps
  have HB := Lib.hid ((HB.out.trans (hb3.mono HB.out.size)))
  have hcc := HC.out (.slice A2 4 c2) (.slice A4 4 c4) (.slice (some ⟨w.heap.size, 0, none⟩) 3 3) (.slice A b.length c) (.slice (some ⟨w.heap.size + 1, 0, none⟩) M M)
  rw [← HM.out] at hcc
  have hcall := concat_any _ _ _ hps (by rw [hcc, HPL.out]; decide)
  rw [hcc] at hcall
  rw [← HL.out] at hcall
  have HCC := Lib.hid hcall
  have hbx := HB.out.alloc HB.out.size (.cells #[.slice A2 4 c2, .slice A4 4 c4, .slice (some ⟨w.heap.size, 0, none⟩) 3 3, .slice A L c, .slice (some ⟨w.heap.size + 1, 0, none⟩) M M] 23)
  have HBX := Lib.hid hbx
  clear hcc hcall hps ho3 hb3 hbx
  rw [wordL_length, wordL_length]
  go_wp2_with fail
  refine HCC.out.mono ?_
  rintro e w5 ⟨v5, rfl, ho5, hb5⟩
  have HS := Lib.hid (seal_any v5 PD w5 (RB.own ho5) (by rw [HPL.out]; decide))
  rw [← HPT.out] at HS
  have HB6 := Lib.hid (HBX.out.trans (hb5.mono HBX.out.size))
  obtain ⟨A5, c5, rfl, _⟩ := own_shape ho5
  clear ho5 hb5 HCC
  go_wp2_with fail
  refine HS.out.mono ?_
  rintro e w6 ⟨v6, rfl, ho6, hb6⟩
  have HO6 := Lib.hid (own_base ho6 HB6.out.size)
  have HB7 := Lib.hid (HB6.out.trans (hb6.mono HB6.out.size))
  obtain ⟨A6, c6, rfl, _⟩ := own_shape ho6
  clear ho6 hb6 HS
  go_wp2
  go_ret
  exact ⟨_, rfl, HO6.out, HB7.out⟩
end Go.Proofs.Ytomkbgghljcbfaa

/-
  The contracts of code.change, of the generic list at changes, and of code.Changes: they make the bytes of changes that take at most a billion bytes in all.
-/
namespace Go.Proofs.Ytomkbgghljcbfaa
open Go.RowKit Go.Rst

set_option maxRecDepth 100000 in
set_option maxHeartbeats 4000000 in
theorem change_any (k : ByteArray) (v : Value) (l : List UInt8) (gn : Bool) (hk : k.size ≤ 1000000000) (hl : l.length ≤ 1000000000) (w : World) (hv : RB w v l) :
    Calls Try.prog 65 #[.agg #[.string k, v, .bool gn]] w (NewB 5 w (chgL (k, l, gn))) := by
  have hkl := textL_len (l := k.data.toList) (by rw [Array.length_toList]; exact hk)
  have htl := textL_len (l := l) hl
  have hsz : (⟨l.toArray⟩ : ByteArray).size ≤ 1000000000 := by show l.toArray.size ≤ _; simpa using hl
  have HSZ := Lib.hid hsz
  have HV := Lib.hid hv
  obtain ⟨A, c, rfl, _, h2, _⟩ := hv
  simp only [maxLen] at h2
  clear hsz
  cases gn
  · have E : chgL (k, l, false) = (textL k.data.toList ++ [0]) ++ textL l := by simp [chgL]
    have HE := Lib.hid E
    clear E
    go_enter Try.func65, Try.ntmps65
    go_wp2_with fail
    obtain ⟨wb, hwb⟩ : ∃ wb, wb = w.alloc (.cells #[.string k, .slice A l.length c, .bool false] 51) := ⟨_, rfl⟩
    rw [← hwb]
    have HWB := Lib.hid (show Below w.heap.size w wb by rw [hwb]; exact (Below.refl _ _).alloc (Nat.le_refl _) _)
    have HLT := Lib.hid (show w.heap.size < wb.heap.size by rw [hwb]; simp)
    have HC0 := Lib.hid (show wb.cell? ⟨w.heap.size, 0, none⟩ = some (.string k) by rw [hwb]; simp)
    have HCU := Lib.hid (show wb.cell? ⟨w.heap.size, 1, none⟩ = some (.slice A l.length c) by rw [hwb]; simp)
    have HCG := Lib.hid (show wb.cell? ⟨w.heap.size, 2, none⟩ = some (.bool false) by rw [hwb]; simp)
    have HRV := Lib.hid (show RB wb (.slice A l.length c) l by rw [hwb]; exact HV.out.alloc _)
    clear hwb
    refine (text_any k hk _).mono ?_
    rintro e w1 ⟨v1, rfl, hown, hbel⟩
    obtain ⟨A1, c1, rfl, _⟩ := own_shape hown
    have hcg := (hbel.cell (p := ⟨w.heap.size, 2, none⟩) HLT.out).trans HCG.out
    have HO1 := Lib.hid hown
    have HB1 := Lib.hid hbel
    clear hown hbel
    go_wp2
    refine wp_region_held_drew (S := fun X => Below wb.heap.size wb X) (by kernel_rfl) HB1.out.drew (fun hHeld => ?_)
    refine wpAnyH_take (i := 0) (oi := { dst := some 12, op := Op.move (Operand.tmp 3), type := 23, pos := "code.go:63", after := #[], guard := none }) (v := ?_) rfl (by kernel_rfl) (by kernel_rfl) (by kernel_rfl) (fun _ _ _ h => h) (Or.inl ⟨by rfl, ?_⟩) (by assumption) ?_
    rotate_left
    · intro X hSw; go_simp; try (with_reducible rfl)
    try simp only [Act.put, List.setIfInBounds_toArray, List.set_cons_zero, List.set_cons_succ]
    refine wpAnyH_take (i := 3) (oi := { dst := some 15, op := Op.fieldAddr 51 (Operand.tmp 1) 1, type := 0, pos := "code.go:63", after := #[], guard := none }) (v := ?_) rfl (by kernel_rfl) (by kernel_rfl) (by kernel_rfl) (fun _ _ _ h => h) (Or.inl ⟨by rfl, ?_⟩) (by assumption) ?_
    rotate_left
    · intro X hSw; go_simp; try (with_reducible rfl)
    try simp only [Act.put, List.setIfInBounds_toArray, List.set_cons_zero, List.set_cons_succ]
    refine wpAnyH_take (i := 4) (oi := { dst := some 16, op := Op.load 23 (Operand.tmp 15), type := 23, pos := "code.go:63", after := #[{ on := 3, ground := Ground.data }], guard := none }) (v := ?_) rfl (by kernel_rfl) (by kernel_rfl) (by kernel_rfl) (fun _ _ _ h => h) (Or.inl ⟨by rfl, ?_⟩) (by assumption) ?_
    rotate_left
    · intro X hSw; have hq := (hSw.cell (p := ⟨w.heap.size, 1, none⟩) HLT.out).trans HCU.out; go_simp; try (with_reducible rfl)
    try simp only [Act.put, List.setIfInBounds_toArray, List.set_cons_zero, List.set_cons_succ]
    refine wpAnyH_take (i := 5) (oi := { dst := some 17, op := Op.convert 23 9 (Operand.tmp 16), type := 9, pos := "code.go:63", after := #[{ on := 4, ground := Ground.data }], guard := none }) (v := ?_) rfl (by kernel_rfl) (by kernel_rfl) (by kernel_rfl) (fun _ _ _ h => h) (Or.inl ⟨by rfl, ?_⟩) (by assumption) ?_
    rotate_left
    · intro X hSw; have hq := str22 (HRV.out.below hSw); go_simp; try (with_reducible rfl)
    try simp only [Act.put, List.setIfInBounds_toArray, List.set_cons_zero, List.set_cons_succ]
    refine wpAnyH_ready (rs := [1]) (by kernel_rfl) (by simp) ?_
    refine AllReadyH.cons (o := { dst := some 13, op := Op.buildSlice 23 1 #[(0, Operand.const (Value.int IntKind.u8 0))], type := 23, pos := "code.go:63", after := #[], guard := none }) rfl (fun K hK => ?_) AllReadyH.nil
    go_simp
    refine gen_allocD ?_
    intro w2 hw2 hbw2
    have hHeld' := HB1.out.trans (hbw2.mono HB1.out.size)
    refine hK.out _ _ ?_ (fun _ => ?_)
    · exact hHeld'
    clear hK K hHeld
    try simp only [Act.put, List.setIfInBounds_toArray, List.set_cons_zero, List.set_cons_succ]
    have hHeld := hHeld'
    clear hHeld'
    have hz : RB w2 (.slice (some ⟨w1.heap.size, 0, none⟩) 1 1) [0] := by rw [hw2]; exact (RB.lit w1 5 (0, 0) [0] _ rfl 1 rfl (by decide)).drew
    have own2 := own_below HO1.out hbw2
    clear hw2
    refine wpAnyH_ready (rs := [2]) (by kernel_rfl) (by simp) ?_
    refine AllReadyH.cons (o := { dst := some 14, op := Op.call { callee := Callee.builtin Builtin.append, args := #[Operand.tmp 12, Operand.tmp 13], argTypes := #[23, 23] }, type := 23, pos := "code.go:63", after := #[{ on := 0, ground := Ground.data }, { on := 1, ground := Ground.data }], guard := none }) rfl (fun K hK => ?_) AllReadyH.nil
    refine step_own (by rfl) (.tmp 12) (.tmp 13) 23 23 (by rfl) wb.heap.size 5 (.int .u8 0) 1 1 Try.underlying23 info5 rfl (by rfl) own2 (by rfl) (hz.src Try.underlying23) hHeld (Nat.le_refl _) (by unfold maxLen; simp; omega) (by simp; omega) hHeld.size ?_
    intro v4 w3 hown3 hbel3 _
    have hHeld' := hbel3
    refine hK.out _ _ ?_ (fun _ => ?_)
    · exact hHeld'
    clear hK K hHeld
    try simp only [Act.put, List.setIfInBounds_toArray, List.set_cons_zero, List.set_cons_succ]
    have hHeld := hHeld'
    clear hHeld'
    have own3 := hown3
    clear hown3
    obtain ⟨A4, c4, rfl, _⟩ := own_shape own3
    refine wpAnyH_ready (rs := [6]) (by kernel_rfl) (by simp) ?_
    refine AllReadyH.cons (o := { dst := some 18, op := Op.call { callee := Callee.value (Operand.func 82), args := #[Operand.tmp 17], argTypes := #[9] }, type := 23, pos := "code.go:63", after := #[{ on := 5, ground := Ground.data }, { on := 2, ground := Ground.chain }], guard := none }) rfl (fun K hK => ?_) AllReadyH.nil
    go_simp
    refine (text_any _ HSZ.out _).mono ?_
    rintro x w4 ⟨v5, rfl, hown5, hbw5⟩
    try (go_wp2_with fail)
    have hHeld' := hHeld.trans (hbw5.mono hHeld.size)
    refine hK.out _ _ ?_ (fun _ => ?_)
    · exact hHeld'
    clear hK K hHeld
    try simp only [Act.put, List.setIfInBounds_toArray, List.set_cons_zero, List.set_cons_succ]
    have hHeld := hHeld'
    clear hHeld'
    have own4 := own_below own3 hbw5
    refine wpAnyH_ready (rs := [7]) (by kernel_rfl) (by simp) ?_
    refine AllReadyH.cons (o := { dst := some 19, op := Op.call { callee := Callee.builtin Builtin.append, args := #[Operand.tmp 14, Operand.tmp 18], argTypes := #[23, 23] }, type := 23, pos := "code.go:63", after := #[{ on := 2, ground := Ground.data }, { on := 6, ground := Ground.data }, { on := 6, ground := Ground.chain }], guard := none }) rfl (fun K hK => ?_) AllReadyH.nil
    refine step_own (by rfl) (.tmp 14) (.tmp 18) 23 23 (by rfl) wb.heap.size 5 (.int .u8 0) 1 1 Try.underlying23 info5 rfl (by rfl) own4 (by rfl) ((RB.own hown5).src Try.underlying23) hHeld (Nat.le_refl _) (by unfold maxLen; simp; omega) (by simp; omega) hHeld.size ?_
    intro v6 w5 hown6 hbel6 _
    have hHeld' := hbel6
    refine hK.out _ _ ?_ (fun _ => ?_)
    · exact hHeld'
    clear hK K hHeld
    try simp only [Act.put, List.setIfInBounds_toArray, List.set_cons_zero, List.set_cons_succ]
    have hHeld := hHeld'
    clear hHeld'
    refine wpAnyH_take (i := 8) (oi := { dst := some 2, op := Op.assign (Operand.tmp 19), type := 23, pos := "code.go:63", after := #[{ on := 7, ground := Ground.data }, { on := 7, ground := Ground.chain }, { on := 0, ground := Ground.phase }, { on := 1, ground := Ground.phase }, { on := 2, ground := Ground.phase }, { on := 3, ground := Ground.phase }, { on := 4, ground := Ground.phase }, { on := 5, ground := Ground.phase }, { on := 6, ground := Ground.phase }, { on := 7, ground := Ground.phase }], guard := none }) (v := ?_) rfl (by kernel_rfl) (by kernel_rfl) (by kernel_rfl) (fun _ _ _ h => h) (Or.inl ⟨by rfl, ?_⟩) (by assumption) ?_
    rotate_left
    · intro X hSw; go_simp; try (with_reducible rfl)
    try simp only [Act.put, List.setIfInBounds_toArray, List.set_cons_zero, List.set_cons_succ]
    refine wpAnyH_done (by kernel_rfl) ?_ _
    go_wp2
    go_ret
    refine ⟨_, rfl, ?_, HWB.out.trans (hHeld.mono HWB.out.size)⟩
    rw [HE.out]
    exact own_base (own_cat (l := textL k.data.toList ++ [0]) (m := textL l) (by rw [List.length_append, bvs_append]; exact hown6)) HWB.out.size
  · have E : chgL (k, l, true) = textL k.data.toList ++ [1] := by simp [chgL]
    have HE := Lib.hid E
    clear E
    go_enter Try.func65, Try.ntmps65
    go_wp2_with fail
    obtain ⟨wb, hwb⟩ : ∃ wb, wb = w.alloc (.cells #[.string k, .slice A l.length c, .bool true] 51) := ⟨_, rfl⟩
    rw [← hwb]
    have HWB := Lib.hid (show Below w.heap.size w wb by rw [hwb]; exact (Below.refl _ _).alloc (Nat.le_refl _) _)
    have HLT := Lib.hid (show w.heap.size < wb.heap.size by rw [hwb]; simp)
    have HCG := Lib.hid (show wb.cell? ⟨w.heap.size, 2, none⟩ = some (.bool true) by rw [hwb]; simp)
    clear hwb
    refine (text_any k hk _).mono ?_
    rintro e w1 ⟨v1, rfl, hown, hbel⟩
    have hcg := (hbel.cell (p := ⟨w.heap.size, 2, none⟩) HLT.out).trans HCG.out
    have HO1 := Lib.hid hown
    have HB1 := Lib.hid hbel
    clear hown hbel
    go_wp2_with (at_builtin; refine wpList_own rfl (.tmp 9) (.tmp 10) 23 23 rfl wb.heap.size 5 (.int .u8 0) 1 1 Try.underlying23 info5 rfl rfl (HO1.out.alloc _) rfl (src_one w1 Try.underlying23 5 _ rfl) (HB1.out.alloc HB1.out.size _) (Nat.le_refl _) ?_ ?_ ?_ ?_)
    · unfold maxLen; omega
    · omega
    · have := HB1.out.size; simp; omega
    · intro v2 w2 hown2 hbel2 _
      go_wp2
      go_ret
      refine ⟨v2, rfl, ?_, HWB.out.trans (hbel2.mono HWB.out.size)⟩
      rw [HE.out]
      exact own_base (own_cat (l := textL k.data.toList) (m := [1]) hown2) HWB.out.size
end Go.Proofs.Ytomkbgghljcbfaa

/-
  The contracts of the generic list at changes, and of code.Changes: they make the bytes of changes that take at most a billion bytes in all.
-/
namespace Go.Proofs.Ytomkbgghljcbfaa
open Go.RowKit Go.Rst
theorem chgsB_take {rs : List Chg} {k : Nat} (h : k < rs.length) : chgsB (rs.take (k + 1)) = chgsB (rs.take k) ++ chgL rs[k] := by
  unfold chgsB
  rw [List.take_succ_eq_append_getElem h, List.flatMap_append]
  simp
theorem chgsB_le (rs : List Chg) (k : Nat) : (chgsB (rs.take k)).length ≤ (chgsB rs).length := by
  conv => rhs; rw [← List.take_append_drop k rs]
  unfold chgsB
  rw [List.flatMap_append, List.length_append]
  omega
theorem chgL_len (c : Chg) : c.1.data.toList.length ≤ (chgL c).length := by
  unfold chgL textL
  simp only [List.length_append]
  omega

set_option maxRecDepth 100000 in
set_option maxHeartbeats 1600000 in
theorem listC_any (v : Value) (rs : List Chg) (hbig : (chgsB rs).length ≤ 1000000000) (hn : rs.length ≤ 1000000000) (hvb : ∀ r ∈ rs, r.2.1.length ≤ 1000000000) (w : World) (hv : RC w v rs) :
    Calls Try.prog 64 #[v, .func (Fn.func 65) #[] #[]] w (NewB 5 w (chgsL rs)) := by
  obtain ⟨A, c, rfl, hlc, hc, hcells⟩ := hv
  have HC := Lib.hid hcells
  have HBIG := Lib.hid hvb
  clear hvb
  clear hcells
  unfold maxLen at hc
  go_enter Try.func64, Try.ntmps64
  go_wp2_with fail
  refine (num_any _ _).mono ?_
  rintro e w1 ⟨vn, rfl, hown, hbel⟩
  have e1 : clip (rs.length : Int) = rs.length := by unfold clip; omega
  rw [e1] at hown
  have h8 := numL_len8 (n := rs.length) (by omega)
  clear e1
  go_wp2
  go_loopw [5, 13] (fun b i wr => ∃ k : Nat, k ≤ rs.length ∧ i = .int .i64 k ∧ wr.ownsRow w.heap.size 5 1 b (numL rs.length ++ chgsB (rs.take k)).length (bvs (numL rs.length ++ chgsB (rs.take k))) ∧ Below w.heap.size w wr)
    (fun _ i _ => rs.length - (intOf i).toNat)
  case atStart => exact ⟨0, Nat.zero_le _, rfl, by simpa [chgsB] using hown, hbel⟩
  case round =>
    clear hown hbel
    obtain ⟨k, hk, rfl, hown, hbel⟩ := hrel
    by_cases hlt : k < rs.length
    · obtain ⟨b, off, rfl, hb, hcell⟩ : ∃ b off, A = some ⟨b, off, none⟩ ∧ b < w.heap.size ∧
          ∀ j (h : j < rs.length), w.cell? ⟨b, off + j * 3, none⟩ = some (.string rs[j].1) ∧ (∃ u, w.cell? ⟨b, off + j * 3 + 1, none⟩ = some u ∧ RB w u rs[j].2.1) ∧ w.cell? ⟨b, off + j * 3 + 2, none⟩ = some (.bool rs[j].2.2) := by
        rcases HC.out with rfl | h
        · simp at hlt
        · exact h
      obtain ⟨hc0, ⟨u, hc1, hru⟩, hc2⟩ := hcell k hlt
      have hk0 := (hbel.cell (p := ⟨b, off + k * 3, none⟩) hb).trans hc0
      have hk1 := (hbel.cell (p := ⟨b, off + k * 3 + 1, none⟩) hb).trans hc1
      have hk2 := (hbel.cell (p := ⟨b, off + k * 3 + 2, none⟩) hb).trans hc2
      have hru1 := hru.below hbel
      have htk := chgsB_take hlt
      have hle := chgsB_le rs (k + 1)
      have hrl := chgL_len rs[k]
      have hrv := HBIG.out rs[k] (List.getElem_mem hlt)
      rw [htk, List.length_append] at hle
      generalize rs[k] = r at *
      have HT := Lib.hid htk
      have hsz := hbel.size
      clear hcell hc0 hc1 hc2 htk HC
      obtain ⟨A2, c2, rfl⟩ : ∃ A2 c2, u = .slice A2 r.2.1.length c2 := by
        obtain ⟨A2, c2, h, _⟩ := hru
        exact ⟨A2, c2, h⟩
      have hkl : r.1.size ≤ 1000000000 := by rw [Array.length_toList] at hrl; show r.1.data.size ≤ _; omega
      have hcall : ∀ W, RB W (.slice A2 r.2.1.length c2) r.2.1 → Calls Try.prog 65 #[.agg #[.string r.1, .slice A2 r.2.1.length c2, .bool r.2.2]] W (NewB 5 W (chgL r)) := fun W hW => change_any r.1 (.slice A2 r.2.1.length c2) r.2.1 r.2.2 hkl (by omega) W hW
      have HL := Lib.hid hcall
      clear hcall hru hkl
      go_wp2_with fail
      refine (HL.out _ ?_).mono ?_
      · exact hru1.alloc _
      rintro e w2 ⟨v2, rfl, hown2, hbel2⟩
      have hb3 : Below w.heap.size w w2 := (hbel.alloc hsz _).trans (hbel2.mono (by simp; omega))
      have hown3 := own_below (hown.alloc _) hbel2
      clear hown hbel hru1 hk0 hk1 hk2
      go_wp2_with (at_builtin; refine wpList_own rfl (.tmp 17) (.tmp 20) 23 23 rfl w.heap.size 5 (.int .u8 0) 1 1 Try.underlying23 info5 rfl rfl hown3 rfl ((RB.own hown2).src Try.underlying23) hb3 (Nat.le_refl _) ?_ ?_ ?_ ?_)
      · rw [List.length_append]; unfold maxLen; omega
      · rw [List.length_append]; omega
      · exact hb3.size
      · intro v' w4 hown' hbel' _
        go_wp2
        go_roundw
        case rel => exact ⟨k + 1, by omega, by go_num, by rw [HT.out, ← List.append_assoc]; exact own_cat (by rw [List.length_append]; exact hown'), hbel'⟩
        case measure => simp [intOf]; omega
    · go_wp2
      go_ret
      have : k = rs.length := by omega
      subst this
      rw [List.take_length] at hown
      exact ⟨_, rfl, hown, hbel⟩

set_option maxRecDepth 100000 in
set_option maxHeartbeats 1600000 in
theorem changes_any (v : Value) (rs : List Chg) (hbig : (chgsB rs).length ≤ 1000000000) (hn : rs.length ≤ 1000000000) (hvb : ∀ r ∈ rs, r.2.1.length ≤ 1000000000) (w : World) (hv : RC w v rs) :
    Calls Try.prog 45 #[v] w (NewB 5 w (chgsL rs)) := by
  go_enter Try.func45, Try.ntmps45
  go_wp2_with fail
  refine (listC_any v rs hbig hn hvb w hv).mono ?_
  rintro e w1 ⟨v1, rfl, hown, hbel⟩
  go_wp2
  go_ret
  exact ⟨v1, rfl, hown, hbel⟩
end Go.Proofs.Ytomkbgghljcbfaa
