/-
  The contracts of the reference's More and Sum: bit by bit they are the same check.
-/
import Derived.Test.YtomkbgghljcbfaaGTail
import Derived.Test.YtomkbgghljcbfaaLMath
set_option linter.unusedVariables false

namespace Go.Proofs.Ytomkbgghljcbfaa
open Go.RowKit Go.Rst Go.Crc

set_option maxRecDepth 100000 in
set_option maxHeartbeats 1000000 in
theorem refMore_any (n : Nat) (hn : n < B32) (v : Value) (l : List UInt8) (w : World) (hv : RB w v l) :
    Calls Try.prog 94 #[.int .u32 n, v] w fun e w' => e = .returned (.int .u32 (cmore n l : Nat)) ∧ w = w' := by
  have hb : n ≤ 4294967295 := by unfold B32 at hn; omega
  have hx0 := xor32_ones hn
  have HX := Lib.hid hx0
  have HV := Lib.hid hv
  obtain ⟨A, c, rfl, h1, h2, _⟩ := hv
  simp only [maxLen] at h2
  clear hx0
  go_enter Try.func94, Try.ntmps94
  go_wp2
  rw [HX.out]
  go_loop [0, 5] (fun x i => ∃ k : Nat, k ≤ l.length ∧ i = .int .i64 k ∧ x = .int .u32 (craw (n ^^^ ones) (l.take k) : Nat)) (fun _ i => l.length - (intOf i).toNat)
  case atStart => exact ⟨0, by omega, rfl, rfl⟩
  case round =>
    obtain ⟨k, hk, rfl, rfl⟩ := hrel
    have hm := craw_lt (l.take k) (xor_lt hn ones_lt)
    by_cases hlt : k < l.length
    · have hst := craw_take (n ^^^ ones) l k hlt
      generalize craw (n ^^^ ones) (l.take k) = m at *
      have HST := Lib.hid hst
      obtain ⟨b, off, rfl, hbh, hc⟩ := rb_cell HV.out hlt
      obtain ⟨x, hx⟩ : ∃ x, x = l[k] := ⟨_, rfl⟩
      rw [← hx] at hc HST
      have hxl : x.toNat < 256 := x.toNat_lt
      have hm' : m ≤ 4294967295 := by unfold B32 at hm; omega
      have h32 := xor32 hm (byte_lt x)
      have hy := xor_lt hm (byte_lt x)
      obtain ⟨y, hyd⟩ : ∃ y, y = m ^^^ x.toNat := ⟨_, rfl⟩
      rw [← hyd] at h32 hy
      have HY := Lib.hid hyd
      unfold bv at hc
      clear hst hx hyd
      go_wp2
      clear h32 hc
      go_loop [0, 6] (fun z i => ∃ j : Nat, j ≤ 8 ∧ i = .int .i64 j ∧ z = .int .u32 (csteps j y : Nat)) (fun _ i => 8 - (intOf i).toNat)
      case atStart => exact ⟨0, by omega, rfl, rfl⟩
      case round =>
        obtain ⟨j, hj, rfl, rfl⟩ := hrel
        have hs := csteps_lt j hy
        have hss := csteps_succ j y
        by_cases hj8 : j < 8
        · generalize csteps j y = z at *
          have hz : z ≤ 4294967295 := by unfold B32 at hs; omega
          have hx := xor32_poly (a := z / 2) (by unfold B32; omega)
          have e1 : ((z / 2 : Nat) : Int) = (z : Int) / 2 := by omega
          rw [e1] at hx
          by_cases h : z % 2 = 1
          · have e : cstep z = z / 2 ^^^ poly := by unfold cstep; rw [if_pos h]
            rw [← e, ← hss] at hx
            have hq : ((z : Int) % 2 == 1) = true := by rw [beq_iff_eq]; omega
            have h' : 1 ≤ z % 2 := by omega
            clear h e hss e1
            go_wp2
            go_round
            case rel => exact ⟨j + 1, by omega, by go_num, rfl⟩
            case measure => simp [intOf]; omega
          · have e : cstep z = z / 2 := by unfold cstep; rw [if_neg h]
            rw [e] at hss
            have hq : ((z : Int) % 2 == 1) = false := by rw [beq_eq_false_iff_ne]; omega
            have HSS := Lib.hid hss
            clear h e hx e1 hss
            go_wp2
            go_round
            case rel => exact ⟨j + 1, by omega, by go_num, by rw [HSS.out]; rfl⟩
            case measure => simp [intOf]; omega
        · have e : j = 8 := by omega
          have h8 : csteps j y = cbyte m x := by rw [e, HY.out]; rfl
          rw [h8]
          clear h8 e hss hs
          go_wp2
          go_round
          case rel => exact ⟨k + 1, by omega, by go_num, by rw [HST.out]⟩
          case measure => simp [intOf]; omega
    · have e : k = l.length := by omega
      have hx := xor32_ones hm
      rw [e, List.take_length] at hx
      have HE := Lib.hid hx
      have HK2 := Lib.hid e
      clear hx e
      go_wp2
      go_ret
      rw [HK2.out, List.take_length, HE.out]
      exact ⟨rfl, rfl⟩

theorem refMore_zero (v : Value) (l : List UInt8) (w : World) (hv : RB w v l) :
    Calls Try.prog 94 #[.int .u32 0, v] w fun e w' => e = .returned (.int .u32 (csum l : Nat)) ∧ w = w' := refMore_any 0 (by decide) v l w hv

set_option maxRecDepth 100000 in
set_option maxHeartbeats 400000 in
theorem refSum_any (v : Value) (l : List UInt8) (w : World) (hv : RB w v l) :
    Calls Try.prog 86 #[v] w fun e w' => e = .returned (.int .u32 (csum l : Nat)) ∧ w = w' := by
  have HV := Lib.hid hv
  clear hv
  go_enter Try.func86, Try.ntmps86
  go_wp2_with fail
  refine (refMore_zero v l _ HV.out).mono ?_
  rintro e w1 ⟨rfl, rfl⟩
  go_wp2
  go_ret
  exact ⟨rfl, rfl⟩
end Go.Proofs.Ytomkbgghljcbfaa

/-
  The contract of the reference's Seal: bytes with their check behind.
-/
namespace Go.Proofs.Ytomkbgghljcbfaa
open Go.RowKit Go.Rst Go.Crc
set_option maxRecDepth 100000 in
set_option maxHeartbeats 1000000 in
theorem refSeal_any (v : Value) (l : List UInt8) (w : World) (hv : RB w v l) (hl : l.length ≤ 1000000) :
    Calls Try.prog 74 #[v] w (NewB 5 w (sealL l)) := by
  have hs := csum_lt l
  have HV := Lib.hid hv
  obtain ⟨A, c, rfl, _⟩ := hv
  go_enter Try.func74, Try.ntmps74
  go_wp2_with fail
  refine (refSum_any _ l _ HV.out).mono ?_
  rintro e w1 ⟨rfl, rfl⟩
  have e0 : sealL l = l ++ tailL (csum l) := rfl
  generalize csum l = n at *
  have E0 := Lib.hid e0
  clear e0
  have hb : n ≤ 4294967295 := by unfold B32 at hs; omega
  have HC := Lib.hid (tail_cells hb)
  go_wp2_with (at_builtin; refine wpList_own rfl (.tmp 7) (.tmp 8) 23 23 rfl w.heap.size 5 (.int .u8 0) 1 1 Try.underlying23 info5 rfl rfl (World.ownsRow_nil _ _ _ _) rfl (HV.out.src Try.underlying23) (Below.refl _ _) (Nat.le_refl _) ?_ ?_ ?_ ?_)
  · unfold maxLen; omega
  · omega
  · exact Nat.le_refl _
  · intro v1 w1 hown hbel _
    have hsz := hbel.size
    have HO := Lib.hid hown
    have HB := Lib.hid hbel
    clear hown hbel
    go_wp2_with (at_builtin; (refine wpList_own rfl (.tmp 10) (.tmp 25) 23 23 rfl w.heap.size 5 (.int .u8 0) 1 1 Try.underlying23 info5 rfl rfl (HO.out.alloc _) rfl ((RB.own (tail_own HC.out w1 5)).src Try.underlying23) (HB.out.alloc HB.out.size _) (Nat.le_refl _) ?_ ?_ ?_ ?_))
    · rw [tailL_length]; unfold maxLen; omega
    · rw [tailL_length]; omega
    · simp; omega
    · intro v2 w2 hown2 hbel2 _
      go_wp2
      go_ret
      refine ⟨v2, rfl, ?_, hbel2⟩
      rw [E0.out]
      exact own_cat (by simpa using hown2)
end Go.Proofs.Ytomkbgghljcbfaa

/-
  The contracts of the reference's word and part.
-/
namespace Go.Proofs.Ytomkbgghljcbfaa
open Go.RowKit Go.Rst Go.Crc
/-- A slice's length. -/
def vlenP (v : Value) : Nat := match v with | .slice _ n _ => n | _ => 0
theorem word_cells {n : Nat} : #[Value.int .u8 ((n : Int) / 16777216 % 256), .int .u8 ((n : Int) / 65536 % 256), .int .u8 ((n : Int) / 256 % 256), .int .u8 ((n : Int) % 256)] = (bvs (wordL n)).toArray := by
  unfold wordL bvs bv
  simp only [List.map_cons, List.map_nil, UInt8.toNat_ofNat']
  simp

set_option maxRecDepth 100000 in
set_option maxHeartbeats 400000 in
theorem word_any (n : Nat) (hn : n ≤ 1073741824000) (w : World) : Calls Try.prog 73 #[.int .i64 n] w (NewB 5 w (wordL n)) := by
  go_enter Try.func73, Try.ntmps73
  go_wp2
  go_ret
  exact ⟨_, rfl, own_lit word_cells rfl (by decide), (Below.refl _ _).alloc (Nat.le_refl _) _⟩

theorem three_cells {i o l : Nat} (hl : l ≤ 255) : #[Value.int .u8 ((i : Int) % 256), .int .u8 ((o : Int) % 256), .int .u8 (l : Int)] = (bvs [UInt8.ofNat i, UInt8.ofNat o, UInt8.ofNat l]).toArray := by
  unfold bvs bv
  simp only [List.map_cons, List.map_nil, UInt8.toNat_ofNat']
  simp
  omega
theorem three_own {i o l : Nat} {cs : Array Value} (h : cs = (bvs [UInt8.ofNat i, UInt8.ofNat o, UInt8.ofNat l]).toArray) (w : World) (e : TypeId) : (w.alloc (.cells cs e)).ownsRow w.heap.size e 1 (.slice (some ⟨w.heap.size, 0, none⟩) 3 3) [UInt8.ofNat i, UInt8.ofNat o, UInt8.ofNat l].length (bvs [UInt8.ofNat i, UInt8.ofNat o, UInt8.ofNat l]) :=
  own_lit h rfl (by decide)

set_option maxRecDepth 100000 in
set_option maxHeartbeats 1600000 in
theorem part_any (epoch n i of : Nat) (v : Value) (b : List UInt8) (he : epoch ≤ 1073741824000) (hn : n ≤ 1073741824000) (w : World) (hv : RB w v b) (hb : b.length ≤ 49) :
    Calls Try.prog 49 #[.int .i64 epoch, .int .i64 n, .int .i64 i, .int .i64 of, v] w (NewB 5 w (partL epoch n i of b)) := by
  have HV := Lib.hid hv
  obtain ⟨A, c, rfl, _⟩ := hv
  go_enter Try.func49, Try.ntmps49
  go_wp2_with fail
  refine (word_any epoch he _).mono ?_
  rintro e w1 ⟨v1, rfl, hown1, hbel1⟩
  go_wp2_with fail
  refine (word_any n hn _).mono ?_
  rintro e w2 ⟨v2, rfl, hown2, hbel2⟩
  obtain ⟨A1, c1, rfl, _⟩ := own_shape hown1
  obtain ⟨A2, c2, rfl, _⟩ := own_shape hown2
  have HO1 := Lib.hid (own_below hown1 hbel2)
  have HS2 := Lib.hid ((RB.own hown2).src (P := Try.prog) Try.underlying23)
  have HB2 := Lib.hid (hbel1.trans (hbel2.mono hbel1.size))
  have hsz1 := hbel1.size
  clear hown1 hown2 hbel1 hbel2
  go_wp2_with (at_builtin; refine wpList_own rfl (.tmp 17) (.tmp 18) 23 23 rfl w.heap.size 5 (.int .u8 0) 1 1 Try.underlying23 info5 rfl rfl HO1.out rfl HS2.out HB2.out (Nat.le_refl _) ?_ ?_ ?_ ?_)
  · simp only [wordL_length]; unfold maxLen; omega
  · simp only [wordL_length]; omega
  · exact HB2.out.size
  intro v3 w3 hown3 hbel3 _
  obtain ⟨A3, c3, rfl, _⟩ := own_shape hown3
  have HO3 := Lib.hid (own_cat hown3)
  have HB3 := Lib.hid hbel3
  have hsz3 := hbel3.size
  clear hown3 hbel3 HO1 HS2 HB2
  have HC := Lib.hid (three_cells (i := i) (o := of) (l := b.length) (by omega))
  go_wp2_with (at_builtin; (refine wpList_own rfl (.tmp 20) (.tmp 28) 23 23 rfl w.heap.size 5 (.int .u8 0) 1 1 Try.underlying23 info5 rfl rfl (HO3.out.alloc _) rfl ((RB.own (three_own HC.out w3 5)).src Try.underlying23) (HB3.out.alloc hsz3 _) (Nat.le_refl _) ?_ ?_ ?_ ?_))
  · simp [wordL]; unfold maxLen; omega
  · simp [wordL]
  · simp; omega
  intro v4 w4 hown4 hbel4 _
  obtain ⟨A4, c4, rfl, _⟩ := own_shape hown4
  have HO4 := Lib.hid (own_cat hown4)
  have HB4 := Lib.hid hbel4
  have hsz4 := hbel4.size
  clear hown4 hbel4 HO3 HB3 HC
  go_wp2_with (at_builtin; refine wpList_own rfl (.tmp 30) (.tmp 31) 23 23 rfl w.heap.size 5 (.int .u8 0) 1 1 Try.underlying23 info5 rfl rfl HO4.out rfl ((HV.out.below HB4.out).src Try.underlying23) HB4.out (Nat.le_refl _) ?_ ?_ ?_ ?_)
  · simp [wordL]; unfold maxLen; omega
  · simp [wordL]; omega
  · exact hsz4
  intro v5 w5 hown5 hbel5 _
  obtain ⟨A5, c5, rfl, _⟩ := own_shape hown5
  have hh : (wordL epoch ++ wordL n ++ [UInt8.ofNat i, UInt8.ofNat of, UInt8.ofNat b.length]) ++ b = headL epoch n i of b := rfl
  have HO5 := Lib.hid (show w5.ownsRow w.heap.size 5 1 _ (headL epoch n i of b).length (bvs (headL epoch n i of b)) by rw [← hh]; exact own_cat hown5)
  have HB5 := Lib.hid hbel5
  have hlen := headL_length epoch n i of b
  have hpt : partL epoch n i of b = sealL (pad60 (headL epoch n i of b)) := rfl
  clear hown5 hbel5 HO4 HB4 hh hsz1 hsz3 hsz4
  generalize headL epoch n i of b = hd at *
  go_wp2
  go_loopw [11] (fun o wr => ∃ j : Nat, hd.length + j ≤ 60 ∧ wr.ownsRow w.heap.size 5 1 o (hd ++ List.replicate j 0).length (bvs (hd ++ List.replicate j 0)) ∧ Below w.heap.size w wr)
    (fun o _ => 60 - vlenP o)
  case atStart => exact ⟨0, by omega, by simpa using HO5.out, HB5.out⟩
  case round =>
    obtain ⟨j, hj, hown, hbel⟩ := hrel
    have hsz := hbel.size
    obtain ⟨Ar, cr, rfl, _⟩ := own_shape hown
    have hrb := RB.own hown
    obtain ⟨L, hL⟩ : ∃ L, L = (hd ++ List.replicate j (0 : UInt8)).length := ⟨_, rfl⟩
    have hl : L = hd.length + j := by rw [hL]; simp
    rw [← hL] at hown hrb ⊢
    have HO := Lib.hid hown
    have HB := Lib.hid hbel
    have HR := Lib.hid hrb
    have HL := Lib.hid hl
    have HLN := Lib.hid hL
    have hL60 : L ≤ 60 := by omega
    by_cases hlt : L < 60
    · clear hown hbel HO5 HB5 hL hl hrb HR
      go_wp2_with (at_builtin; refine wpList_own rfl (.tmp 36) (.tmp 37) 23 23 rfl w.heap.size 5 (.int .u8 0) 1 1 Try.underlying23 info5 rfl rfl (HO.out.alloc _) rfl (src_one wr Try.underlying23 5 (.int .u8 0) rfl) (HB.out.alloc hsz _) (Nat.le_refl _) ?_ ?_ ?_ ?_)
      · unfold maxLen; omega
      · omega
      · simp; omega
      intro v6 w6 hown6 hbel6 _
      obtain ⟨A6, c6, rfl, _⟩ := own_shape hown6
      have hl7 : (hd ++ List.replicate (j + 1) (0 : UInt8)).length = L + 1 := by rw [HL.out]; simp; omega
      have HO7 := Lib.hid (show w6.ownsRow w.heap.size 5 1 (.slice A6 (L + 1) c6) (hd ++ List.replicate (j + 1) 0).length (bvs (hd ++ List.replicate (j + 1) 0)) by rw [hl7, pad_more, bvs_append]; exact hown6)
      have HB6 := Lib.hid hbel6
      clear hown6 hbel6 hl7
      go_wp2
      go_roundw
      case rel => exact ⟨j + 1, by have := HL.out; omega, HO7.out, HB6.out⟩
      case measure => simp only [vlenP]; omega
    · have hp : pad60 hd = hd ++ List.replicate j 0 := by unfold pad60; rw [show 60 - hd.length = j by omega]
      rw [hp] at hpt
      have HPT := Lib.hid hpt
      clear hpt hown hbel hl hL hrb hp
      have hcall := fun W (hb : RB W (.slice Ar L cr) (hd ++ List.replicate j 0)) => refSeal_any (.slice Ar L cr) (hd ++ List.replicate j 0) W hb (by rw [← HLN.out]; omega)
      obtain ⟨sl, hsl⟩ : ∃ sl, sl = sealL (hd ++ List.replicate j 0) := ⟨_, rfl⟩
      rw [← hsl] at hcall
      have HS := Lib.hid hsl
      have HC := Lib.hid hcall
      clear hsl hcall
      go_wp2_with fail
      refine (HC.out _ HR.out).mono ?_
      rintro e w7 ⟨v7, rfl, hown7, hbel7⟩
      have HO7 := Lib.hid hown7
      have HB7 := Lib.hid hbel7
      clear hown7 hbel7
      go_wp2
      go_ret
      rw [HPT.out, ← HS.out]
      exact ⟨_, rfl, own_base HO7.out hsz, HB.out.trans (HB7.out.mono hsz)⟩
end Go.Proofs.Ytomkbgghljcbfaa
