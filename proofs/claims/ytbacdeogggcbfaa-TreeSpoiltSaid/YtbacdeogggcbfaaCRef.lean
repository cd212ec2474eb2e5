/-
  The contracts of the reference's More and Sum: bit by bit they are the same check.
-/
import Derived.Test.YtbacdeogggcbfaaCWords
namespace Go.Proofs.Ytbacdeogggcbfaa
open Go.RowKit Go.Rst Go.Crc

set_option maxRecDepth 100000 in
set_option maxHeartbeats 1000000 in
theorem refMore_any (n : Nat) (hn : n < B32) (v : Value) (l : List UInt8) (w : World) (hv : RB w v l) :
    Calls Try.prog 57 #[.int .u32 n, v] w fun e w' => e = .returned (.int .u32 (cmore n l : Nat)) ∧ w = w' := by
  have hb : n ≤ 4294967295 := by unfold B32 at hn; omega
  have hx0 := xor32_ones hn
  have HX := Lib.hid hx0
  have HV := Lib.hid hv
  obtain ⟨A, c, rfl, h1, h2, _⟩ := hv
  simp only [maxLen] at h2
  clear hx0
  go_enter Try.func57, Try.ntmps57
  go_wp2
  rw [HX.out]
  go_loop [0, 5] (fun x i => ∃ k : Nat, k ≤ l.length ∧ i = .int .i64 k ∧ x = .int .u32 (craw (n ^^^ ones) (l.take k) : Nat)) (fun _ i => l.length - (intOf i).toNat)
  case atStart => exact ⟨0, by omega, rfl, rfl⟩
  case round =>
    obtain ⟨k, hk, rfl, rfl⟩ := hrel
    have hm := craw_lt (l.take k) (xor_lt hn ones_lt)
    by_cases hlt : k < l.length
    · have hst := craw_take (n ^^^ ones) l k hlt
      generalize craw (n ^^^ ones) (l.take k) = m at *
      have HST := Lib.hid hst
      obtain ⟨b, off, rfl, hbh, hc⟩ := rb_cell HV.out hlt
      obtain ⟨x, hx⟩ : ∃ x, x = l[k] := ⟨_, rfl⟩
      rw [← hx] at hc HST
      have hxl : x.toNat < 256 := x.toNat_lt
      have hm' : m ≤ 4294967295 := by unfold B32 at hm; omega
      have h32 := xor32 hm (byte_lt x)
      have hy := xor_lt hm (byte_lt x)
      obtain ⟨y, hyd⟩ : ∃ y, y = m ^^^ x.toNat := ⟨_, rfl⟩
      rw [← hyd] at h32 hy
      have HY := Lib.hid hyd
      unfold bv at hc
      clear hst hx hyd
      go_wp2
      clear h32 hc
      go_loop [0, 6] (fun z i => ∃ j : Nat, j ≤ 8 ∧ i = .int .i64 j ∧ z = .int .u32 (csteps j y : Nat)) (fun _ i => 8 - (intOf i).toNat)
      case atStart => exact ⟨0, by omega, rfl, rfl⟩
      case round =>
        obtain ⟨j, hj, rfl, rfl⟩ := hrel
        have hs := csteps_lt j hy
        have hss := csteps_succ j y
        by_cases hj8 : j < 8
        · generalize csteps j y = z at *
          have hz : z ≤ 4294967295 := by unfold B32 at hs; omega
          have hx := xor32_poly (a := z / 2) (by unfold B32; omega)
          have e1 : ((z / 2 : Nat) : Int) = (z : Int) / 2 := by omega
          rw [e1] at hx
          by_cases h : z % 2 = 1
          · have e : cstep z = z / 2 ^^^ poly := by unfold cstep; rw [if_pos h]
            rw [← e, ← hss] at hx
            have hq : ((z : Int) % 2 == 1) = true := by rw [beq_iff_eq]; omega
            have h' : 1 ≤ z % 2 := by omega
            clear h e hss e1
            go_wp2
            go_round
            case rel => exact ⟨j + 1, by omega, by go_num, rfl⟩
            case measure => simp [intOf]; omega
          · have e : cstep z = z / 2 := by unfold cstep; rw [if_neg h]
            rw [e] at hss
            have hq : ((z : Int) % 2 == 1) = false := by rw [beq_eq_false_iff_ne]; omega
            have HSS := Lib.hid hss
            clear h e hx e1 hss
            go_wp2
            go_round
            case rel => exact ⟨j + 1, by omega, by go_num, by rw [HSS.out]; rfl⟩
            case measure => simp [intOf]; omega
        · have e : j = 8 := by omega
          have h8 : csteps j y = cbyte m x := by rw [e, HY.out]; rfl
          rw [h8]
          clear h8 e hss hs
          go_wp2
          go_round
          case rel => exact ⟨k + 1, by omega, by go_num, by rw [HST.out]⟩
          case measure => simp [intOf]; omega
    · have e : k = l.length := by omega
      have hx := xor32_ones hm
      rw [e, List.take_length] at hx
      have HE := Lib.hid hx
      have HK2 := Lib.hid e
      clear hx e
      go_wp2
      go_ret
      rw [HK2.out, List.take_length, HE.out]
      exact ⟨rfl, rfl⟩

theorem refMore_zero (v : Value) (l : List UInt8) (w : World) (hv : RB w v l) :
    Calls Try.prog 57 #[.int .u32 0, v] w fun e w' => e = .returned (.int .u32 (csum l : Nat)) ∧ w = w' := refMore_any 0 (by decide) v l w hv

set_option maxRecDepth 100000 in
set_option maxHeartbeats 400000 in
theorem refSum_any (v : Value) (l : List UInt8) (w : World) (hv : RB w v l) :
    Calls Try.prog 54 #[v] w fun e w' => e = .returned (.int .u32 (csum l : Nat)) ∧ w = w' := by
  have HV := Lib.hid hv
  clear hv
  go_enter Try.func54, Try.ntmps54
  go_wp2_with fail
  refine (refMore_zero v l _ HV.out).mono ?_
  rintro e w1 ⟨rfl, rfl⟩
  go_wp2
  go_ret
  exact ⟨rfl, rfl⟩
end Go.Proofs.Ytbacdeogggcbfaa
