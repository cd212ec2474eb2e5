/-
  The contracts of crc.More and crc.Sum: they are the check of bytes behind others, for every slice that reads as bytes.
-/
import Derived.Test.YtomkbgghljcbfaaCTable
namespace Go.Proofs.Ytomkbgghljcbfaa
open Go.RowKit Go.Rst Go.Crc

theorem setRow_below {w wr : World} {g : Nat} (h : Below g w wr) (cs : Array Value) : Below g w (wr.setRow g cs) :=
  h.trans ⟨rfl, rfl, rfl, by simp, fun j hj => setRow_other wr _ j cs (Nat.ne_of_lt hj)⟩

set_option maxRecDepth 100000 in
set_option maxHeartbeats 400000 in
theorem more_any (n : Nat) (hn : n < B32) (v : Value) (l : List UInt8) (w : World) (hv : RB w v l) :
    Calls Try.prog 93 #[.int .u32 n, v] w fun e w' => e = .returned (.int .u32 (cmore n l : Nat)) ∧ Below w.heap.size w w' := by
  obtain ⟨Z, hZ⟩ : ∃ Z, Z = Array.replicate 256 (Value.int .u32 0) := ⟨_, rfl⟩
  have z37 := zero37
  rw [← hZ] at z37
  have HZ := Lib.hid hZ
  clear hZ
  have hb : n ≤ 4294967295 := by unfold B32 at hn; omega
  have hx0 := xor32_ones hn
  have HX := Lib.hid hx0
  have HV := Lib.hid hv
  obtain ⟨A, c, rfl, h1, h2, _⟩ := hv
  unfold maxLen at h2
  clear hx0
  go_enter Try.func93, Try.ntmps93
  go_wp2_with fail
  refine (table_any _).mono ?_
  rintro e w1 ⟨cs, rfl, hT, hbel⟩
  have HT := Lib.hid hT
  have hS : Z.size = cs.size := by rw [HZ.out, hT.1]; simp
  have HS := Lib.hid hS
  have HB := Lib.hid hbel
  clear hS hT hbel
  go_wp2_with (refine wpList_store_row rfl 122 (.tmp 5) (.tmp 8) rfl w1.heap.size cs rfl rfl 122 Z (heap_alloc_new _ _) (info37s HT.out.1) HS.out HT.out.2.1 ?_)
  obtain ⟨W2, hW2⟩ : ∃ W2, W2 = (w1.alloc (.cells Z 122)).setRow w1.heap.size cs := ⟨_, rfl⟩
  rw [← hW2]
  have hblk : Blk W2 w1.heap.size 122 cs := by rw [hW2]; exact setRow_heap _ _ _ _ _ _ (heap_alloc_new _ _)
  have hbel2 : Below w.heap.size w W2 := by
    rw [hW2]
    have := (HB.out.alloc HB.out.size (.cells Z 122))
    exact this.trans ⟨rfl, rfl, rfl, by simp, fun j hj => setRow_other _ _ j cs (by have := HB.out.size; omega)⟩
  have hrb := HV.out.below hbel2
  obtain ⟨g, hg⟩ : ∃ g, g = w1.heap.size := ⟨_, rfl⟩
  rw [← hg] at hblk ⊢
  have HK := Lib.hid hblk
  have HB2 := Lib.hid hbel2
  have HR := Lib.hid hrb
  rw [HX.out]
  clear hblk hbel2 hrb HB HV HS HZ z37 hg hW2
  go_loop [0, 13] (fun x i => ∃ k : Nat, k ≤ l.length ∧ i = .int .i64 k ∧ x = .int .u32 (craw (n ^^^ ones) (l.take k) : Nat)) (fun _ i => l.length - (intOf i).toNat)
  case atStart => exact ⟨0, by omega, rfl, rfl⟩
  case round =>
    obtain ⟨k, hk, rfl, rfl⟩ := hrel
    have hm := craw_lt (l.take k) (xor_lt hn ones_lt)
    by_cases hlt : k < l.length
    · have hst := craw_take (n ^^^ ones) l k hlt
      generalize craw (n ^^^ ones) (l.take k) = m at *
      have HST := Lib.hid hst
      obtain ⟨b, off, rfl, hbh, hc⟩ : ∃ b off, A = some ⟨b, off, none⟩ ∧ b < W2.heap.size ∧ W2.cell? ⟨b, off + k, none⟩ = some (bv l[k]) := by
        obtain ⟨A', c', he, _, _, h3⟩ := HR.out
        injection he with e1 e2 e3
        subst e1
        rcases h3 with h3 | ⟨b, off, h4, h5, h6⟩
        · rw [h3] at hlt; simp at hlt
        · exact ⟨b, off, h4, h5, h6 k hlt⟩
      obtain ⟨x, hx⟩ : ∃ x, x = l[k] := ⟨_, rfl⟩
      rw [← hx] at hc HST
      have hxl : x.toNat < 256 := x.toNat_lt
      have h8 := xor8 (a := m % 256) (b := x.toNat) (by omega) hxl
      have hj : m % 256 ^^^ x.toNat < 256 := Nat.xor_lt_two_pow (n := 8) (by omega) hxl
      have hct := cbyte_table m x
      obtain ⟨j, hjd⟩ : ∃ j, j = m % 256 ^^^ x.toNat := ⟨_, rfl⟩
      rw [← hjd] at h8 hj hct
      have hcell := (HK.out.cell j).trans (HT.out.2.2 j hj)
      have hm' : m ≤ 4294967295 := by unfold B32 at hm; omega
      have h32 := xor32 (a := ceight j) (b := m / 256) (ceight_lt (by unfold B32; omega)) (by unfold B32; omega)
      rw [← hct] at h32
      have e1 : ((m % 256 : Nat) : Int) = (m : Int) % 256 := by omega
      have e2 : ((m / 256 : Nat) : Int) = (m : Int) / 256 := by omega
      rw [e1] at h8
      rw [e2] at h32
      unfold bv at hc
      clear hst hx hjd hct e1 e2 HR HK HT
      go_wp2
      go_round
      case rel => exact ⟨k + 1, by omega, by go_num, by rw [HST.out]⟩
      case measure => simp [intOf]; omega
    · have e : k = l.length := by omega
      have hx := xor32_ones hm
      rw [e, List.take_length] at hx
      have HE := Lib.hid hx
      have HK2 := Lib.hid e
      clear hx e HR HK HT
      go_wp2
      go_ret
      rw [HK2.out, List.take_length, HE.out]
      exact ⟨rfl, HB2.out⟩

theorem more_zero (v : Value) (l : List UInt8) (w : World) (hv : RB w v l) :
    Calls Try.prog 93 #[.int .u32 0, v] w fun e w' => e = .returned (.int .u32 (csum l : Nat)) ∧ Below w.heap.size w w' := more_any 0 (by decide) v l w hv

set_option maxRecDepth 100000 in
set_option maxHeartbeats 400000 in
theorem sum_any (v : Value) (l : List UInt8) (w : World) (hv : RB w v l) :
    Calls Try.prog 84 #[v] w fun e w' => e = .returned (.int .u32 (csum l : Nat)) ∧ Below w.heap.size w w' := by
  have HV := Lib.hid hv
  clear hv
  go_enter Try.func84, Try.ntmps84
  go_wp2_with fail
  refine (more_zero v l _ HV.out).mono ?_
  rintro e w1 ⟨rfl, hb⟩
  have HB := Lib.hid hb
  clear hb
  go_wp2
  go_ret
  exact ⟨rfl, HB.out⟩
end Go.Proofs.Ytomkbgghljcbfaa
