/-
  CrcTail returns true, and changes nothing that was there, for every slice of bytes and every number of 32 bits.
-/
import Derived.Test.YtloklbjaabbgcaaKnown
namespace Go.Proofs.Ytloklbjaabbgcaa
open Go.RowKit Go.Rst Go.Crc

set_option maxRecDepth 100000 in
set_option maxHeartbeats 1000000 in
theorem tail_law (v : Value) (l : List UInt8) (n : Nat) (w : World) (hv : RB w v l) (hl : l.length ≤ 140737488351232) (hn : n < B32) :
    Calls Try.prog 3 #[v, .int .u32 n] w fun e w' => e = .returned (.bool true) ∧ Below w.heap.size w w' := by
  have HV := Lib.hid hv
  obtain ⟨A, c, rfl, _, h2, _⟩ := hv
  simp only [maxLen] at h2
  have hn' : n ≤ 4294967295 := by unfold B32 at hn; omega
  by_cases hbig : 500 < l.length
  · have hb : (500 : Int) < (l.length : Int) := by omega
    go_enter Try.func3, Try.ntmps3
    go_wp2_with fail
    refine (known_any _).mono ?_
    rintro e w1 ⟨rfl, hb⟩
    have HB := Lib.hid hb
    clear hb
    go_wp2
    go_ret
    exact ⟨rfl, HB.out⟩
  · have hb : ¬ (500 : Int) < (l.length : Int) := by omega
    have hright := rightL_tail l hn
    have hlt := csum_lt l
    have hsl := sealL_length l
    have HC := Lib.hid (tail_cells hn')
    obtain ⟨x, hx⟩ : ∃ x, x = csum l := ⟨_, rfl⟩
    rw [← hx] at hright hlt
    have HX := Lib.hid hx.symm
    obtain ⟨b, hbq, hbr⟩ : ∃ b, ((n : Int) == (x : Int)) = b ∧ rightL (l ++ tailL n) = b := by
      refine ⟨_, rfl, ?_⟩
      rw [hright, Bool.eq_iff_iff]
      simp
      omega
    have HR := Lib.hid hbr
    have HL := Lib.hid hsl
    clear hx hright hbr hsl hn hlt
    go_enter Try.func3, Try.ntmps3
    go_wp2_with fail
    refine (sum_any _ _ _ HV.out).mono ?_
    rintro e w1 ⟨rfl, hb1⟩
    rw [HX.out]
    have HB1 := Lib.hid hb1
    clear hb1
    go_wp2_with (at_builtin; refine wpList_own rfl (.tmp 13) (.tmp 14) 22 22 rfl w.heap.size 5 (.int .u8 0) 1 1 Try.underlying22 info5 rfl rfl (World.ownsRow_nil _ _ _ _) rfl ((HV.out.below HB1.out).src Try.underlying22) HB1.out (Nat.le_refl _) ?_ ?_ ?_ ?_)
    · unfold maxLen; omega
    · omega
    · exact HB1.out.size
    · intro v2 w2 hown hbel _
      have HO := Lib.hid hown
      have HB := Lib.hid hbel
      clear hown hbel HB1
      go_wp2_with (at_builtin; refine wpList_own rfl (.tmp 16) (.tmp 28) 22 22 rfl w.heap.size 5 (.int .u8 0) 1 1 Try.underlying22 info5 rfl rfl (HO.out.alloc _) rfl ((RB.own (tail_own HC.out w2 5)).src Try.underlying22) (HB.out.alloc HB.out.size _) (Nat.le_refl _) ?_ ?_ ?_ ?_)
      · rw [tailL_length]; unfold maxLen; omega
      · rw [tailL_length]; omega
      · have := HB.out.size; simp; omega
      · intro v3 w3 hown2 hbel2 _
        have hown3 : w3.ownsRow w.heap.size 5 1 v3 (l ++ tailL n).length (bvs (l ++ tailL n)) := own_cat (by simpa using hown2)
        have HO2 := Lib.hid hown3
        have HB2 := Lib.hid hbel2
        obtain ⟨A2, c2, rfl, _⟩ := own_shape hown2
        clear hown2 hbel2 hown3 HO HB
        go_wp2_with fail
        refine (known_any _).mono ?_
        rintro e w4 ⟨rfl, hb3⟩
        have HR3 := Lib.hid ((RB.own HO2.out).below hb3)
        have HB3 := Lib.hid (HB2.out.trans (hb3.mono HB2.out.size))
        clear hb3 HB2 HO2
        go_wp2_with fail
        refine (right_any _ _ _ HR3.out).mono ?_
        rintro e w5 ⟨rfl, hb4⟩
        rw [HR.out]
        have HB4 := Lib.hid (HB3.out.trans (hb4.mono HB3.out.size))
        clear hb4 HR3 HB3
        go_wp2_with fail
        refine (seal_any _ _ _ (HV.out.below HB4.out) (by omega)).mono ?_
        rintro e w6 ⟨v6, rfl, hown, hb5⟩
        obtain ⟨A6, c6, rfl, _⟩ := own_shape hown
        rw [HL.out]
        have HB5 := Lib.hid (HB4.out.trans (hb5.mono HB4.out.size))
        clear hb5 HB4 hown
        go_wp2
        go_ret
        exact ⟨rfl, HB5.out⟩
theorem tail_walk (v : Value) (l : List UInt8) (a : Int) (w : World) (hv : RB w v l) (hl : l.length ≤ 140737488351232) (h0 : 0 ≤ a) (h1 : a ≤ 4294967295) :
    Calls Try.prog 3 #[v, .int .u32 a] w fun e w' => e = .returned (.bool true) ∧ Below w.heap.size w w' := by
  obtain ⟨n, rfl⟩ := Int.eq_ofNat_of_zero_le h0
  exact tail_law v l n w hv hl (by unfold B32; omega)
end Go.Proofs.Ytloklbjaabbgcaa
