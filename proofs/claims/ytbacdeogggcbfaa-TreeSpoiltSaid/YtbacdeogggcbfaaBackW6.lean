/-
  The walk of TreeBack: it answers true of any choices, numbers and key.
-/
import Derived.Test.YtbacdeogggcbfaaBackT
namespace Go.Proofs.Ytbacdeogggcbfaa
open Go.RowKit Go.Rst Go.Pg Go.Crc
theorem rlen_le (x y : UInt8) : rlen x y ≤ 150 := by
  unfold rlen
  split <;> omega
theorem ris_good (l : List UInt8) (n : Nat) : (∀ r ∈ risL (rowsAt l (nrows l n)), r.1.size ≤ 30 ∧ r.2.length ≤ 150) ∧ Sorted (risL (rowsAt l (nrows l n))) ∧ (risL (rowsAt l (nrows l n))).length ≤ n := by
  obtain ⟨h1, h2, h3⟩ := risL_good (p := fun r => r.1.size ≤ 30 ∧ r.2.length ≤ 150) (l := rowsAt l (nrows l n)) (fun r hr => by
    unfold rowsAt at hr
    obtain ⟨j, _, rfl⟩ := List.mem_map.1 hr
    refine ⟨show (2 : Nat) ≤ 30 by decide, ?_⟩
    unfold rowOf
    rw [fill_length]
    exact rlen_le _ _)
  refine ⟨h1, h2, Nat.le_trans h3 ?_⟩
  unfold rowsAt nrows
  simp
  omega

set_option maxRecDepth 100000 in
set_option maxHeartbeats 4000000 in
theorem back_walk (vc : Value) (l : List UInt8) (n size : Nat) (key : ByteArray) (w : World) (hc : RB w vc l) (hl : l.length ≤ 140737488351232) (hn : n ≤ 255) (hs : size ≤ 255) :
    Calls Try.prog 4 #[vc, .int .u8 n, .int .u8 size, .string key] w fun e w' => e = .returned (.bool true) ∧ Below w.heap.size w w' := by
  have HC := Lib.hid hc
  obtain ⟨A3, c3, rfl, hl3, hc3, _⟩ := hc
  unfold maxLen at hc3
  by_cases hk : 40 < key.size
  · have hk' : (40 : Int) < (key.size : Int) := by omega
    go_enter Try.func4, Try.ntmps4
    go_wp2_with fail
    refine (known_any _).mono ?_
    rintro e w2 ⟨rfl, hb2⟩
    have HB2 := Lib.hid hb2
    clear hb2
    go_wp2
    go_ret
    exact ⟨rfl, HB2.out⟩
  · have hk' : (key.size : Int) ≤ 40 := by omega
    have K1 := Lib.hid (risT_any _ l 60 (by decide) w HC.out hl)
    obtain ⟨hg, hso, hle⟩ := ris_good l 60
    generalize risL (rowsAt l (nrows l 60)) = ra at *
    go_enter Try.func4, Try.ntmps4
    go_wp2_with fail
    refine K1.out.mono ?_
    rintro e w1 ⟨v1, rfl, ho1, hb1⟩
    have HB1 := Lib.hid hb1
    have K2 := Lib.hid (back_any v1 ra key hso (by omega) hg w1 ho1.rr)
    obtain ⟨A1, c1, rfl⟩ := or_shape ho1
    clear hb1 ho1 K1 hg hso
    go_wp2_with fail
    refine K2.out.mono ?_
    rintro e w2 ⟨rfl, hb2⟩
    have HB2 := Lib.hid (HB1.out.trans (hb2.mono HB1.out.size))
    have K3 := Lib.hid (manyT_any n (size % 120) hn (by omega) w2)
    have hg := manyL_good (n := n) (size := size % 120)
    have hso := manyL_sorted (n := n) (size := size % 120) hn
    have hlm := manyL_len n (size % 120)
    generalize manyL n (size % 120) = rb at *
    have hg' : ∀ r ∈ rb, r.1.size ≤ 30 ∧ r.2.length ≤ 150 := fun r hr => ⟨(hg r hr).1, by have := (hg r hr).2; omega⟩
    have hsz0 : (0 : Int) ≤ (size : Int) := by omega
    have HLM := Lib.hid hlm
    clear hb2 K2 hlm
    go_wp2_with fail
    refine K3.out.mono ?_
    rintro e w3 ⟨v3, rfl, ho3, hb3⟩
    have HB3 := Lib.hid (HB2.out.trans (hb3.mono HB2.out.size))
    have K4 := Lib.hid (back_any v3 rb key hso (by rw [HLM.out]; omega) hg' w3 ho3.rr)
    obtain ⟨A4, c4, rfl⟩ := or_shape ho3
    clear hb3 ho3 K3 hg hg' hso
    go_wp2_with fail
    refine K4.out.mono ?_
    rintro e w4 ⟨rfl, hb4⟩
    have HB4 := Lib.hid (HB3.out.trans (hb4.mono HB3.out.size))
    clear hb4
    go_wp2_with fail
    refine (known_any _).mono ?_
    rintro e w5 ⟨rfl, hb5⟩
    have HB5 := Lib.hid (HB4.out.trans (hb5.mono HB4.out.size))
    clear hb5
    go_wp2
    go_ret
    exact ⟨rfl, HB5.out⟩
end Go.Proofs.Ytbacdeogggcbfaa
