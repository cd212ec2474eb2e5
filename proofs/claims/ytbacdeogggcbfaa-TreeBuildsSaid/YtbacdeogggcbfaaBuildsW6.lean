/-
  The walk of TreeBuilds: it answers true of any rows, choices and numbers.
-/
import Derived.Test.YtbacdeogggcbfaaBuilds6
import Derived.Test.YtbacdeogggcbfaaGLay
namespace Go.Proofs.Ytbacdeogggcbfaa
open Go.RowKit Go.Rst Go.Pg Go.Crc

set_option maxRecDepth 100000 in
set_option maxHeartbeats 4000000 in
theorem builds_walk (v : Value) (rs : List Rw) (vc : Value) (l : List UInt8) (n size : Nat) (w : World) (hv : RR w v rs) (hc : RB w vc l) (hl : l.length ≤ 140737488351232) (hn : n ≤ 255) (hs : size ≤ 255) :
    Calls Try.prog 3 #[v, vc, .int .u8 n, .int .u8 size] w fun e w' => e = .returned (.bool true) ∧ Below w.heap.size w w' := by
  have HA := Lib.hid hv
  have HC := Lib.hid hc
  obtain ⟨A1, c1, rfl, hl1, hc1, _⟩ := hv
  obtain ⟨A3, c3, rfl, hl3, hc3, _⟩ := hc
  unfold maxLen at hc1 hc3
  go_enter Try.func3, Try.ntmps3
  go_wp2
  go_loopw [9, 10] (fun z0 i wr => ∃ (k : Nat) (z : Int), k ≤ rs.length ∧ i = .int .i64 k ∧ z0 = .int .i64 z ∧ Below w.heap.size w wr) (fun _ i _ => rs.length - (intOf i).toNat)
  case atStart => exact ⟨0, rs.length, Nat.zero_le _, rfl, rfl, Below.refl _ _⟩
  case round =>
    obtain ⟨k, z, hk, rfl, rfl, hbel⟩ := hrel
    by_cases hlt : k < rs.length
    · obtain ⟨b1, o1, u1, rfl, hx1, hy1, hr1⟩ := rr_at HA.out hlt
      have hb := rr_block HA.out (by omega)
      obtain ⟨A2, c2, rfl, _⟩ := hr1
      generalize rs[k] = r at *
      have b1 : (0 : Int) ≤ (k : Int) := by omega
      have b2 : (k : Int) < (rs.length : Int) := by omega
      have hx2 := fun j => (show (wr.drewN j).cell? ⟨_, o1 + k * 2, none⟩ = _ from (hbel.cell (p := ⟨_, o1 + k * 2, none⟩) hb).trans hx1)
      have hy2 := fun j => (show (wr.drewN j).cell? ⟨_, o1 + k * 2 + 1, none⟩ = _ from (hbel.cell (p := ⟨_, o1 + k * 2 + 1, none⟩) hb).trans hy1)
      obtain ⟨y1, w1⟩ : ∃ y, y = IntKind.i64.wrap ((r.1.size : Int) + (r.2.length : Int)) := ⟨_, rfl⟩
      obtain ⟨y2, w2⟩ : ∃ y, y = IntKind.i64.wrap (z + y1) := ⟨_, rfl⟩
      have w1' := w1.symm
      have w2' := w2.symm
      have HB := Lib.hid hbel
      have hx0 := hx2 0
      have hy0 := hy2 0
      clear hbel w1 w2 hx1 hy1
      go_wp2
      go_quiet (fail)
      clear w1' w2' hx2 hy2
      go_wp2
      go_roundw
      case rel => exact ⟨k + 1, _, by omega, by go_num, rfl, ⟨HB.out.os, HB.out.tape, HB.out.output, HB.out.size, HB.out.block⟩⟩
      case measure => simp [intOf]; omega
    · have HB := Lib.hid hbel
      clear hbel
      by_cases hz : 1500 < z
      · go_wp2_with fail
        refine (known_any _).mono ?_
        rintro e w2 ⟨rfl, hb2⟩
        have HB2 := Lib.hid (HB.out.trans (hb2.mono HB.out.size))
        clear hb2
        go_wp2
        go_ret
        exact ⟨rfl, HB2.out⟩
      · have hz' : z ≤ 1500 := by omega
        go_wp2_with fail
        refine (known_any _).mono ?_
        rintro e w2 ⟨rfl, hb2⟩
        have HB2 := Lib.hid (HB.out.trans (hb2.mono HB.out.size))
        have K3 := Lib.hid (builds_any _ rs w2 (rr_below HA.out HB2.out (Nat.le_refl _)))
        clear hb2
        go_wp2_with fail
        refine K3.out.mono ?_
        rintro e w3 ⟨rfl, hb3⟩
        have HB3 := Lib.hid (HB2.out.trans (hb3.mono HB2.out.size))
        have K4 := Lib.hid (risT_any _ l 30 (by decide) w3 (HC.out.below HB3.out) hl)
        generalize risL (rowsAt l (nrows l 30)) = ra at *
        clear hb3 K3
        go_wp2_with fail
        refine K4.out.mono ?_
        rintro e w4 ⟨v4, rfl, ho4, hb4⟩
        have HB4 := Lib.hid (HB3.out.trans (hb4.mono HB3.out.size))
        have K5 := Lib.hid (builds_any v4 ra w4 ho4.rr)
        obtain ⟨A4, c4, rfl⟩ := or_shape ho4
        clear hb4 ho4 K4
        go_wp2_with fail
        refine K5.out.mono ?_
        rintro e w5 ⟨rfl, hb5⟩
        have HB5 := Lib.hid (HB4.out.trans (hb5.mono HB4.out.size))
        have K6 := Lib.hid (rowList_any _ l 6 (by decide) w5 (HC.out.below HB5.out) hl)
        generalize rowsAt l (nrows l 6) = rb at *
        clear hb5 K5
        go_wp2_with fail
        refine K6.out.mono ?_
        rintro e w6 ⟨v6, rfl, ho6, hb6⟩
        have HB6 := Lib.hid (HB5.out.trans (hb6.mono HB5.out.size))
        have K7 := Lib.hid (builds_any v6 rb w6 ho6.rr)
        obtain ⟨A6, c6, rfl⟩ := or_shape ho6
        clear hb6 ho6 K6
        go_wp2_with fail
        refine K7.out.mono ?_
        rintro e w7 ⟨rfl, hb7⟩
        have HB7 := Lib.hid (HB6.out.trans (hb7.mono HB6.out.size))
        have K8 := Lib.hid (manyT_any n (size % 160) hn (by omega) w7)
        generalize manyL n (size % 160) = rc at *
        clear hb7 K7
        have hsz0 : (0 : Int) ≤ (size : Int) := by omega
        go_wp2_with fail
        refine K8.out.mono ?_
        rintro e w8 ⟨v8, rfl, ho8, hb8⟩
        have HB8 := Lib.hid (HB7.out.trans (hb8.mono HB7.out.size))
        have K9 := Lib.hid (builds_any v8 rc w8 ho8.rr)
        obtain ⟨A8, c8, rfl⟩ := or_shape ho8
        clear hb8 ho8 K8
        go_wp2_with fail
        refine K9.out.mono ?_
        rintro e w9 ⟨rfl, hb9⟩
        have HB9 := Lib.hid (HB8.out.trans (hb9.mono HB8.out.size))
        clear hb9 K9
        go_wp2
        go_ret
        exact ⟨rfl, HB9.out⟩
end Go.Proofs.Ytbacdeogggcbfaa
