/-
  CrcSplit returns true, and changes nothing that was there, for every two slices of bytes.
-/
import Derived.Test.YtloklbjaabbgcaaKnown
namespace Go.Proofs.Ytloklbjaabbgcaa
open Go.RowKit Go.Rst Go.Crc

set_option maxRecDepth 100000 in
set_option maxHeartbeats 1000000 in
theorem split_walk (v : Value) (l : List UInt8) (u : Value) (m : List UInt8) (w : World) (hv : RB w v l) (hl : l.length ≤ 140737488351232) (hu : RB w u m) (hm : m.length ≤ 140737488351232) :
    Calls Try.prog 6 #[v, u] w fun e w' => e = .returned (.bool true) ∧ Below w.heap.size w w' := by
  have HV := Lib.hid hv
  have HU := Lib.hid hu
  obtain ⟨A, c, rfl, _, h2, _⟩ := hv
  obtain ⟨A', c', rfl, _, h2', _⟩ := hu
  simp only [maxLen] at h2 h2'
  by_cases hbig : 800 < l.length + m.length
  · go_enter Try.func6, Try.ntmps6
    have hb : (800 : Int) < (l.length : Int) + (m.length : Int) := by omega
    go_wp2_with fail
    refine (known_any _).mono ?_
    rintro e w1 ⟨rfl, hb⟩
    have HB := Lib.hid hb
    clear hb
    go_wp2
    go_ret
    exact ⟨rfl, HB.out⟩
  · have hb : ¬ (800 : Int) < (l.length : Int) + (m.length : Int) := by omega
    have hs := csum_lt l
    have E := Lib.hid (csum_append l m)
    have EN := Lib.hid (cmore_nil (csum l))
    go_enter Try.func6, Try.ntmps6
    go_wp2_with (at_builtin; refine wpList_own rfl (.tmp 13) (.tmp 14) 22 22 rfl w.heap.size 5 (.int .u8 0) 1 1 Try.underlying22 info5 rfl rfl (World.ownsRow_nil _ _ _ _) rfl (HV.out.src Try.underlying22) (Below.refl _ _) (Nat.le_refl _) ?_ ?_ ?_ ?_)
    · unfold maxLen; omega
    · omega
    · intro v1 w1 hown hbel _
      have HO := Lib.hid hown
      have HB := Lib.hid hbel
      clear hown hbel
      go_wp2_with (at_builtin; refine wpList_own rfl (.tmp 16) (.tmp 17) 22 22 rfl w.heap.size 5 (.int .u8 0) 1 1 Try.underlying22 info5 rfl rfl HO.out rfl ((HU.out.below HB.out).src Try.underlying22) HB.out (Nat.le_refl _) ?_ ?_ ?_ ?_)
      · unfold maxLen; omega
      · omega
      · exact HB.out.size
      · intro v2 w2 hown2 hbel2 _
        have hown3 : w2.ownsRow w.heap.size 5 1 v2 (l ++ m).length (bvs (l ++ m)) := own_cat (by simpa using hown2)
        have HO2 := Lib.hid hown3
        have HB2 := Lib.hid hbel2
        obtain ⟨A2, c2, rfl, _⟩ := own_shape hown2
        clear hown2 hbel2 hown3 HO HB
        go_wp2_with fail
        refine (known_any _).mono ?_
        rintro e w3 ⟨rfl, hb3⟩
        have HR3 := Lib.hid ((RB.own HO2.out).below hb3)
        have HB3 := Lib.hid (HB2.out.trans (hb3.mono HB2.out.size))
        clear hb3 HB2 HO2
        go_wp2_with fail
        refine (sum_any _ _ _ HR3.out).mono ?_
        rintro e w4 ⟨rfl, hb4⟩
        rw [E.out]
        have HB4 := Lib.hid (HB3.out.trans (hb4.mono HB3.out.size))
        clear hb4 HR3 HB3
        go_wp2_with fail
        refine (sum_any _ _ _ (HV.out.below HB4.out)).mono ?_
        rintro e w5 ⟨rfl, hb5⟩
        have HB5 := Lib.hid (HB4.out.trans (hb5.mono HB4.out.size))
        clear hb5 HB4
        go_wp2_with fail
        refine (more_any _ hs _ _ _ (HU.out.below HB5.out)).mono ?_
        rintro e w6 ⟨rfl, hb6⟩
        have HB6 := Lib.hid (HB5.out.trans (hb6.mono HB5.out.size))
        clear hb6 HB5
        go_wp2_with fail
        refine (sum_any _ _ _ (HV.out.below HB6.out)).mono ?_
        rintro e w7 ⟨rfl, hb7⟩
        have HB7 := Lib.hid (HB6.out.trans (hb7.mono HB6.out.size))
        clear hb7 HB6
        go_wp2_with fail
        refine (more_any _ hs _ _ _ (RB.nil_ _)).mono ?_
        rintro e w8 ⟨rfl, hb8⟩
        rw [EN.out]
        have HB8 := Lib.hid (HB7.out.trans (hb8.mono HB7.out.size))
        clear hb8 HB7
        go_wp2_with fail
        refine (sum_any _ _ _ (HV.out.below HB8.out)).mono ?_
        rintro e w9 ⟨rfl, hb9⟩
        have HB9 := Lib.hid (HB8.out.trans (hb9.mono HB8.out.size))
        clear hb9 HB8
        go_wp2
        go_ret
        exact ⟨rfl, HB9.out⟩
end Go.Proofs.Ytloklbjaabbgcaa
