/-
  The walk of LogApplies: it answers true of any choices and changes.
-/
import Derived.Test.YtomkbgghljcbfaaGKnown
import Derived.Test.YtomkbgghljcbfaaMuchC
import Derived.Test.YtomkbgghljcbfaaApply
import Derived.Test.YtomkbgghljcbfaaRefApp
import Derived.Test.YtomkbgghljcbfaaRefDiff
import Derived.Test.YtomkbgghljcbfaaParted
namespace Go.Proofs.Ytomkbgghljcbfaa
open Go.RowKit Go.Rst Go.Pg Go.Crc
theorem rc_nil (w : World) : RC w (.slice none 0 0) [] := ⟨none, 0, rfl, Nat.le_refl _, Nat.zero_le _, .inl rfl⟩

set_option maxRecDepth 100000 in
set_option maxHeartbeats 3000000 in
theorem applies_walk (vc : Value) (l1 : List UInt8) (vd : Value) (l2 : List UInt8) (vl : Value) (cs : List Chg) (w : World) (hc : RB w vc l1) (hl1 : l1.length ≤ 140737488351232) (hd : RB w vd l2) (hl2 : l2.length ≤ 140737488351232)
    (hl : RC w vl cs) (hcn : cs.length ≤ 2999999999000) (hcv : ∀ c ∈ cs, c.2.1.length ≤ 140737488355328) :
    Calls Try.prog 5 #[vc, vd, vl] w fun e w' => e = .returned (.bool true) ∧ Below w.heap.size w w' := by
  have HL := Lib.hid hl
  have HC := Lib.hid hc
  have HD := Lib.hid hd
  obtain ⟨hr1, hr2, hr3⟩ := ris_few l1 20
  obtain ⟨hq1, hq2, hq3⟩ := ris_few l2 20
  obtain ⟨hx1, hx2⟩ := chg_few l2 20
  have K1 := Lib.hid (fun W (h : RB W vc l1) => risT_any vc l1 20 (by decide) W h hl1)
  have K2 := Lib.hid (fun W (h : RB W vd l2) => risT_any vd l2 20 (by decide) W h hl2)
  have K3 := Lib.hid (fun W (h : RB W vd l2) => changeList_any vd l2 20 (by decide) W h hl2)
  obtain ⟨Al, cl_, rfl, hll, hlm, _⟩ := hl
  obtain ⟨Ac, cc, rfl, hlc, hcc, _⟩ := hc
  obtain ⟨Ad, cd, rfl, hld, hcd, _⟩ := hd
  unfold maxLen at hlm hcc hcd
  generalize risL (rowsAt l1 (nrows l1 20)) = rs at *
  generalize risL (rowsAt l2 (nrows l2 20)) = qs at *
  generalize (rowsAt l2 (nrows l2 20)).map chgOf = ms at *
  have HA := Lib.hid (fun (v u : Value) (ys : List Chg) (W : World) (hv : RR W v rs) (hu : RC W u ys) (hn : ys.length ≤ 2999999999000) (h2 : ∀ c ∈ ys, c.2.1.length ≤ 140737488355328) =>
    apply_any v u rs ys W hv hr2 hu (by omega) (fun r h => by have := hr1 r h; omega) h2)
  have HR := Lib.hid (fun (v u : Value) (ys : List Chg) (W : World) (hv : RR W v rs) (hu : RC W u ys) (hn : ys.length ≤ 2999999999000) => refApply_any v u rs ys W hv hu (by omega))
  have HDF := Lib.hid (fun (v u : Value) (b : List Rw) (W : World) (hv : RR W v rs) (hu : RR W u b) (hb : b.length ≤ 20) (h2 : ∀ r ∈ b, r.2.length ≤ 150) =>
    diff_any v u rs b W hv hu (by omega) (by omega) (fun r h => by have := h2 r h; omega))
  have HRD := Lib.hid (refDiff_any · · rs qs · · · hr2 hq2 (by omega))
  have HX2 := Lib.hid hx2
  have HX1 := Lib.hid (fun c hc => Nat.le_trans (hx1 c hc) (by decide : 150 ≤ 140737488355328))
  have HQ1 := Lib.hid hq1
  have HR1 := Lib.hid hr1
  have HCV := Lib.hid hcv
  clear hr1 hr2 hq1 hq2 hx1 hx2 hcv
  go_enter Try.func5, Try.ntmps5
  go_wp2_with fail
  refine (much_any _ cs w HL.out).mono ?_
  rintro e w1 ⟨rfl, m, rfl⟩
  cases hm : muchC cs with
  | true =>
    clear hm
    go_wp2_with fail
    refine (known_any _).mono ?_
    rintro e w2 ⟨rfl, hb2⟩
    have HB2 := Lib.hid ((bel_drewN w m).trans (hb2.mono (bel_drewN w m).size))
    clear hb2
    go_wp2
    go_ret
    exact ⟨rfl, HB2.out⟩
  | false =>
    clear hm
    go_wp2_with fail
    refine (known_any _).mono ?_
    rintro e w2 ⟨rfl, hb2⟩
    have HB2 := Lib.hid ((bel_drewN w m).trans (hb2.mono (bel_drewN w m).size))
    clear hb2
    go_wp2_with fail
    refine (K1.out _ (HC.out.below HB2.out)).mono ?_
    rintro e w3 ⟨v, rfl, ho, hb3⟩
    have HB3 := Lib.hid (HB2.out.trans (hb3.mono HB2.out.size))
    have HRS := Lib.hid ho.rr
    obtain ⟨A1, c1, rfl, _, _⟩ := rr_shape ho.rr
    clear ho K1
    clear hb3
    go_wp2_with fail
    refine (K2.out _ (HD.out.below HB3.out)).mono ?_
    rintro e w4 ⟨v, rfl, ho, hb4⟩
    have HB4 := Lib.hid (HB3.out.trans (hb4.mono HB3.out.size))
    have HRS4 := Lib.hid (rr_below HRS.out hb4 (Nat.le_refl _))
    have HQS := Lib.hid ho.rr
    obtain ⟨A2, c2, rfl, _, _⟩ := rr_shape ho.rr
    clear ho K2 HRS
    clear hb4
    go_wp2_with fail
    refine (K3.out _ (HD.out.below HB4.out)).mono ?_
    rintro e w5 ⟨v, rfl, ho, hb5⟩
    have HB5 := Lib.hid (HB4.out.trans (hb5.mono HB4.out.size))
    have HRS5 := Lib.hid (rr_below HRS4.out hb5 (Nat.le_refl _))
    have HQS5 := Lib.hid (rr_below HQS.out hb5 (Nat.le_refl _))
    have HMS := Lib.hid ho.rc
    obtain ⟨A3, c3, rfl, _, _, _⟩ := ho.rc
    clear ho K3 HRS4 HQS
    clear hb5
    go_wp2_with fail
    refine (HA.out _ _ cs w5 HRS5.out (rc_below HL.out HB5.out (Nat.le_refl _)) hcn HCV.out).mono ?_
    rintro e w6 ⟨v, rfl, ho, hb6⟩
    have E6 := Lib.hid hb6
    have HX6 := Lib.hid ho.rr
    obtain ⟨A6, c6, rfl, _, _⟩ := rr_shape ho.rr
    clear ho
    clear hb6
    go_wp2_with fail
    refine (HR.out _ _ cs w6 (rr_below HRS5.out E6.out (Nat.le_refl _)) (rc_below HL.out (HB5.out.trans (E6.out.mono HB5.out.size)) (Nat.le_refl _)) hcn).mono ?_
    rintro e w7 ⟨v, rfl, ho, hb7⟩
    have E7 := Lib.hid (E6.out.trans (hb7.mono E6.out.size))
    have HY7 := Lib.hid (ho.rr hb7)
    have HZ7 := Lib.hid (rr_below HX6.out hb7 (Nat.le_refl _))
    obtain ⟨A7, c7, rfl, _, _⟩ := ho.shape
    clear ho HX6
    clear hb7
    go_wp2_with fail
    refine (sameRows_any _ _ _ w7 HZ7.out HY7.out).mono ?_
    rintro e w8 ⟨rfl, m8, hm8⟩
    have hb8 := bel_drewN w7 m8
    rw [← hm8] at hb8
    clear hm8
    have E8 := Lib.hid (E7.out.trans (hb8.mono E7.out.size))
    clear HZ7 HY7
    clear hb8
    go_wp2_with fail
    refine (HA.out _ _ ms w8 (rr_below HRS5.out E8.out (Nat.le_refl _)) (rc_below HMS.out E8.out (Nat.le_refl _)) (by have := HX2.out; omega) HX1.out).mono ?_
    rintro e w9 ⟨v, rfl, ho, hb9⟩
    have E9 := Lib.hid (E8.out.trans (hb9.mono E8.out.size))
    have HX9 := Lib.hid ho.rr
    obtain ⟨A9, c9, rfl, _, _⟩ := rr_shape ho.rr
    clear ho
    clear hb9
    go_wp2_with fail
    refine (HR.out _ _ ms w9 (rr_below HRS5.out E9.out (Nat.le_refl _)) (rc_below HMS.out E9.out (Nat.le_refl _)) (by have := HX2.out; omega)).mono ?_
    rintro e w10 ⟨v, rfl, ho, hb10⟩
    have E10 := Lib.hid (E9.out.trans (hb10.mono E9.out.size))
    have HY10 := Lib.hid (ho.rr hb10)
    have HZ10 := Lib.hid (rr_below HX9.out hb10 (Nat.le_refl _))
    obtain ⟨A10, c10, rfl, _, _⟩ := ho.shape
    clear ho HX9
    clear hb10
    go_wp2_with fail
    refine (sameRows_any _ _ _ w10 HZ10.out HY10.out).mono ?_
    rintro e w11 ⟨rfl, m11, hm11⟩
    have hb11 := bel_drewN w10 m11
    rw [← hm11] at hb11
    clear hm11
    have E11 := Lib.hid (E10.out.trans (hb11.mono E10.out.size))
    clear HZ10 HY10
    clear hb11
    go_wp2_with fail
    refine (HDF.out _ _ qs w11 (rr_below HRS5.out E11.out (Nat.le_refl _)) (rr_below HQS5.out E11.out (Nat.le_refl _)) hq3 HQ1.out).mono ?_
    rintro e w12 ⟨v, rfl, ho, hb12⟩
    have E12 := Lib.hid (E11.out.trans (hb12.mono E11.out.size))
    have HX12 := Lib.hid ho.rc
    obtain ⟨A12, c12, rfl, _, _, _⟩ := ho.rc
    clear ho
    clear hb12
    go_wp2_with fail
    refine (HRD.out _ _ w12 (rr_below HRS5.out E12.out (Nat.le_refl _)) (rr_below HQS5.out E12.out (Nat.le_refl _))).mono ?_
    rintro e w13 ⟨v, rfl, ho, hb13⟩
    have E13 := Lib.hid (E12.out.trans (hb13.mono E12.out.size))
    have HY13 := Lib.hid ho
    have HZ13 := Lib.hid (rc_below HX12.out hb13 (Nat.le_refl _))
    obtain ⟨A13, c13, rfl, _, _, _⟩ := ho
    clear HX12
    clear hb13
    go_wp2_with fail
    refine (sameChgs_any _ _ _ w13 HZ13.out HY13.out).mono ?_
    rintro e w14 ⟨rfl, m14, hm14⟩
    have hb14 := bel_drewN w13 m14
    rw [← hm14] at hb14
    clear hm14
    have E14 := Lib.hid (E13.out.trans (hb14.mono E13.out.size))
    clear HZ13 HY13
    clear hb14
    go_wp2_with fail
    refine (HDF.out _ _ rs w14 (rr_below HRS5.out E14.out (Nat.le_refl _)) (rr_below HRS5.out E14.out (Nat.le_refl _)) hr3 HR1.out).mono ?_
    rintro e w15 ⟨v, rfl, ho, hb15⟩
    have E15 := Lib.hid (E14.out.trans (hb15.mono E14.out.size))
    have hx15 := ho.rc
    rw [diff_self] at hx15
    have HX15 := Lib.hid hx15
    obtain ⟨A15, c15, hv15, _, _, _⟩ := hx15
    rw [List.length_nil] at hv15
    subst hv15
    clear ho
    clear hb15
    go_wp2_with fail
    refine (sameChgs_any _ _ [] w15 HX15.out (rc_nil _)).mono ?_
    rintro e w16 ⟨rfl, m16, hm16⟩
    have hb16 := bel_drewN w15 m16
    rw [← hm16] at hb16
    clear hm16
    have E16 := Lib.hid (E15.out.trans (hb16.mono E15.out.size))
    clear HX15
    clear hb16
    have HE := Lib.hid (HB5.out.trans (E16.out.mono HB5.out.size))
    go_wp2
    go_ret
    exact ⟨rfl, HE.out⟩
end Go.Proofs.Ytomkbgghljcbfaa
