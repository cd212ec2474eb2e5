/-
  The contract of the statement's own parts: Parts of changes are what the chapter says. And the walk of LogParts.
-/
import Derived.Test.YtomkbgghljcbfaaGKnown
import Derived.Test.YtomkbgghljcbfaaParts
import Derived.Test.YtomkbgghljcbfaaGRefP
import Derived.Test.YtomkbgghljcbfaaRefSame
import Derived.Test.YtomkbgghljcbfaaMuchC
import Derived.Test.YtomkbgghljcbfaaChgM
import Derived.Test.YtomkbgghljcbfaaGCl
namespace Go.Proofs.Ytomkbgghljcbfaa
open Go.RowKit Go.Rst Go.Pg Go.Crc
set_option maxRecDepth 100000 in
set_option maxHeartbeats 1600000 in
theorem partsEq_any (epoch num : Int) (v : Value) (cs : List Chg) (w : World) (hv : RC w v cs) (hbig : (chgsB cs).length ≤ 100000000) (hn : cs.length ≤ 100000000) (hvb : ∀ r ∈ cs, r.2.1.length ≤ 1000000000) :
    Calls Try.prog 12 #[.int .i64 epoch, .int .i64 num, v] w fun e w' => e = .returned (.bool true) ∧ Below w.heap.size w w' := by
  have K1 := Lib.hid (parts_any epoch num v cs w hv hbig hn hvb)
  have K2 := Lib.hid (fun W (h : RC W v cs) => refParts_any epoch num v cs W h hbig hn)
  have HC := Lib.hid hv
  obtain ⟨Av, cv, rfl, hcv1, hcv2, _⟩ := hv
  unfold maxLen at hcv2
  generalize partsL epoch num cs = R at *
  obtain ⟨S, ok⟩ := R
  clear hbig hn hvb
  go_enter Try.func12, Try.ntmps12
  go_wp2_with fail
  refine K1.out.mono ?_
  rintro e w1 ⟨v1, rfl, ho1, hb1⟩
  have ho1 : OP 5 23 w1 w.heap.size v1 S := ho1
  have HO1 := Lib.hid ho1
  have HB1 := Lib.hid hb1
  have H2 := Lib.hid (K2.out w1 (rc_below HC.out hb1 (Nat.le_refl _)))
  obtain ⟨A1, c1, rfl, hc1, hl1⟩ := ho1.shape
  clear ho1 hb1 K1 K2 HC
  go_wp2_with fail
  refine H2.out.mono ?_
  rintro e w2 ⟨v2, rfl, ho2, hb2⟩
  have ho2 : OP 5 23 w2 w1.heap.size v2 S := ho2
  have HO2 := Lib.hid ho2
  have HO1' := Lib.hid (HO1.out.below hb2)
  have HB2 := Lib.hid (HB1.out.trans (hb2.mono HB1.out.size))
  obtain ⟨A2, c2, rfl, hc2, hl2⟩ := ho2.shape
  clear ho2 hb2 H2 HO1
  go_wp2_with fail
  refine (refSame_any _ _ S w2 HO1'.out.rp HO2.out.rp).mono ?_
  rintro e w3 ⟨rfl, hb3⟩
  have HB3 := Lib.hid (HB2.out.trans (hb3.mono HB2.out.size))
  clear hb3
  go_wp2
  go_ret
  exact ⟨rfl, HB3.out⟩
/-- Few changes: their bytes are few. -/
theorem few_chgs {cs : List Chg} (h : sizesC cs ≤ 20000) (hn : cs.length ≤ 4000) : (chgsB cs).length ≤ 100000000 ∧ cs.length ≤ 100000000 ∧ ∀ r ∈ cs, r.2.1.length ≤ 1000000000 := by
  obtain ⟨h1, h2⟩ := chgsB_few cs (by omega)
  exact ⟨by omega, by omega, h2⟩

set_option maxRecDepth 100000 in
set_option maxHeartbeats 1600000 in
theorem partsW_walk (epoch num : Int) (vl : Value) (cs : List Chg) (vc : Value) (c : List UInt8) (k : Nat) (w : World) (hl : RC w vl cs) (ht : totC cs ≤ 4000000) (hc : RB w vc c) (hcl : c.length ≤ 140737488351232) (hk : k ≤ 255) :
    Calls Try.prog 3 #[.int .i64 epoch, .int .i64 num, vl, vc, .int .u8 k] w fun e w' => e = .returned (.bool true) ∧ Below w.heap.size w w' := by
  have HL := Lib.hid hl
  have HC := Lib.hid hc
  have HM := Lib.hid (muchC_few ht)
  obtain ⟨Al, cl_, rfl, hl1, hl2, _⟩ := hl
  obtain ⟨Ac, cc, rfl, hc1, hc2, _⟩ := hc
  unfold maxLen at hl2 hc2
  have hx := madeC_sizes c (nrows c 20)
  have hxl : ((rowsAt c (nrows c 20)).map chgOf).length ≤ 20 := by rw [List.length_map, rowsAt_length]; exact nrows_le c 20
  have hnr := nrows_le c 20
  have K5 := Lib.hid (fun W (h : RB W (.slice Ac c.length cc) c) => changeList_any _ c 20 (by decide) W h hcl)
  generalize (rowsAt c (nrows c 20)).map chgOf = xs at *
  obtain ⟨f1, f2, f3⟩ := few_chgs (cs := xs) (by omega) (by omega)
  have K6 := Lib.hid (fun W v (h : RC W v xs) => partsEq_any 2 k v xs W h f1 f2 f3)
  clear hx hxl f1 f2 f3
  go_enter Try.func3, Try.ntmps3
  go_wp2_with fail
  refine (much_any _ cs w HL.out).mono ?_
  rintro e w1 ⟨rfl, m, rfl⟩
  by_cases hm : muchC cs = true
  · rw [hm]
    clear hm
    go_wp2_with fail
    refine (known_any _).mono ?_
    rintro e w2 ⟨rfl, hb2⟩
    have HB2 := Lib.hid ((bel_drewN w m).trans (hb2.mono (bel_drewN w m).size))
    clear hb2
    go_wp2
    go_ret
    exact ⟨rfl, HB2.out⟩
  · have hm' : muchC cs = false := by simpa using hm
    have hfew := HM.out hm'
    rw [hm']
    clear hm hm'
    obtain ⟨g1, g2, g3⟩ := few_chgs (cs := cs) (by unfold totC at hfew; omega) (by unfold totC at hfew; omega)
    have K3 := Lib.hid (fun W (h : RC W (.slice Al cs.length cl_) cs) => partsEq_any epoch num _ cs W h g1 g2 g3)
    have K4 := Lib.hid (fun W (h : RC W (.slice Al cs.length cl_) cs) => partsEq_any k 3 _ cs W h g1 g2 g3)
    clear g1 g2 g3 hfew
    go_wp2_with fail
    refine (known_any _).mono ?_
    rintro e w2 ⟨rfl, hb2⟩
    have HB2 := Lib.hid ((bel_drewN w m).trans (hb2.mono (bel_drewN w m).size))
    clear hb2
    go_wp2_with fail
    refine (K3.out _ (rc_below HL.out HB2.out (Nat.le_refl _))).mono ?_
    rintro e w3 ⟨rfl, hb3⟩
    have HB3 := Lib.hid (HB2.out.trans (hb3.mono HB2.out.size))
    clear hb3
    go_wp2_with fail
    refine (K4.out _ (rc_below HL.out HB3.out (Nat.le_refl _))).mono ?_
    rintro e w4 ⟨rfl, hb4⟩
    have HB4 := Lib.hid (HB3.out.trans (hb4.mono HB3.out.size))
    clear hb4
    go_wp2_with fail
    refine (K5.out _ (HC.out.below HB4.out)).mono ?_
    rintro e w5 ⟨v5, rfl, ho5, hb5⟩
    have HB5 := Lib.hid (HB4.out.trans (hb5.mono HB4.out.size))
    have H6 := Lib.hid (K6.out w5 v5 ho5.rc)
    obtain ⟨A5, c5, rfl, hl5, hm5, _⟩ := ho5.rc
    clear hb5 ho5 K5 K6
    go_wp2_with fail
    refine H6.out.mono ?_
    rintro e w6 ⟨rfl, hb6⟩
    have HB6 := Lib.hid (HB5.out.trans (hb6.mono HB5.out.size))
    clear hb6
    go_wp2
    go_ret
    exact ⟨rfl, HB6.out⟩
end Go.Proofs.Ytomkbgghljcbfaa
