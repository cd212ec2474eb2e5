/-
  The walk of LogBack: it answers true of any choices.
-/
import Derived.Test.YtomkbgghljcbfaaGKnown
import Derived.Test.YtomkbgghljcbfaaGRis
import Derived.Test.YtomkbgghljcbfaaParted
import Derived.Test.YtomkbgghljcbfaaSame2
import Derived.Test.YtomkbgghljcbfaaOcSrc
namespace Go.Proofs.Ytomkbgghljcbfaa
open Go.RowKit Go.Rst Go.Pg Go.Crc
theorem diffL_val {B : Nat} : ∀ (a b : List Rw), (∀ r ∈ b, r.2.length ≤ B) → ∀ c ∈ diffL a b, c.2.1.length ≤ B
  | [], b, h, c, hc => by
    rw [diffL, List.mem_map] at hc
    obtain ⟨r, hr, rfl⟩ := hc
    exact h r hr
  | x :: a, [], h, c, hc => by
    rw [diff_nil, List.mem_map] at hc
    obtain ⟨r, hr, rfl⟩ := hc
    exact Nat.zero_le _
  | x :: a, y :: b, h, c, hc => by
    rw [diffL] at hc
    have h1 := diffL_val a b (fun r hr => h r (List.mem_cons_of_mem _ hr)) c
    have h2 := diffL_val a (y :: b) h c
    have h3 := diffL_val (x :: a) b (fun r hr => h r (List.mem_cons_of_mem _ hr)) c
    have hy : (putL y).2.1.length ≤ B := h y (List.mem_cons_self ..)
    split at hc
    · split at hc
      · exact h1 hc
      · rcases List.mem_cons.1 hc with rfl | hc
        · exact hy
        · exact h1 hc
    · split at hc
      · rcases List.mem_cons.1 hc with rfl | hc
        · exact Nat.zero_le _
        · exact h2 hc
      · rcases List.mem_cons.1 hc with rfl | hc
        · exact hy
        · exact h3 hc
termination_by a b => a.length + b.length

set_option maxRecDepth 100000 in
set_option maxHeartbeats 3000000 in
theorem back_walk (vc : Value) (l1 : List UInt8) (vd : Value) (l2 : List UInt8) (w : World) (hc : RB w vc l1) (hl1 : l1.length ≤ 140737488351232) (hd : RB w vd l2) (hl2 : l2.length ≤ 140737488351232) :
    Calls Try.prog 6 #[vc, vd] w fun e w' => e = .returned (.bool true) ∧ Below w.heap.size w w' := by
  have HD := Lib.hid hd
  obtain ⟨hr1, hr2, hr3⟩ := ris_few l1 20
  obtain ⟨hq1, hq2, hq3⟩ := ris_few l2 20
  have K1 := Lib.hid (risT_any vc l1 20 (by decide) w hc hl1)
  have K2 := Lib.hid (fun W (h : RB W vd l2) => risT_any vd l2 20 (by decide) W h hl2)
  obtain ⟨Ac, cc, rfl, hlc, hcc, _⟩ := hc
  obtain ⟨Ad, cd, rfl, hld, hcd, _⟩ := hd
  unfold maxLen at hcc hcd
  generalize risL (rowsAt l1 (nrows l1 20)) = rs at *
  generalize risL (rowsAt l2 (nrows l2 20)) = qs at *
  have hxl := diff_len rs qs
  have hxv := diffL_val rs qs hq1
  have happ := apply_diff hr2 hq2
  have hless := fun (i : Nat) (hi : i < (diffL rs qs).length) => apply_less hr2 hq2 hi
  have K3 := Lib.hid (fun v u W (h1 : RR W v rs) (h2 : RR W u qs) => diff_any v u rs qs W h1 h2 (by omega) (by omega) (fun r hr => by have := hq1 r hr; omega))
  generalize diffL rs qs = xs at *
  have HAP := Lib.hid (fun (v u : Value) (ys : List Chg) (W : World) (hv : RR W v rs) (hu : RC W u ys) (hl : ys.length ≤ 50) (h2 : ∀ c ∈ ys, c.2.1.length ≤ 150) =>
    apply_any v u rs ys W hv hr2 hu (by omega) (fun r h => by have := hr1 r h; omega) (fun c h => by have := h2 c h; omega))
  have HXV := Lib.hid hxv
  have HLESS := Lib.hid hless
  have HAPP := Lib.hid happ
  have hxl' : xs.length ≤ 40 := by omega
  clear hr1 hq1 hxv hless happ hr2 hq2 hxl hr3 hq3
  go_enter Try.func6, Try.ntmps6
  go_wp2_with fail
  refine K1.out.mono ?_
  rintro e w1 ⟨v1, rfl, ho1, hb1⟩
  have HO1 := Lib.hid ho1
  have HB1 := Lib.hid hb1
  have H2 := Lib.hid (K2.out w1 (HD.out.below hb1))
  obtain ⟨A1, c1, rfl, hlc1, hc163⟩ := rr_shape ho1.rr
  clear ho1 hb1 K1 K2 HD
  go_wp2_with fail
  refine H2.out.mono ?_
  rintro e w2 ⟨v2, rfl, ho2, hb2⟩
  have HB2 := Lib.hid (HB1.out.trans (hb2.mono HB1.out.size))
  have HO2 := Lib.hid ho2
  have HO1' := Lib.hid (HO1.out.below hb2)
  obtain ⟨A2, c2, rfl, hlc2, hc263⟩ := rr_shape ho2.rr
  have H3 := Lib.hid (K3.out _ _ w2 HO1'.out.rr ho2.rr)
  clear ho2 hb2 H2 HO1 K3
  go_wp2_with fail
  refine H3.out.mono ?_
  rintro e w3 ⟨v3, rfl, ho3, hb3⟩
  have HB3 := Lib.hid (HB2.out.trans (hb3.mono HB2.out.size))
  have HRS := Lib.hid (HO1'.out.below hb3).rr
  have HQS := Lib.hid (HO2.out.below hb3).rr
  have HXS := Lib.hid ho3.rc
  have hsz : w2.heap.size ≤ w3.heap.size := hb3.size
  obtain ⟨A3, c3, rfl, hlc3, hm3, _⟩ := ho3.rc
  unfold maxLen at hm3
  obtain ⟨us, hus, hown, hfb⟩ := ho3
  have hul : us.length = xs.length := by rw [← hus, List.length_map]
  have HUS := Lib.hid hus
  have HOW := Lib.hid hown
  have HFB := Lib.hid hfb
  have HUL := Lib.hid hul
  clear hb3 H3 HO1' HO2 hus hown hfb hul
  go_wp2
  go_loopw [8, 9] (fun i l wr => ∃ k : Nat, k ≤ xs.length ∧ i = .int .i64 k ∧ Below w3.heap.size w3 wr) (fun i _ _ => xs.length - (intOf i).toNat)
  case atStart => exact ⟨0, Nat.zero_le _, rfl, Below.refl _ _⟩
  case round =>
    obtain ⟨k, hk, rfl, hbr⟩ := hrel
    have HBR := Lib.hid hbr
    clear hbr
    by_cases hlt : k < xs.length
    · have hk0 : (0 : Int) ≤ (k : Int) := by omega
      have hk1 : (k : Int) < (xs.length : Int) := by omega
      have hk2 : (k : Int) < (c3 : Int) := by omega
      go_wp2_with (at_builtin; refine wpList_own rfl (.tmp 23) (.tmp 26) 22 22 rfl wr.heap.size 51 (.agg #[.string ⟨#[]⟩, .slice none 0 0, .bool false]) 3 48 Try.underlying22 info51 rfl rfl (World.ownsRow_nil _ _ _ _) rfl (oc_take (own_below HOW.out HBR.out) (fun x hx => (HFB.out x hx).below HBR.out) (by rw [HUL.out]; exact hk)) (Below.refl wr.heap.size _) (Nat.le_refl _) ?_ ?_ ?_ ?_)
      · unfold maxLen; omega
      · omega
      · exact Nat.le_refl _
      intro v4 w4 ho4 hb4 _
      have hul4 : (us.take k).length = k := by rw [List.length_take, HUL.out]; omega
      have HO4 := Lib.hid ho4
      have HB4 := Lib.hid hb4
      have HL4 := Lib.hid hul4
      clear ho4 hb4 hul4
      have hk3 : (k : Int) + 1 ≤ (xs.length : Int) := by omega
      have hk4 : (k : Int) + 1 ≤ (c3 : Int) := by omega
      have ho4' : w4.ownsRow wr.heap.size 51 3 v4 k (chCells (us.take k)) := HO4.out
      obtain ⟨A9, hA9⟩ : ∃ A9, (if c3 = k + 1 then A3 else Option.map (fun x => x.add ((k + 1) * 3)) A3) = A9 := ⟨_, rfl⟩
      have HSRC := Lib.hid (oc_drop (K := k + 1) (own_below (own_below HOW.out HBR.out) HB4.out) (fun x hx => ((HFB.out x hx).below HBR.out).below HB4.out) (by rw [HUL.out]; omega) HUL.out.symm)
      rw [hA9, HUL.out] at HSRC
      go_wp2_with (at_builtin; refine wpList_own rfl (.tmp 28) (.tmp 32) 22 22 rfl wr.heap.size 51 (.agg #[.string ⟨#[]⟩, .slice none 0 0, .bool false]) 3 48 Try.underlying22 info51 rfl rfl ho4' rfl HSRC.out HB4.out (Nat.le_refl _) ?_ ?_ ?_ ?_)
      · unfold maxLen; omega
      · omega
      · exact HB4.out.size
      intro v5 w5 ho5 hb5 _
      have hlen5 : (us.take k ++ us.drop (k + 1)).length = k + (xs.length - (k + 1)) := by rw [List.length_append, List.length_take, List.length_drop, HUL.out]; omega
      have HB5 := Lib.hid (HBR.out.trans (hb5.mono HBR.out.size))
      have hl5 := oc_joined (i := k) (k := k + 1) HFB.out HB5.out (Nat.le_trans hsz HBR.out.size) (by rw [hlen5]; exact ho5)
      rw [HUS.out] at hl5
      have HL5 := Lib.hid hl5
      have hly : (xs.take k ++ xs.drop (k + 1)).length ≤ 50 := by rw [List.length_append, List.length_take, List.length_drop]; omega
      have H6 := Lib.hid (HAP.out _ v5 _ w5 (rr_below HRS.out HB5.out (Nat.le_refl _)) HL5.out hly (fun c hc => by
        rcases List.mem_append.1 hc with hc | hc
        · exact HXV.out c (List.mem_of_mem_take hc)
        · exact HXV.out c (List.mem_of_mem_drop hc)))
      have hne := HLESS.out k hlt
      generalize applyL rs (xs.take k ++ xs.drop (k + 1)) = ys at *
      have HNE := Lib.hid hne
      clear hly hl5 hlen5 ho5 hb5 ho4' HSRC hA9 HO4 HB4 hne hk2 hk3 hk4
      go_wp2_with fail
      refine H6.out.mono ?_
      rintro e w6 ⟨v6, rfl, ho6, hb6⟩
      have HB6 := Lib.hid (HB5.out.trans (hb6.mono HB5.out.size))
      have HO6 := Lib.hid ho6.rr
      obtain ⟨A6, c6, rfl, hlc6, hc663⟩ := rr_shape ho6.rr
      clear ho6 hb6 H6 HB5 HL5
      go_wp2_with fail
      refine (sameRows_two _ _ ys qs w6 HO6.out (rr_below HQS.out HB6.out (Nat.le_refl _))).mono ?_
      rintro e w7 ⟨⟨b, rfl, hb⟩, hb7⟩
      have HB7 := Lib.hid (HB6.out.trans (hb7.mono HB6.out.size))
      have hbf : b = false := by
        cases b
        · rfl
        · exact (HNE.out (hb.1 rfl)).elim
      subst hbf
      clear hb hb7
      go_wp2
      go_roundw
      case rel => exact ⟨k + 1, by omega, by go_num, HB7.out⟩
      case measure => simp [intOf]; omega
    · have HB4 := Lib.hid (HB3.out.trans (HBR.out.mono HB3.out.size))
      have H6 := Lib.hid (fun W (hw : Below w3.heap.size w3 W) => HAP.out _ _ xs W (rr_below HRS.out hw (Nat.le_refl _)) (rc_below HXS.out hw (Nat.le_refl _)) (by omega) HXV.out)
      rw [HAPP.out] at H6
      go_wp2_with fail
      refine (known_any _).mono ?_
      rintro e w5 ⟨rfl, hb5⟩
      have HB5 := Lib.hid (HBR.out.trans (hb5.mono HBR.out.size))
      clear hb5
      go_wp2_with fail
      refine (H6.out _ HB5.out).mono ?_
      rintro e w6 ⟨v6, rfl, ho6, hb6⟩
      have HB6 := Lib.hid (HB5.out.trans (hb6.mono HB5.out.size))
      have HO6 := Lib.hid ho6.rr
      obtain ⟨A6, c6, rfl, hlc6, hc663⟩ := rr_shape ho6.rr
      clear ho6 hb6 H6
      go_wp2_with fail
      refine (sameRows_two _ _ qs qs w6 HO6.out (rr_below HQS.out HB6.out (Nat.le_refl _))).mono ?_
      rintro e w7 ⟨⟨b, rfl, hb⟩, hb7⟩
      have hbt : b = true := hb.2 rfl
      subst hbt
      have HB7 := Lib.hid (HB3.out.trans ((HB6.out.trans (hb7.mono HB6.out.size)).mono HB3.out.size))
      clear hb hb7
      go_wp2
      go_ret
      exact ⟨rfl, HB7.out⟩
end Go.Proofs.Ytomkbgghljcbfaa
