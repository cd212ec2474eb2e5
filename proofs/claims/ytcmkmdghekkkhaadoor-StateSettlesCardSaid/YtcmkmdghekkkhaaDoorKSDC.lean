/-
  The walk of StateSettles.
-/
import Derived.Test.YtcmkmdghekkkhaaDoorKSJ
import Derived.Test.YtcmkmdghekkkhaaDoorKSBF
import Derived.Test.YtcmkmdghekkkhaaDoorKSBJ
import Derived.Test.YtcmkmdghekkkhaaDoorKSCA
import Derived.Test.YtcmkmdghekkkhaaDoorKSDA
import Derived.Test.YtcmkmdghekkkhaaDoorKSDB
set_option linter.unusedVariables false
set_option linter.unusedVariables false
set_option linter.unusedSimpArgs false
namespace Go.Proofs.YtcmkmdghekkkhaaDoor
open Go.RowKit Go.Rst Go.Tp Go.Ts Go.Tk
set_option maxRecDepth 100000 in
set_option maxHeartbeats 8000000 in
theorem settles_walk (cv : Value) (l : List UInt8) (k : Nat) (w : World) (hcv : RB w cv l) (hlm : l.length ≤ 140737488351232) (hk : k ≤ 255) (hp : Pow w) :
    Calls Tryd.prog 5 #[cv, .int .u8 k] w fun e w' => e = .returned (.bool true) ∧ Below w.heap.size w w' := by
  have HS := Lib.hid (sub_any 1 5 (1 + (k : Int)) (by omega) (by omega) (by omega) (by omega) hcv)
  have HP := Lib.hid (fun W (h : Below w.heap.size w W) => known_any W (hp.below h))
  clear hcv hp hlm
  go_enter Tryd.func5, Tryd.ntmps5
  go_wp2_with fail
  refine HS.out.mono ?_
  rintro e w1 ⟨x, av, qv, rfl, ha, hq, hb1, hid, hgood, hal, hql, hms, hnl, htl, hwl⟩
  have hg1 := hgood (by omega) (by omega)
  have hti : ∀ m ∈ x.queue, m.til ≤ 9223372036854775807 := fun m hm => by have := (hms m hm).1; omega
  obtain ⟨C, hC⟩ : ∃ C, C = subC x av qv := ⟨_, rfl⟩
  have HC := Lib.hid (show Cub C by rw [hC]; exact Cub.mk_ x (rl_one ha) (rl_one hq))
  have HB2 := Lib.hid (box_below w1 C)
  have HW2 := Lib.hid (box_wh w1 C)
  have HSE := Lib.hid (fun W (h : Below w1.heap.size w1 W) => by rw [hC]; exact settleP_any x av qv (1 + (k : Int)) W (ha.below stays_ci h) (hq.below stays_cm h) (Sized.few (by omega) (by omega)) : ∀ W (h : Below w1.heap.size w1 W), Calls Tryd.prog 20 #[.agg C.toArray, .int .i64 (1 + (k : Int))] W (GivesSub W (settleS x (1 + (k : Int)))))
  have HGO := Lib.hid (fun W (h : Below w1.heap.size w1 W) => by have := goodP_any x av qv 5 (1 + (k : Int)) W (ha.below stays_ci h) (hq.below stays_cm h) hti (by omega) (by omega); rw [hg1, ← hC] at this; exact this : ∀ W (h : Below w1.heap.size w1 W), Calls Tryd.prog 19 #[.agg C.toArray, .int .i64 5, .int .i64 (1 + (k : Int))] W fun e w' => e = .returned (.bool true) ∧ Below W.heap.size W w')
  have HB1 := Lib.hid hb1
  have HF := Lib.hid (settle_floor x (1 + (k : Int)))
  have HGY := Lib.hid (settle_good hg1 (by omega))
  have HTW := Lib.hid (settle_twice x (1 + (k : Int)))
  have HTI := Lib.hid hti
  have HAL := Lib.hid (And.intro hal hql)
  have HA := Lib.hid ha
  have HQ := Lib.hid hq
  have HX6 := Lib.hid (fun W (h : Below (w1.heap.size + 1) (boxW w1 C) W) => by have := (h.cell (p := ⟨w1.heap.size, 6, none⟩) (Nat.lt_succ_self _)).trans ((box_wh w1 C).bx.cell (i := 6) (by rw [HC.out.len]; omega)); subst hC; exact this : ∀ W (h : Below (w1.heap.size + 1) (boxW w1 C) W), W.cell? ⟨w1.heap.size, 6, none⟩ = some (.int .i64 x.floor))
  have HX8 := Lib.hid (fun W (h : Below (w1.heap.size + 1) (boxW w1 C) W) => by have := (h.cell (p := ⟨w1.heap.size, 8, none⟩) (Nat.lt_succ_self _)).trans ((box_wh w1 C).bx.cell (i := 8) (by rw [HC.out.len]; omega)); subst hC; exact this : ∀ W (h : Below (w1.heap.size + 1) (boxW w1 C) W), W.cell? ⟨w1.heap.size, 8, none⟩ = some qv)
  rw [← hC]
  clear hg1 hgood hti hC ha hq hb1 hms hal hql hnl htl hwl
  go_wp2_with (first | (refine wpList_load_midG (by rfl) 35 (.tmp 6) rfl w1.heap.size 0 rfl _ _ HW2.out.range Tryd.underlying35 rfl HC.out.infoL ?_) | (refine wpList_store_row rfl 35 (.tmp 6) (.tmp 14) rfl w1.heap.size C.toArray rfl rfl 35 #[.int .i64 0, .string ⟨#[]⟩, .string ⟨#[]⟩, .string ⟨#[]⟩, .int .i64 0, .int .i64 0, .int .i64 0, .slice none 0 0, .slice none 0 0, .string ⟨#[]⟩] (box_old w1) HC.out.info HC.out.old HC.out.all ?_; rw [box_def]))
  refine (HSE.out _ HB2.out).mono ?_
  rintro e w3 ⟨av3, qv3, rfl, ha3, hq3, hb3⟩
  obtain ⟨y, hy⟩ : ∃ y, y = settleS x (1 + (k : Int)) := ⟨_, rfl⟩
  have hyq : y.queue = x.queue := by rw [hy]; rfl
  have hya : y.acks.length ≤ 20 := by rw [hy]; exact Nat.le_trans (List.length_filter_le _ _) HAL.out.1
  have hgy := HGY.out
  have htw := HTW.out
  have hfy := HF.out
  rw [← hy] at ha3 hq3 hgy htw hfy ⊢
  clear hy HGY HTW HF
  have hty : ∀ m ∈ y.queue, m.til ≤ 9223372036854775807 := by rw [hyq]; exact HTI.out
  have hyl : y.queue.length ≤ 30 := by rw [hyq]; exact HAL.out.2
  have hs2 := box_size w1 C
  obtain ⟨D, hD⟩ : ∃ D, D = subC y av3 qv3 := ⟨_, rfl⟩
  have HD := Lib.hid (show Cub D by rw [hD]; exact Cub.mk_ y (rl_one ha3) (rl_one hq3))
  have hb3' : Below (w1.heap.size + 1) (boxW w1 C) w3 := by rw [← hs2]; exact hb3
  have hb4 : Below (w1.heap.size + 1) (boxW w1 C) (boxW w3 D) := hb3'.trans ((box_below w3 D).mono (by have := hb3.size; omega))
  have HB4 := Lib.hid hb4
  have HL4 := Lib.hid (show w1.heap.size + 1 ≤ w3.heap.size by have := hb3.size; omega)
  have HE4 := Lib.hid (box_below w3 D)
  have HW4 := Lib.hid (box_wh w3 D)
  have HSE2 := Lib.hid (by have := settleP_any y av3 qv3 (1 + (k : Int)) (boxW w3 D) (ha3.below stays_ci (box_below w3 D)) (hq3.below stays_cm (box_below w3 D)) (Sized.few (by omega) (by omega)); rw [htw, ← hD] at this; exact this : Calls Tryd.prog 20 #[.agg D.toArray, .int .i64 (1 + (k : Int))] (boxW w3 D) (GivesSub (boxW w3 D) y))
  have HGOY := Lib.hid (fun W (h : Below w3.heap.size w3 W) => by have := goodP_any y av3 qv3 5 (1 + (k : Int)) W (ha3.below stays_ci h) (hq3.below stays_cm h) hty (by omega) (by omega); rw [hgy, ← hD] at this; exact this : ∀ W (h : Below w3.heap.size w3 W), Calls Tryd.prog 19 #[.agg D.toArray, .int .i64 5, .int .i64 (1 + (k : Int))] W fun e w' => e = .returned (.bool true) ∧ Below W.heap.size W w')
  have HY6 := Lib.hid (fun W (h : Below (w3.heap.size + 1) (boxW w3 D) W) => by have := (h.cell (p := ⟨w3.heap.size, 6, none⟩) (Nat.lt_succ_self _)).trans ((box_wh w3 D).bx.cell (i := 6) (by rw [HD.out.len]; omega)); subst hD; exact this : ∀ W (h : Below (w3.heap.size + 1) (boxW w3 D) W), W.cell? ⟨w3.heap.size, 6, none⟩ = some (.int .i64 y.floor))
  have HY8 := Lib.hid (fun W (h : Below (w3.heap.size + 1) (boxW w3 D) W) => by have := (h.cell (p := ⟨w3.heap.size, 8, none⟩) (Nat.lt_succ_self _)).trans ((box_wh w3 D).bx.cell (i := 8) (by rw [HD.out.len]; omega)); subst hD; exact this : ∀ W (h : Below (w3.heap.size + 1) (boxW w3 D) W), W.cell? ⟨w3.heap.size, 8, none⟩ = some qv3)
  have HA3 := Lib.hid ha3
  have HQ3 := Lib.hid hq3
  have HDD := Lib.hid hD
  have HFY := Lib.hid hfy
  have HYQ := Lib.hid hyq
  rw [← hD]
  clear ha3 hq3 hb3 hb3' hb4 hgy htw hfy hty hyl hya hyq hs2 hD HSE
  go_wp2_with (first | (refine wpList_load_midG (by rfl) 35 (.tmp 7) rfl w3.heap.size 0 rfl _ _ HW4.out.range Tryd.underlying35 rfl HD.out.infoL ?_) | (refine wpList_store_row rfl 35 (.tmp 7) (.tmp 17) rfl w3.heap.size D.toArray rfl rfl 35 #[.int .i64 0, .string ⟨#[]⟩, .string ⟨#[]⟩, .string ⟨#[]⟩, .int .i64 0, .int .i64 0, .int .i64 0, .slice none 0 0, .slice none 0 0, .string ⟨#[]⟩] (box_old w3) HD.out.info HD.out.old HD.out.all ?_; rw [box_def]))
  refine HSE2.out.mono ?_
  rintro e w5 ⟨av5, qv5, rfl, ha5, hq5, hb5⟩
  have hs4 := box_size w3 D
  obtain ⟨E, hE⟩ : ∃ E, E = subC y av5 qv5 := ⟨_, rfl⟩
  have HE := Lib.hid (show Cub E by rw [hE]; exact Cub.mk_ y (rl_one ha5) (rl_one hq5))
  have hb5' : Below (w3.heap.size + 1) (boxW w3 D) w5 := by rw [← hs4]; exact hb5
  have hl5 := hb5.size
  have hl4 := HL4.out
  have HB6 := Lib.hid (hb5'.trans ((box_below w5 E).mono (by omega)))
  have hb6x : Below (w1.heap.size + 1) (boxW w1 C) (boxW w5 E) := HB4.out.trans (HB6.out.mono (by omega))
  have hb6y : Below w3.heap.size w3 (boxW w5 E) := HE4.out.trans (HB6.out.mono (by omega))
  have hb6w : Below w.heap.size w (boxW w5 E) := (HB1.out.trans (HB2.out.mono HB1.out.size)).trans (hb6x.mono (by have := HB1.out.size; omega))
  have HW6 := Lib.hid (box_wh w5 E)
  have HSS := Lib.hid (fun W (h3 : Below w3.heap.size w3 W) (h5 : Below w5.heap.size w5 W) => by have := sameSub_any (HA3.out.below stays_ci h3) (HQ3.out.below stays_cm h3) (ha5.below stays_ci h5) (hq5.below stays_cm h5); rw [decide_eq_true rfl, ← hE, ← HDD.out] at this; exact this : ∀ W (h3 : Below w3.heap.size w3 W) (h5 : Below w5.heap.size w5 W), Calls Tryd.prog 16 #[.agg D.toArray, .agg E.toArray] W fun e w' => e = .returned (.bool true) ∧ Below W.heap.size W w')
  have HSM := Lib.hid (fun W (h1 : Below w1.heap.size w1 W) (h3 : Below w3.heap.size w3 W) => by have := sameMsgs_any (HQ.out.below stays_cm h1) (HQ3.out.below stays_cm h3); rw [decide_eq_true HYQ.out.symm] at this; exact this : ∀ W (h1 : Below w1.heap.size w1 W) (h3 : Below w3.heap.size w3 W), Calls Tryd.prog 21 #[qv, qv3] W fun e w' => e = .returned (.bool true) ∧ Below W.heap.size W w')
  have HB6X := Lib.hid hb6x
  have HB6Y := Lib.hid hb6y
  have HB6W := Lib.hid hb6w
  have HE6 := Lib.hid (box_below w5 E)
  have HS6 := Lib.hid (box_size w5 E)
  have HL5 := Lib.hid (show w3.heap.size + 1 ≤ w5.heap.size by omega)
  rw [← hE]
  clear ha5 hq5 hb5 hb5' hb6x hb6y hb6w hs4 hl5 hl4 hE HSE2
  go_wp2_with (first | (refine wpList_store_row rfl 35 (.tmp 8) (.tmp 20) rfl w5.heap.size E.toArray rfl rfl 35 #[.int .i64 0, .string ⟨#[]⟩, .string ⟨#[]⟩, .string ⟨#[]⟩, .int .i64 0, .int .i64 0, .int .i64 0, .slice none 0 0, .slice none 0 0, .string ⟨#[]⟩] (box_old w5) HE.out.info HE.out.old HE.out.all ?_; rw [box_def]))
  have FX := Lib.hid (fun W (h : Below (w5.heap.size + 1) (boxW w5 E) W) => (box_wh w1 C).below (by rw [box_size]; exact HB6X.out.trans (h.mono (by have := HL4.out; have := HL5.out; omega))) : ∀ W (h : Below (w5.heap.size + 1) (boxW w5 E) W), Wh W w1.heap.size C 35)
  have FY := Lib.hid (fun W (h : Below (w5.heap.size + 1) (boxW w5 E) W) => (box_wh w3 D).below (by rw [box_size]; exact HB6.out.trans (h.mono (by have := HL5.out; omega))) : ∀ W (h : Below (w5.heap.size + 1) (boxW w5 E) W), Wh W w3.heap.size D 35)
  have FZ := Lib.hid (fun W (h : Below (w5.heap.size + 1) (boxW w5 E) W) => (box_wh w5 E).below (by rw [box_size]; exact h) : ∀ W (h : Below (w5.heap.size + 1) (boxW w5 E) W), Wh W w5.heap.size E 35)
  have F1 := Lib.hid (fun W (h : Below (w5.heap.size + 1) (boxW w5 E) W) => HB2.out.trans ((HB6X.out.trans (h.mono (by have := HL4.out; have := HL5.out; omega))).mono (Nat.le_succ _)) : ∀ W (h : Below (w5.heap.size + 1) (boxW w5 E) W), Below w1.heap.size w1 W)
  have F3 := Lib.hid (fun W (h : Below (w5.heap.size + 1) (boxW w5 E) W) => HB6Y.out.trans (h.mono (by have := HL5.out; omega)) : ∀ W (h : Below (w5.heap.size + 1) (boxW w5 E) W), Below w3.heap.size w3 W)
  have F5 := Lib.hid (fun W (h : Below (w5.heap.size + 1) (boxW w5 E) W) => HE6.out.trans (h.mono (Nat.le_succ _)) : ∀ W (h : Below (w5.heap.size + 1) (boxW w5 E) W), Below w5.heap.size w5 W)
  have FW := Lib.hid (fun W (h : Below (w5.heap.size + 1) (boxW w5 E) W) => HB6W.out.trans (h.mono (by have := HB1.out.size; have := HL4.out; have := HL5.out; omega)) : ∀ W (h : Below (w5.heap.size + 1) (boxW w5 E) W), Below w.heap.size w W)
  have FXC := Lib.hid (fun W (h : Below (w5.heap.size + 1) (boxW w5 E) W) => HB6X.out.trans (h.mono (by have := HL4.out; have := HL5.out; omega)) : ∀ W (h : Below (w5.heap.size + 1) (boxW w5 E) W), Below (w1.heap.size + 1) (boxW w1 C) W)
  have FYC := Lib.hid (fun W (h : Below (w5.heap.size + 1) (boxW w5 E) W) => HB6.out.trans (h.mono (by have := HL5.out; omega)) : ∀ W (h : Below (w5.heap.size + 1) (boxW w5 E) W), Below (w3.heap.size + 1) (boxW w3 D) W)
  clear HW2 HW4 HW6
  refine (HP.out _ HB6W.out).mono ?_
  rintro e w7 ⟨rfl, h7⟩
  have H7 := Lib.hid (show Below (w5.heap.size + 1) (boxW w5 E) w7 by rw [← HS6.out]; exact h7)
  have HX := Lib.hid (FX.out w7 H7.out)
  clear h7
  go_wp2_with (first | (refine wpList_load_midG (by rfl) 35 (.tmp 6) rfl w1.heap.size 0 rfl _ _ HX.out.range Tryd.underlying35 rfl HC.out.infoL ?_))
  refine (HGO.out w7 (F1.out w7 H7.out)).mono ?_
  rintro e w8 ⟨rfl, h8⟩
  have H8 := Lib.hid (H7.out.trans (h8.mono (by have := H7.out.size; have := HS6.out; omega)))
  have HY := Lib.hid (FY.out w8 H8.out)
  clear HX
  clear h8
  go_wp2_with (first | (refine wpList_load_midG (by rfl) 35 (.tmp 7) rfl w3.heap.size 0 rfl _ _ HY.out.range Tryd.underlying35 rfl HD.out.infoL ?_))
  refine (HGOY.out w8 (F3.out w8 H8.out)).mono ?_
  rintro e w9 ⟨rfl, h9⟩
  have H9 := Lib.hid (H8.out.trans (h9.mono (by have := H8.out.size; have := HS6.out; omega)))
  have HZ := Lib.hid (FZ.out w9 H9.out)
  clear HY
  have HY := Lib.hid (FY.out w9 H9.out)
  clear h9
  go_wp2_with (first | (refine wpList_load_midG (by rfl) 35 (.tmp 7) rfl w3.heap.size 0 rfl _ _ HY.out.range Tryd.underlying35 rfl HD.out.infoL ?_) | (refine wpList_load_midG (by rfl) 35 (.tmp 8) rfl w5.heap.size 0 rfl _ _ HZ.out.range Tryd.underlying35 rfl HE.out.infoL ?_))
  refine (HSS.out w9 (F3.out w9 H9.out) (F5.out w9 H9.out)).mono ?_
  rintro e w10 ⟨rfl, h10⟩
  have H10 := Lib.hid (H9.out.trans (h10.mono (by have := H9.out.size; have := HS6.out; omega)))
  clear HY HZ
  have c8 := HX8.out w10 (FXC.out w10 H10.out)
  have d8 := HY8.out w10 (FYC.out w10 H10.out)
  clear h10
  go_wp2_with (first | fail)
  refine (HSM.out w10 (F1.out w10 H10.out) (F3.out w10 H10.out)).mono ?_
  rintro e w11 ⟨rfl, h11⟩
  have H11 := Lib.hid (H10.out.trans (h11.mono (by have := H10.out.size; have := HS6.out; omega)))
  have c6 := HX6.out w11 (FXC.out w11 H11.out)
  have d6 := HY6.out w11 (FYC.out w11 H11.out)
  have hge := HFY.out
  clear h11 c8 d8
  go_wp2
  go_ret
  exact ⟨rfl, FW.out _ H11.out⟩
end Go.Proofs.YtcmkmdghekkkhaaDoor
