/-
  The walk of StateBack.
-/
import Derived.Test.YtcmkmdghekkkhaaDoorKBJ
import Derived.Test.YtcmkmdghekkkhaaDoorKBBJ
import Derived.Test.YtcmkmdghekkkhaaDoorKBCA
import Derived.Test.YtcmkmdghekkkhaaDoorKBCE
import Derived.Test.YtcmkmdghekkkhaaDoorKBDE
import Derived.Test.YtcmkmdghekkkhaaDoorKBDF
set_option linter.unusedVariables false
set_option linter.unusedVariables false
set_option linter.unusedSimpArgs false
namespace Go.Proofs.YtcmkmdghekkkhaaDoor
open Go.RowKit Go.Rst Go.Tp Go.Ts Go.Tk
theorem _root_.Go.Ts.Small.sized {x : Sub} (h : Small x) : Sized x := Sized.few (by have := h.al; omega) (by have := h.ql; omega)
theorem _root_.Go.Ts.Small.til {x : Sub} (h : Small x) : ∀ m ∈ x.queue, m.til ≤ 9223372036854775807 := fun m hm => by have := (h.qm m hm).1; omega
set_option maxRecDepth 100000 in
set_option maxHeartbeats 16000000 in
theorem back_walk (cv : Value) (l : List UInt8) (dv : Value) (d : List UInt8) (k : Nat) (w : World) (hcv : RB w cv l) (hlm : l.length ≤ 140737488351232) (hdv : RB w dv d) (hdm : d.length ≤ 140737488351232) (hk : k ≤ 255) (hp : Pow w) :
    Calls Tryd.prog 4 #[cv, dv, .int .u8 k] w fun e w' => e = .returned (.bool true) ∧ Below w.heap.size w w' := by
  have HS := Lib.hid (state_any cv l w hcv hlm)
  have HP := Lib.hid (fun W (h : Below w.heap.size w W) => known_any W (hp.below h))
  have HDV := Lib.hid hdv
  obtain ⟨j, hj⟩ : ∃ j, j = k % 9 := ⟨_, rfl⟩
  have hj9 : j < 9 := by omega
  have m1 : (k : Int).tmod 9 = (j : Int) := by rw [Int.tmod_eq_emod_of_nonneg (by omega)]; omega
  have m2 : (k : Int) % 9 = (j : Int) := by omega
  have HJ := Lib.hid hj
  clear hcv hp hlm hdv hj
  go_enter Tryd.func4, Tryd.ntmps4
  go_wp2_with fail
  refine HS.out.mono ?_
  rintro e w1 ⟨c, n, la, v1, xs, rfl, hr1, hb1, hmd, hxl⟩
  obtain ⟨A1, k1, rfl, hk1, hkm1⟩ := hr1.shape
  unfold maxLen at hkm1
  obtain ⟨S0, hS0⟩ : ∃ S0, S0 = stC c n la (.slice A1 xs.length k1) := ⟨_, rfl⟩
  have HS0 := Lib.hid (show Cut S0 by rw [hS0]; exact Cut.mk_ c n la (rl_one hr1))
  have H1 := Lib.hid (boxT_wh w1 S0)
  have HB1 := Lib.hid hb1
  have HR1 := Lib.hid hr1
  have HMD := Lib.hid hmd
  have s0 := (boxT_wh w1 S0).bx.cell (i := 0) (by rw [HS0.out.len]; omega)
  have s1 := (boxT_wh w1 S0).bx.cell (i := 1) (by rw [HS0.out.len]; omega)
  have e0 : S0[0]'(by rw [HS0.out.len]; omega) = .int .i64 c := by subst hS0; rfl
  have e1 : S0[1]'(by rw [HS0.out.len]; omega) = .int .i64 n := by subst hS0; rfl
  rw [e0] at s0
  rw [e1] at s1
  have hbV1 : Below w.heap.size w (boxT w1 S0) := hb1.trans ((boxT_below w1 S0).mono hb1.size)
  have HSU := Lib.hid (sub_any (1 + (j : Int)) c n hmd.n0 (by have := hmd.n1; omega) hmd.c0 (by have := hmd.c1; omega) (HDV.out.below hbV1))
  have HSE := Lib.hid hS0
  rw [← hS0]
  clear hr1 hb1 hmd hS0 e0 e1 hbV1 HS
  go_wp2_with (first | (refine wpList_store_row rfl 24 (.tmp 7) (.tmp 16) rfl w1.heap.size S0.toArray rfl rfl 24 #[.int .i64 0, .int .i64 0, .int .i64 0, .slice none 0 0] (boxT_old w1) HS0.out.info HS0.out.old HS0.out.all ?_; rw [boxT_def]))
  refine HSU.out.mono ?_
  rintro e w2 ⟨x, av, qv, rfl, ha, hq, hb2, hid, hgood, hal, hql, hms, hnl, htl, hwl⟩
  have hgx := hgood (by omega) (by omega)
  have hsx : Small x := ⟨hal, hql, hms, hnl, htl, hwl⟩
  have HID := Lib.hid hid
  clear hid
  obtain ⟨C, hC⟩ : ∃ C, C = subC x av qv := ⟨_, rfl⟩
  have HC := Lib.hid (show Cub C by rw [hC]; exact Cub.mk_ x (rl_one ha) (rl_one hq))
  have hl2 := hb2.size
  have hz1 := boxT_size w1 S0
  have HL2 := Lib.hid (show w1.heap.size + 1 ≤ w2.heap.size by omega)
  have hx2 : Below w2.heap.size w2 (boxW w2 C) := box_below w2 C
  have hx1 : Below (w1.heap.size + 1) (boxT w1 S0) (boxW w2 C) := by rw [← hz1]; exact hb2.trans (hx2.mono hl2)
  have HX1 := Lib.hid hx1
  have HW1 := Lib.hid (show Wh (boxW w2 C) w1.heap.size S0 24 from H1.out.below (by rw [boxT_size]; exact hx1))
  have HW2 := Lib.hid (box_wh w2 C)
  have hw1V : Below w1.heap.size w1 (boxW w2 C) := (boxT_below w1 S0).trans (hx1.mono (Nat.le_succ _))
  have HPU := Lib.hid (by
    have := putP_any c n la (.slice A1 xs.length k1) xs x av qv (boxW w2 C) (HR1.out.below stays_cs hw1V) (fun y hy => (HMD.out.ok y hy).2.2.2.sized) (by omega) (ha.below stays_ci hx2) (hq.below stays_cm hx2) hsx.sized
    rw [← HSE.out, ← hC] at this
    exact this : Calls Tryd.prog 14 #[.agg S0.toArray, .agg C.toArray] (boxW w2 C) (GivesSo (boxW w2 C) c n la (putS xs x)))
  have HA := Lib.hid ha
  have HQ := Lib.hid hq
  have HCE := Lib.hid hC
  have HGX := Lib.hid (And.intro hgx hsx)
  rw [← hC]
  clear ha hq hb2 hgood hal hql hms hnl htl hwl hgx hsx hC hl2 hz1 hx1 hx2 hw1V s0 s1 HSU H1
  go_wp2_with (first | (refine wpList_store_row rfl 35 (.tmp 8) (.tmp 26) rfl w2.heap.size C.toArray rfl rfl 35 #[.int .i64 0, .string ⟨#[]⟩, .string ⟨#[]⟩, .string ⟨#[]⟩, .int .i64 0, .int .i64 0, .int .i64 0, .slice none 0 0, .slice none 0 0, .string ⟨#[]⟩] (box_old w2) HC.out.info HC.out.old HC.out.all ?_; rw [box_def]) | (refine wpList_load_midG (by rfl) 24 (.tmp 7) rfl w1.heap.size 0 rfl _ _ HW1.out.range Tryd.underlying24 rfl HS0.out.infoL ?_) | (refine wpList_load_midG (by rfl) 35 (.tmp 8) rfl w2.heap.size 0 rfl _ _ HW2.out.range Tryd.underlying35 rfl HC.out.infoL ?_))
  refine HPU.out.mono ?_
  rintro e w3 ⟨v3, rfl, hon, hb3⟩
  have hr3 := hon.rs
  clear hon
  obtain ⟨A3, k3, rfl, hk3, hkm3⟩ := hr3.shape
  unfold maxLen at hkm3
  obtain ⟨T0, hT0⟩ : ∃ T0, T0 = stC c n la (.slice A3 (putS xs x).length k3) := ⟨_, rfl⟩
  have HT0 := Lib.hid (show Cut T0 by rw [hT0]; exact Cut.mk_ c n la (rl_one hr3))
  have hl3 := hb3.size
  have hz2 := box_size w2 C
  have HL3 := Lib.hid (show w2.heap.size + 1 ≤ w3.heap.size by omega)
  have hy3 : Below w3.heap.size w3 (boxT w3 T0) := boxT_below w3 T0
  have hx2 : Below (w2.heap.size + 1) (boxW w2 C) (boxT w3 T0) := by rw [← hz2]; exact hb3.trans (hy3.mono hl3)
  have HX2 := Lib.hid hx2
  have HW3 := Lib.hid (boxT_wh w3 T0)
  have hwc : Wh (boxT w3 T0) w2.heap.size C 35 := HW2.out.below (by rw [box_size]; exact hx2)
  have d0 := hwc.bx.cell (i := 0) (by rw [HC.out.len]; omega)
  have e0 : C[0]'(by rw [HC.out.len]; omega) = .int .i64 x.id := by have := HCE.out; subst this; rfl
  rw [e0] at d0
  have hszp : ∀ y ∈ putS xs x, Sized y := fun y hy => by
    rcases mem_put.1 hy with rfl | ⟨hy, _⟩
    · exact HGX.out.2.sized
    · exact (HMD.out.ok y hy).2.2.2.sized
  have HFI := Lib.hid (fun (id : Int) W (h : Below w3.heap.size w3 W) => by
    have := findP2_any c n la (.slice A3 (putS xs x).length k3) (putS xs x) id W (hr3.below stays_cs h) hszp
    rw [← hT0] at this
    exact this : ∀ (id : Int) W (h : Below w3.heap.size w3 W), Calls Tryd.prog 15 #[.agg T0.toArray, .int .i64 id] W (GivesF2 W (findS (putS xs x) id)))
  have HR3 := Lib.hid hr3
  have HTE := Lib.hid hT0
  have HPL := Lib.hid (put_len xs x)
  have HSZ := Lib.hid hszp
  rw [← hT0]
  clear hr3 hT0 hb3 hl3 hz2 hy3 hx2 hwc e0 hszp HPU
  go_wp2_with (first | (refine wpList_store_row rfl 24 (.tmp 9) (.tmp 29) rfl w3.heap.size T0.toArray rfl rfl 24 #[.int .i64 0, .int .i64 0, .int .i64 0, .slice none 0 0] (boxT_old w3) HT0.out.info HT0.out.old HT0.out.all ?_; rw [boxT_def]) | (refine wpList_load_midG (by rfl) 24 (.tmp 9) rfl w3.heap.size 0 rfl _ _ HW3.out.range Tryd.underlying24 rfl HT0.out.infoL ?_))
  refine (HFI.out x.id _ (boxT_below w3 T0)).mono ?_
  rw [find_put_self]
  rintro e w4 ⟨av4, qv4, rfl, ha4, hq4, hb4, _, _⟩
  have ha4 : Go.Ts.RI w4 av4 x.acks := ha4
  have hq4 : RM w4 qv4 x.queue := hq4
  obtain ⟨D, hD⟩ : ∃ D, D = subC x av4 qv4 := ⟨_, rfl⟩
  have HD := Lib.hid (show Cub D by rw [hD]; exact Cub.mk_ x (rl_one ha4) (rl_one hq4))
  have hD' : subC ((some x).getD noSub) av4 qv4 = D := hD.symm
  rw [hD']
  have hl4 := hb4.size
  have hz3 := boxT_size w3 T0
  have HL4 := Lib.hid (show w3.heap.size + 1 ≤ w4.heap.size by omega)
  have hy4 : Below w4.heap.size w4 (boxW w4 D) := box_below w4 D
  have hx3 : Below (w3.heap.size + 1) (boxT w3 T0) (boxW w4 D) := by rw [← hz3]; exact hb4.trans (hy4.mono hl4)
  have HX3 := Lib.hid hx3
  have HX4 := Lib.hid hy4
  have HA4 := Lib.hid ha4
  have HQ4 := Lib.hid hq4
  have HDE := Lib.hid hD
  clear ha4 hq4 hb4 hl4 hz3 hy4 hx3 hD hD' d0
  go_wp2_with (first | (refine wpList_store_row rfl 35 (.tmp 10) (.tmp 35) rfl w4.heap.size D.toArray rfl rfl 35 #[.int .i64 0, .string ⟨#[]⟩, .string ⟨#[]⟩, .string ⟨#[]⟩, .int .i64 0, .int .i64 0, .int .i64 0, .slice none 0 0, .slice none 0 0, .string ⟨#[]⟩] (box_old w4) HD.out.info HD.out.old HD.out.all ?_; rw [box_def]))
  have L2 := HL2.out
  have L3 := HL3.out
  have L4 := HL4.out
  have LB := HB1.out.size
  have F7 := Lib.hid (fun W (h : Below (w4.heap.size + 1) (boxW w4 D) W) => (boxT_wh w1 S0).below (by rw [boxT_size]; exact (HX1.out.trans ((HX2.out.trans ((HX3.out.trans (h.mono (by omega))).mono (by omega))).mono (by omega)))) : ∀ W (h : Below (w4.heap.size + 1) (boxW w4 D) W), Wh W w1.heap.size S0 24)
  have F8 := Lib.hid (fun W (h : Below (w4.heap.size + 1) (boxW w4 D) W) => (box_wh w2 C).below (by rw [box_size]; exact (HX2.out.trans ((HX3.out.trans (h.mono (by omega))).mono (by omega)))) : ∀ W (h : Below (w4.heap.size + 1) (boxW w4 D) W), Wh W w2.heap.size C 35)
  have F9 := Lib.hid (fun W (h : Below (w4.heap.size + 1) (boxW w4 D) W) => (boxT_wh w3 T0).below (by rw [boxT_size]; exact (HX3.out.trans (h.mono (by omega)))) : ∀ W (h : Below (w4.heap.size + 1) (boxW w4 D) W), Wh W w3.heap.size T0 24)
  have F10 := Lib.hid (fun W (h : Below (w4.heap.size + 1) (boxW w4 D) W) => (box_wh w4 D).below (by rw [box_size]; exact h) : ∀ W (h : Below (w4.heap.size + 1) (boxW w4 D) W), Wh W w4.heap.size D 35)
  have R1 := Lib.hid (fun W (h : Below (w4.heap.size + 1) (boxW w4 D) W) => (boxT_below w1 S0).trans ((HX1.out.trans ((HX2.out.trans ((HX3.out.trans (h.mono (by omega))).mono (by omega))).mono (by omega))).mono (Nat.le_succ _)) : ∀ W (h : Below (w4.heap.size + 1) (boxW w4 D) W), Below w1.heap.size w1 W)
  have R2 := Lib.hid (fun W (h : Below (w4.heap.size + 1) (boxW w4 D) W) => (box_below w2 C).trans ((HX2.out.trans ((HX3.out.trans (h.mono (by omega))).mono (by omega))).mono (Nat.le_succ _)) : ∀ W (h : Below (w4.heap.size + 1) (boxW w4 D) W), Below w2.heap.size w2 W)
  have R3 := Lib.hid (fun W (h : Below (w4.heap.size + 1) (boxW w4 D) W) => (boxT_below w3 T0).trans ((HX3.out.trans (h.mono (by omega))).mono (Nat.le_succ _)) : ∀ W (h : Below (w4.heap.size + 1) (boxW w4 D) W), Below w3.heap.size w3 W)
  have R4 := Lib.hid (fun W (h : Below (w4.heap.size + 1) (boxW w4 D) W) => (box_below w4 D).trans (h.mono (Nat.le_succ _)) : ∀ W (h : Below (w4.heap.size + 1) (boxW w4 D) W), Below w4.heap.size w4 W)
  have RW := Lib.hid (fun W (h : Below (w4.heap.size + 1) (boxW w4 D) W) => HB1.out.trans (((boxT_below w1 S0).trans ((HX1.out.trans ((HX2.out.trans ((HX3.out.trans (h.mono (by omega))).mono (by omega))).mono (by omega))).mono (Nat.le_succ _))).mono HB1.out.size) : ∀ W (h : Below (w4.heap.size + 1) (boxW w4 D) W), Below w.heap.size w W)
  have H0 := Lib.hid (Below.refl (w4.heap.size + 1) (boxW w4 D))
  clear L2 L3 L4 LB HW1 HW2 HW3 HX1 HX2 HX3 HX4 m1 m2 HJ
  have HVS := Lib.hid (box_size w4 D)
  generalize hV4 : boxW w4 D = V4 at HVS F7 F8 F9 F10 R1 R2 R3 R4 RW H0 ⊢
  clear hV4
  go_loopw [12] (fun iv wr => ∃ i : Nat, i ≤ xs.length ∧ iv = .int .i64 i ∧ Below (w4.heap.size + 1) V4 wr) (fun iv _ => xs.length - (intOf iv).toNat)
  case atStart => exact ⟨0, Nat.zero_le _, rfl, H0.out⟩
  case round =>
    obtain ⟨i, hi, rfl, hbr⟩ := hrel
    have HBR := Lib.hid hbr
    have HSW := Lib.hid (show w4.heap.size + 1 ≤ wr.heap.size by have := hbr.size; have := HVS.out; omega)
    have e3 : S0[3]'(by rw [HS0.out.len]; omega) = .slice A1 xs.length k1 := by have := HSE.out; subst this; rfl
    have ex0 : C[0]'(by rw [HC.out.len]; omega) = .int .i64 x.id := by have := HCE.out; subst this; rfl
    have c3 := (F7.out wr hbr).bx.cell (i := 3) (by rw [HS0.out.len]; omega)
    rw [e3] at c3
    clear hbr
    by_cases hlt : i < xs.length
    · have q1 : (i : Int) < (xs.length : Int) := by omega
      obtain ⟨b1, o1, avm, qvm, hA1, hb1l, hgm, ham, hqm⟩ := rs_at HR1.out hlt
      have HA1 := Lib.hid hA1
      subst hA1
      have hfm := find_mem HMD.out.so (List.getElem_mem hlt)
      obtain ⟨m, hm⟩ : ∃ m, m = xs[i] := ⟨_, rfl⟩
      rw [← hm] at hgm ham hqm hfm
      have HFM := Lib.hid hfm
      obtain ⟨M, hM⟩ : ∃ M, M = subC m avm qvm := ⟨_, rfl⟩
      have HM := Lib.hid (show Cub M by rw [hM]; exact Cub.mk_ m (rl_one ham) (rl_one hqm))
      have HME := Lib.hid hM
      rw [← hM] at hgm
      have HM0 := Lib.hid hgm
      clear hm hfm hM hgm
      go_wp2_with fail
      clear c3
      refine wp_region_held_drew (S := SB [wr]) (by kernel_rfl) (SB.start _) (fun hHeld => ?_)
      refine tkA 0 (v := .agg T0.toArray) (fun W hSw => exec_load_mid 24 (.tmp 9) rfl w3.heap.size 0 rfl _ _ ((F9.out W (HBR.out.trans ((SB.b0 hSw).mono HSW.out))).range) Tryd.underlying24 rfl HT0.out.infoL) ?_
      try simp only [Act.put, zA, zB, zC]
      refine tkC 1 ?_
      refine tkA 2 (v := .slice (some ⟨b1, o1, none⟩) xs.length k1) ?_ ?_
      · intro W hSw; have hq := (F7.out W (HBR.out.trans ((SB.b0 hSw).mono HSW.out))).bx.cell (i := 3) (by rw [HS0.out.len]; omega)
        rw [e3] at hq
        go_simp; try (with_reducible rfl)
      try simp only [Act.put, zA, zB, zC]
      refine tkC 3 ?_
      refine tkA 4 (v := .pointer (some ⟨b1, o1 + i * 10, none⟩)) ?_ ?_
      · intro W hSw; go_simp; try (with_reducible rfl)
      try simp only [Act.put, zA, zB, zC]
      refine tkC 5 ?_
      refine tkA 6 (v := .int .i64 m.id) ?_ ?_
      · intro W hSw; have hq := (range_below HM0.out hb1l (R1.out W (HBR.out.trans ((SB.b0 hSw).mono HSW.out)))) 0 (.int .i64 m.id) (by rw [HME.out]; rfl)
        rw [Nat.add_zero] at hq
        go_simp; try (with_reducible rfl)
      try simp only [Act.put, zA, zB, zC]
      refine rdA (rs := [7, 11]) (arC2 (i := 7) (j := 11) (fun K hK => ?_) (fun K hK => ?_))
      · go_simp
        refine (HFI.out m.id _ (R3.out _ (HBR.out.trans ((SB.b0 hHeld).mono HSW.out)))).mono ?_
        rintro e w5 ⟨av5, qv5, rfl, ha5, hq5, hbw5, hoa5, hoq5⟩
        try (go_wp2_with fail)
        have hHeld' := SB.step hHeld hbw5
        refine hK.out _ _ ?_ (fun _ => ?_)
        · exact hHeld'
        clear hK K hHeld
        have hHeld := hHeld'
        clear hHeld'
        try simp only [Act.put, zA, zB, zC]
        have hbel5 := SB.b0 hHeld
        obtain ⟨y, hy⟩ : ∃ y, y = (findS (putS xs x) m.id).getD noSub := ⟨_, rfl⟩
        obtain ⟨bo, hbo⟩ : ∃ bo, bo = (findS (putS xs x) m.id).isSome := ⟨_, rfl⟩
        rw [← hy] at ha5 hq5
        rw [← hy, ← hbo]
        have HOY := Lib.hid (fun h : m.id ≠ x.id => show bo = true ∧ y = m from by rw [hbo, hy, find_put_other (fun e => h e.symm), HFM.out]; exact ⟨rfl, rfl⟩)
        clear hy hbo
        obtain ⟨E, hE⟩ : ∃ E, E = subC y av5 qv5 := ⟨_, rfl⟩
        have HE := Lib.hid (show Cub E by rw [hE]; exact Cub.mk_ y (rl_one ha5) (rl_one hq5))
        have HEE := Lib.hid hE
        rw [← hE]
        clear hE
        refine tkC 8 ?_
        refine tkA 9 (v := .agg E.toArray) ?_ ?_
        · intro W hSw; go_simp; try (with_reducible rfl)
        try simp only [Act.put, zA, zB, zC]
        refine tkA 10 (v := .bool bo) ?_ ?_
        · intro W hSw; go_simp; try (with_reducible rfl)
        try simp only [Act.put, zA, zB, zC]
        refine rdA (rs := [11]) (arC (i := 11) fun K hK => ?_)
        have hHeld' := SB.step hHeld ((Below.refl _ w5).alloc (Nat.le_refl _) (.cells #[.int .i64 0, .string ⟨#[]⟩, .string ⟨#[]⟩, .string ⟨#[]⟩, .int .i64 0, .int .i64 0, .int .i64 0, .slice none 0 0, .slice none 0 0, .string ⟨#[]⟩] 35))
        go_simp
        refine hK.out _ _ ?_ (fun _ => ?_)
        · exact hHeld'
        clear hK K hHeld
        have hHeld := hHeld'
        clear hHeld'
        try simp only [Act.put, zA, zB, zC]
        refine rdA (rs := [12]) (arC (i := 12) fun K hK => ?_)
        refine step_store_row rfl 35 (.tmp 13) (.tmp 53) rfl w5.heap.size E.toArray rfl rfl 35 #[.int .i64 0, .string ⟨#[]⟩, .string ⟨#[]⟩, .string ⟨#[]⟩, .int .i64 0, .int .i64 0, .int .i64 0, .slice none 0 0, .slice none 0 0, .string ⟨#[]⟩] (box_old w5) HE.out.info HE.out.old HE.out.all ?_
        refine hK.out _ _ ?_ (fun _ => ?_)
        · exact fun z hz => by obtain rfl := List.mem_singleton.1 hz; exact below_setRow (SB.b0 hHeld) (by have := hbel5.size; omega) _
        have hbel := SB.b0 hHeld
        clear hK K hHeld
        try simp only [Act.put, zA, zB, zC]
        refine tkC 13 ?_
        refine wpAnyH_done (by kernel_rfl) ?_ _
        have hwe : Wh ((w5.alloc (.cells #[.int .i64 0, .string ⟨#[]⟩, .string ⟨#[]⟩, .string ⟨#[]⟩, .int .i64 0, .int .i64 0, .int .i64 0, .slice none 0 0, .slice none 0 0, .string ⟨#[]⟩] 35)).setRow w5.heap.size E.toArray) w5.heap.size E 35 := box_wh w5 E
        have hra : Go.Ts.RI ((w5.alloc (.cells #[.int .i64 0, .string ⟨#[]⟩, .string ⟨#[]⟩, .string ⟨#[]⟩, .int .i64 0, .int .i64 0, .int .i64 0, .slice none 0 0, .slice none 0 0, .string ⟨#[]⟩] 35)).setRow w5.heap.size E.toArray) av5 y.acks := ha5.below stays_ci (box_below w5 E)
        have hrq : RM ((w5.alloc (.cells #[.int .i64 0, .string ⟨#[]⟩, .string ⟨#[]⟩, .string ⟨#[]⟩, .int .i64 0, .int .i64 0, .int .i64 0, .slice none 0 0, .slice none 0 0, .string ⟨#[]⟩] 35)).setRow w5.heap.size E.toArray) qv5 y.queue := hq5.below stays_cm (box_below w5 E)
        have hbr : Below (w4.heap.size + 1) V4 ((w5.alloc (.cells #[.int .i64 0, .string ⟨#[]⟩, .string ⟨#[]⟩, .string ⟨#[]⟩, .int .i64 0, .int .i64 0, .int .i64 0, .slice none 0 0, .slice none 0 0, .string ⟨#[]⟩] 35)).setRow w5.heap.size E.toArray) := HBR.out.trans ((below_setRow hbel (by have := hbel5.size; omega) E.toArray).mono HSW.out)
        obtain ⟨W13, hW13⟩ : ∃ W, W = (w5.alloc (.cells #[.int .i64 0, .string ⟨#[]⟩, .string ⟨#[]⟩, .string ⟨#[]⟩, .int .i64 0, .int .i64 0, .int .i64 0, .slice none 0 0, .slice none 0 0, .string ⟨#[]⟩] 35)).setRow w5.heap.size E.toArray := ⟨_, rfl⟩
        rw [← hW13] at hwe hra hrq hbr ⊢
        have HWE := Lib.hid hwe
        have HRA := Lib.hid hra
        have HRQ := Lib.hid hrq
        have HBS := Lib.hid hbr
        have HSB := Lib.hid (show w4.heap.size + 1 ≤ W13.heap.size by have := hbr.size; have := HVS.out; omega)
        clear hW13 hwe hra hrq hbr hbel hbel5 ha5 hq5 hbw5 hoa5 hoq5
        by_cases hme : m.id = x.id
        · have qne : (m.id != x.id) = false := by simp [hme]
          clear hme
          go_wp2_with fail
          refine wp_region_held_drew (S := SB [W13]) (by kernel_rfl) (SB.start _) (fun hHeld => ?_)
          refine tkC 0 ?_
          refine tkA 1 (v := .slice (some ⟨b1, o1, none⟩) xs.length k1) ?_ ?_
          · intro W hSw; have hq := (F7.out W (HBS.out.trans ((SB.b0 hSw).mono HSB.out))).bx.cell (i := 3) (by rw [HS0.out.len]; omega)
            rw [e3] at hq
            go_simp; try (with_reducible rfl)
          try simp only [Act.put, zA, zB, zC]
          refine tkC 2 ?_
          refine tkA 3 (v := .pointer (some ⟨b1, o1 + i * 10, none⟩)) ?_ ?_
          · intro W hSw; go_simp; try (with_reducible rfl)
          try simp only [Act.put, zA, zB, zC]
          refine tkC 4 ?_
          refine tkA 5 (v := .int .i64 m.id) ?_ ?_
          · intro W hSw; have hq := (range_below HM0.out hb1l (R1.out W (HBS.out.trans ((SB.b0 hSw).mono HSB.out)))) 0 (.int .i64 m.id) (by rw [HME.out]; rfl)
            rw [Nat.add_zero] at hq
            go_simp; try (with_reducible rfl)
          try simp only [Act.put, zA, zB, zC]
          refine tkC 6 ?_
          refine tkA 7 (v := .int .i64 x.id) ?_ ?_
          · intro W hSw; have hq := (F8.out W (HBS.out.trans ((SB.b0 hSw).mono HSB.out))).bx.cell (i := 0) (by rw [HC.out.len]; omega)
            rw [ex0] at hq
            go_simp; try (with_reducible rfl)
          try simp only [Act.put, zA, zB, zC]
          refine tkA 8 (v := .bool false) ?_ ?_
          · intro W hSw; go_simp; try (with_reducible rfl)
          try simp only [Act.put, zA, zB, zC]
          refine tkC 9 ?_
          refine tkB 10 ?_
          refine tkB 11 ?_
          refine tkB 12 ?_
          refine tkB 13 ?_
          refine tkB 14 ?_
          refine tkB 15 ?_
          refine tkB 16 ?_
          refine tkB 17 ?_
          refine tkB 18 ?_
          refine tkB 19 ?_
          refine tkB 20 ?_
          refine tkB 21 ?_
          refine tkC 22 ?_
          refine wpAnyH_done (by kernel_rfl) ?_ _
          have HBD := Lib.hid (HBS.out.trans ((SB.b0 hHeld).mono HSB.out))
          clear hHeld
          go_wp2
          go_roundw
          case rel => exact ⟨i + 1, by omega, by go_num, HBD.out⟩
          case measure => simp [intOf]; omega
        · have qne : (m.id != x.id) = true := by simp [hme]
          obtain ⟨rfl, hym⟩ := HOY.out hme
          have HSSM := Lib.hid (fun W (h : Below W13.heap.size W13 W) => by
            have := sameSub_any (HRA.out.below stays_ci h) (HRQ.out.below stays_cm h) (ham.below stays_ci (R1.out W (HBS.out.trans (h.mono HSB.out)))) (hqm.below stays_cm (R1.out W (HBS.out.trans (h.mono HSB.out))))
            rw [decide_eq_true hym, ← HEE.out, ← HME.out] at this
            exact this : ∀ W (h : Below W13.heap.size W13 W), Calls Tryd.prog 16 #[.agg E.toArray, .agg M.toArray] W fun e w' => e = .returned (.bool true) ∧ Below W.heap.size W w')
          clear hme hym ham hqm
          go_wp2_with fail
          refine wp_region_held_drew (S := SB [W13]) (by kernel_rfl) (SB.start _) (fun hHeld => ?_)
          refine tkC 0 ?_
          refine tkA 1 (v := .slice (some ⟨b1, o1, none⟩) xs.length k1) ?_ ?_
          · intro W hSw; have hq := (F7.out W (HBS.out.trans ((SB.b0 hSw).mono HSB.out))).bx.cell (i := 3) (by rw [HS0.out.len]; omega)
            rw [e3] at hq
            go_simp; try (with_reducible rfl)
          try simp only [Act.put, zA, zB, zC]
          refine tkC 2 ?_
          refine tkA 3 (v := .pointer (some ⟨b1, o1 + i * 10, none⟩)) ?_ ?_
          · intro W hSw; go_simp; try (with_reducible rfl)
          try simp only [Act.put, zA, zB, zC]
          refine tkC 4 ?_
          refine tkA 5 (v := .int .i64 m.id) ?_ ?_
          · intro W hSw; have hq := (range_below HM0.out hb1l (R1.out W (HBS.out.trans ((SB.b0 hSw).mono HSB.out)))) 0 (.int .i64 m.id) (by rw [HME.out]; rfl)
            rw [Nat.add_zero] at hq
            go_simp; try (with_reducible rfl)
          try simp only [Act.put, zA, zB, zC]
          refine tkC 6 ?_
          refine tkA 7 (v := .int .i64 x.id) ?_ ?_
          · intro W hSw; have hq := (F8.out W (HBS.out.trans ((SB.b0 hSw).mono HSB.out))).bx.cell (i := 0) (by rw [HC.out.len]; omega)
            rw [ex0] at hq
            go_simp; try (with_reducible rfl)
          try simp only [Act.put, zA, zB, zC]
          refine tkA 8 (v := .bool true) ?_ ?_
          · intro W hSw; go_simp; try (with_reducible rfl)
          try simp only [Act.put, zA, zB, zC]
          refine tkC 9 ?_
          refine tkA 10 (v := .bool true) ?_ ?_
          · intro W hSw; go_simp; try (with_reducible rfl)
          try simp only [Act.put, zA, zB, zC]
          refine tkC 11 ?_
          refine tkC 12 ?_
          refine tkA 13 (v := .agg E.toArray) (fun W hSw => exec_load_mid 35 (.tmp 13) rfl w5.heap.size 0 rfl _ _ (HWE.out.range |> fun h => range_below h HWE.out.lt (SB.b0 hSw)) Tryd.underlying35 rfl HE.out.infoL) ?_
          try simp only [Act.put, zA, zB, zC]
          refine tkC 14 ?_
          refine tkA 15 (v := .slice (some ⟨b1, o1, none⟩) xs.length k1) ?_ ?_
          · intro W hSw; have hq := (F7.out W (HBS.out.trans ((SB.b0 hSw).mono HSB.out))).bx.cell (i := 3) (by rw [HS0.out.len]; omega)
            rw [e3] at hq
            go_simp; try (with_reducible rfl)
          try simp only [Act.put, zA, zB, zC]
          refine tkC 16 ?_
          refine tkA 17 (v := .pointer (some ⟨b1, o1 + i * 10, none⟩)) ?_ ?_
          · intro W hSw; go_simp; try (with_reducible rfl)
          try simp only [Act.put, zA, zB, zC]
          refine tkA 18 (v := .agg M.toArray) (fun W hSw => exec_load_mid 35 (.tmp 72) rfl b1 (o1 + i * 10) rfl _ _ (range_below HM0.out hb1l (R1.out W (HBS.out.trans ((SB.b0 hSw).mono HSB.out)))) Tryd.underlying35 rfl HM.out.infoL) ?_
          try simp only [Act.put, zA, zB, zC]
          refine rdA (rs := [19]) (arC (i := 19) fun K hK => ?_)
          go_simp
          refine (HSSM.out _ (SB.b0 hHeld)).mono ?_
          rintro e w6 ⟨rfl, hbw6⟩
          try (go_wp2_with fail)
          have hHeld' := SB.step hHeld hbw6
          refine hK.out _ _ ?_ (fun _ => ?_)
          · exact hHeld'
          clear hK K hHeld
          have hHeld := hHeld'
          clear hHeld'
          try simp only [Act.put, zA, zB, zC]
          refine tkC 20 ?_
          refine tkC 21 ?_
          refine tkC 22 ?_
          refine wpAnyH_done (by kernel_rfl) ?_ _
          have HBD := Lib.hid (HBS.out.trans ((SB.b0 hHeld).mono HSB.out))
          clear hHeld hbw6
          go_wp2
          go_roundw
          case rel => exact ⟨i + 1, by omega, by go_num, HBD.out⟩
          case measure => simp [intOf]; omega
      · have hHeld' := SB.step hHeld ((Below.refl _ wr.drew).alloc (Nat.le_refl _) (.cells #[.int .i64 0, .string ⟨#[]⟩, .string ⟨#[]⟩, .string ⟨#[]⟩, .int .i64 0, .int .i64 0, .int .i64 0, .slice none 0 0, .slice none 0 0, .string ⟨#[]⟩] 35))
        go_simp
        refine hK.out _ _ ?_ (fun _ => ?_)
        · exact hHeld'
        clear hK K hHeld
        have hHeld := hHeld'
        clear hHeld'
        try simp only [Act.put, zA, zB, zC]
        obtain ⟨Wa, hWa⟩ : ∃ W, W = (wr.alloc (.cells #[.int .i64 0, .string ⟨#[]⟩, .string ⟨#[]⟩, .string ⟨#[]⟩, .int .i64 0, .int .i64 0, .int .i64 0, .slice none 0 0, .slice none 0 0, .string ⟨#[]⟩] 35)).drew := ⟨_, rfl⟩
        have hza : Wh Wa wr.heap.size [.int .i64 0, .string ⟨#[]⟩, .string ⟨#[]⟩, .string ⟨#[]⟩, .int .i64 0, .int .i64 0, .int .i64 0, .slice none 0 0, .slice none 0 0, .string ⟨#[]⟩] 35 := by rw [hWa]; exact box_old wr
        have hsa : Wa.heap.size = wr.heap.size + 1 := by rw [hWa]; exact World.size_alloc _ _
        have hHeld2 : SB [wr] Wa := by rw [hWa]; exact hHeld
        rw [← hWa]
        clear hWa hHeld
        have hHeld := hHeld2
        clear hHeld2
        refine rdA (rs := [7]) (arC (i := 7) fun K hK => ?_)
        go_simp
        refine (HFI.out m.id _ (R3.out _ (HBR.out.trans ((SB.b0 hHeld).mono HSW.out)))).mono ?_
        rintro e w5 ⟨av5, qv5, rfl, ha5, hq5, hbw5, hoa5, hoq5⟩
        try (go_wp2_with fail)
        have hHeld' := SB.step hHeld hbw5
        refine hK.out _ _ ?_ (fun _ => ?_)
        · exact hHeld'
        clear hK K hHeld
        have hHeld := hHeld'
        clear hHeld'
        try simp only [Act.put, zA, zB, zC]
        have hbel5 := SB.b0 hHeld
        have hz5 := hza.below hbw5
        obtain ⟨y, hy⟩ : ∃ y, y = (findS (putS xs x) m.id).getD noSub := ⟨_, rfl⟩
        obtain ⟨bo, hbo⟩ : ∃ bo, bo = (findS (putS xs x) m.id).isSome := ⟨_, rfl⟩
        rw [← hy] at ha5 hq5
        rw [← hy, ← hbo]
        have HOY := Lib.hid (fun h : m.id ≠ x.id => show bo = true ∧ y = m from by rw [hbo, hy, find_put_other (fun e => h e.symm), HFM.out]; exact ⟨rfl, rfl⟩)
        clear hy hbo
        obtain ⟨E, hE⟩ : ∃ E, E = subC y av5 qv5 := ⟨_, rfl⟩
        have HE := Lib.hid (show Cub E by rw [hE]; exact Cub.mk_ y (rl_one ha5) (rl_one hq5))
        have HEE := Lib.hid hE
        rw [← hE]
        clear hE
        refine tkC 8 ?_
        refine tkA 9 (v := .agg E.toArray) ?_ ?_
        · intro W hSw; go_simp; try (with_reducible rfl)
        try simp only [Act.put, zA, zB, zC]
        refine tkA 10 (v := .bool bo) ?_ ?_
        · intro W hSw; go_simp; try (with_reducible rfl)
        try simp only [Act.put, zA, zB, zC]
        refine rdA (rs := [12]) (arC (i := 12) fun K hK => ?_)
        refine step_store_row rfl 35 (.tmp 13) (.tmp 53) rfl wr.heap.size E.toArray rfl rfl 35 #[.int .i64 0, .string ⟨#[]⟩, .string ⟨#[]⟩, .string ⟨#[]⟩, .int .i64 0, .int .i64 0, .int .i64 0, .slice none 0 0, .slice none 0 0, .string ⟨#[]⟩] (hz5) HE.out.info HE.out.old HE.out.all ?_
        refine hK.out _ _ ?_ (fun _ => ?_)
        · exact fun z hz => by obtain rfl := List.mem_singleton.1 hz; exact below_setRow (SB.b0 hHeld) (by have := hbel5.size; omega) _
        have hbel := SB.b0 hHeld
        clear hK K hHeld
        try simp only [Act.put, zA, zB, zC]
        refine tkC 13 ?_
        refine wpAnyH_done (by kernel_rfl) ?_ _
        have hwe : Wh (w5.setRow wr.heap.size E.toArray) wr.heap.size E 35 := hz5.set E
        have hra : Go.Ts.RI (w5.setRow wr.heap.size E.toArray) av5 y.acks := rl_block fixed_ci ha5 (by simp) (fun k hk => setRow_other w5 wr.heap.size k _ (by have := hoa5 k hk; omega))
        have hrq : RM (w5.setRow wr.heap.size E.toArray) qv5 y.queue := rl_block fixed_cm hq5 (by simp) (fun k hk => setRow_other w5 wr.heap.size k _ (by have := hoq5 k hk; omega))
        have hbr : Below (w4.heap.size + 1) V4 (w5.setRow wr.heap.size E.toArray) := HBR.out.trans ((below_setRow hbel (Nat.le_refl _) E.toArray).mono HSW.out)
        obtain ⟨W13, hW13⟩ : ∃ W, W = w5.setRow wr.heap.size E.toArray := ⟨_, rfl⟩
        rw [← hW13] at hwe hra hrq hbr ⊢
        have HWE := Lib.hid hwe
        have HRA := Lib.hid hra
        have HRQ := Lib.hid hrq
        have HBS := Lib.hid hbr
        have HSB := Lib.hid (show w4.heap.size + 1 ≤ W13.heap.size by have := hbr.size; have := HVS.out; omega)
        clear hW13 hwe hra hrq hbr hbel hbel5 hz5 hza hsa ha5 hq5 hbw5 hoa5 hoq5
        by_cases hme : m.id = x.id
        · have qne : (m.id != x.id) = false := by simp [hme]
          clear hme
          go_wp2_with fail
          refine wp_region_held_drew (S := SB [W13]) (by kernel_rfl) (SB.start _) (fun hHeld => ?_)
          refine tkC 0 ?_
          refine tkA 1 (v := .slice (some ⟨b1, o1, none⟩) xs.length k1) ?_ ?_
          · intro W hSw; have hq := (F7.out W (HBS.out.trans ((SB.b0 hSw).mono HSB.out))).bx.cell (i := 3) (by rw [HS0.out.len]; omega)
            rw [e3] at hq
            go_simp; try (with_reducible rfl)
          try simp only [Act.put, zA, zB, zC]
          refine tkC 2 ?_
          refine tkA 3 (v := .pointer (some ⟨b1, o1 + i * 10, none⟩)) ?_ ?_
          · intro W hSw; go_simp; try (with_reducible rfl)
          try simp only [Act.put, zA, zB, zC]
          refine tkC 4 ?_
          refine tkA 5 (v := .int .i64 m.id) ?_ ?_
          · intro W hSw; have hq := (range_below HM0.out hb1l (R1.out W (HBS.out.trans ((SB.b0 hSw).mono HSB.out)))) 0 (.int .i64 m.id) (by rw [HME.out]; rfl)
            rw [Nat.add_zero] at hq
            go_simp; try (with_reducible rfl)
          try simp only [Act.put, zA, zB, zC]
          refine tkC 6 ?_
          refine tkA 7 (v := .int .i64 x.id) ?_ ?_
          · intro W hSw; have hq := (F8.out W (HBS.out.trans ((SB.b0 hSw).mono HSB.out))).bx.cell (i := 0) (by rw [HC.out.len]; omega)
            rw [ex0] at hq
            go_simp; try (with_reducible rfl)
          try simp only [Act.put, zA, zB, zC]
          refine tkA 8 (v := .bool false) ?_ ?_
          · intro W hSw; go_simp; try (with_reducible rfl)
          try simp only [Act.put, zA, zB, zC]
          refine tkC 9 ?_
          refine tkB 10 ?_
          refine tkB 11 ?_
          refine tkB 12 ?_
          refine tkB 13 ?_
          refine tkB 14 ?_
          refine tkB 15 ?_
          refine tkB 16 ?_
          refine tkB 17 ?_
          refine tkB 18 ?_
          refine tkB 19 ?_
          refine tkB 20 ?_
          refine tkB 21 ?_
          refine tkC 22 ?_
          refine wpAnyH_done (by kernel_rfl) ?_ _
          have HBD := Lib.hid (HBS.out.trans ((SB.b0 hHeld).mono HSB.out))
          clear hHeld
          go_wp2
          go_roundw
          case rel => exact ⟨i + 1, by omega, by go_num, HBD.out⟩
          case measure => simp [intOf]; omega
        · have qne : (m.id != x.id) = true := by simp [hme]
          obtain ⟨rfl, hym⟩ := HOY.out hme
          have HSSM := Lib.hid (fun W (h : Below W13.heap.size W13 W) => by
            have := sameSub_any (HRA.out.below stays_ci h) (HRQ.out.below stays_cm h) (ham.below stays_ci (R1.out W (HBS.out.trans (h.mono HSB.out)))) (hqm.below stays_cm (R1.out W (HBS.out.trans (h.mono HSB.out))))
            rw [decide_eq_true hym, ← HEE.out, ← HME.out] at this
            exact this : ∀ W (h : Below W13.heap.size W13 W), Calls Tryd.prog 16 #[.agg E.toArray, .agg M.toArray] W fun e w' => e = .returned (.bool true) ∧ Below W.heap.size W w')
          clear hme hym ham hqm
          go_wp2_with fail
          refine wp_region_held_drew (S := SB [W13]) (by kernel_rfl) (SB.start _) (fun hHeld => ?_)
          refine tkC 0 ?_
          refine tkA 1 (v := .slice (some ⟨b1, o1, none⟩) xs.length k1) ?_ ?_
          · intro W hSw; have hq := (F7.out W (HBS.out.trans ((SB.b0 hSw).mono HSB.out))).bx.cell (i := 3) (by rw [HS0.out.len]; omega)
            rw [e3] at hq
            go_simp; try (with_reducible rfl)
          try simp only [Act.put, zA, zB, zC]
          refine tkC 2 ?_
          refine tkA 3 (v := .pointer (some ⟨b1, o1 + i * 10, none⟩)) ?_ ?_
          · intro W hSw; go_simp; try (with_reducible rfl)
          try simp only [Act.put, zA, zB, zC]
          refine tkC 4 ?_
          refine tkA 5 (v := .int .i64 m.id) ?_ ?_
          · intro W hSw; have hq := (range_below HM0.out hb1l (R1.out W (HBS.out.trans ((SB.b0 hSw).mono HSB.out)))) 0 (.int .i64 m.id) (by rw [HME.out]; rfl)
            rw [Nat.add_zero] at hq
            go_simp; try (with_reducible rfl)
          try simp only [Act.put, zA, zB, zC]
          refine tkC 6 ?_
          refine tkA 7 (v := .int .i64 x.id) ?_ ?_
          · intro W hSw; have hq := (F8.out W (HBS.out.trans ((SB.b0 hSw).mono HSB.out))).bx.cell (i := 0) (by rw [HC.out.len]; omega)
            rw [ex0] at hq
            go_simp; try (with_reducible rfl)
          try simp only [Act.put, zA, zB, zC]
          refine tkA 8 (v := .bool true) ?_ ?_
          · intro W hSw; go_simp; try (with_reducible rfl)
          try simp only [Act.put, zA, zB, zC]
          refine tkC 9 ?_
          refine tkA 10 (v := .bool true) ?_ ?_
          · intro W hSw; go_simp; try (with_reducible rfl)
          try simp only [Act.put, zA, zB, zC]
          refine tkC 11 ?_
          refine tkC 12 ?_
          refine tkA 13 (v := .agg E.toArray) (fun W hSw => exec_load_mid 35 (.tmp 13) rfl wr.heap.size 0 rfl _ _ (HWE.out.range |> fun h => range_below h HWE.out.lt (SB.b0 hSw)) Tryd.underlying35 rfl HE.out.infoL) ?_
          try simp only [Act.put, zA, zB, zC]
          refine tkC 14 ?_
          refine tkA 15 (v := .slice (some ⟨b1, o1, none⟩) xs.length k1) ?_ ?_
          · intro W hSw; have hq := (F7.out W (HBS.out.trans ((SB.b0 hSw).mono HSB.out))).bx.cell (i := 3) (by rw [HS0.out.len]; omega)
            rw [e3] at hq
            go_simp; try (with_reducible rfl)
          try simp only [Act.put, zA, zB, zC]
          refine tkC 16 ?_
          refine tkA 17 (v := .pointer (some ⟨b1, o1 + i * 10, none⟩)) ?_ ?_
          · intro W hSw; go_simp; try (with_reducible rfl)
          try simp only [Act.put, zA, zB, zC]
          refine tkA 18 (v := .agg M.toArray) (fun W hSw => exec_load_mid 35 (.tmp 72) rfl b1 (o1 + i * 10) rfl _ _ (range_below HM0.out hb1l (R1.out W (HBS.out.trans ((SB.b0 hSw).mono HSB.out)))) Tryd.underlying35 rfl HM.out.infoL) ?_
          try simp only [Act.put, zA, zB, zC]
          refine rdA (rs := [19]) (arC (i := 19) fun K hK => ?_)
          go_simp
          refine (HSSM.out _ (SB.b0 hHeld)).mono ?_
          rintro e w6 ⟨rfl, hbw6⟩
          try (go_wp2_with fail)
          have hHeld' := SB.step hHeld hbw6
          refine hK.out _ _ ?_ (fun _ => ?_)
          · exact hHeld'
          clear hK K hHeld
          have hHeld := hHeld'
          clear hHeld'
          try simp only [Act.put, zA, zB, zC]
          refine tkC 20 ?_
          refine tkC 21 ?_
          refine tkC 22 ?_
          refine wpAnyH_done (by kernel_rfl) ?_ _
          have HBD := Lib.hid (HBS.out.trans ((SB.b0 hHeld).mono HSB.out))
          clear hHeld hbw6
          go_wp2
          go_roundw
          case rel => exact ⟨i + 1, by omega, by go_num, HBD.out⟩
          case measure => simp [intOf]; omega
    · have q1 : ¬ (i : Int) < (xs.length : Int) := by omega
      go_wp2_with fail
      clear c3
      have ec0 : S0[0]'(by rw [HS0.out.len]; omega) = .int .i64 c := by have := HSE.out; subst this; rfl
      have ec1 : S0[1]'(by rw [HS0.out.len]; omega) = .int .i64 n := by have := HSE.out; subst this; rfl
      refine wp_region_held_drew (S := SB [wr]) (by kernel_rfl) (SB.start _) (fun hHeld => ?_)
      refine rdA (rs := [0]) (arC (i := 0) fun K hK => ?_)
      go_simp
      refine (HP.out _ (RW.out _ (HBR.out.trans ((SB.b0 hHeld).mono HSW.out)))).mono ?_
      rintro e w6 ⟨rfl, hbw6⟩
      try (go_wp2_with fail)
      have hHeld' := SB.step hHeld hbw6
      refine hK.out _ _ ?_ (fun _ => ?_)
      · exact hHeld'
      clear hK K hHeld
      have hHeld := hHeld'
      clear hHeld'
      try simp only [Act.put, zA, zB, zC]
      refine tkC 1 ?_
      refine tkC 2 ?_
      refine tkC 3 ?_
      refine tkC 4 ?_
      refine tkA 5 (v := .agg C.toArray) (fun W hSw => exec_load_mid 35 (.tmp 8) rfl w2.heap.size 0 rfl _ _ ((F8.out W (HBR.out.trans ((SB.b0 hSw).mono HSW.out))).range) Tryd.underlying35 rfl HC.out.infoL) ?_
      try simp only [Act.put, zA, zB, zC]
      refine tkA 6 (v := .agg D.toArray) (fun W hSw => exec_load_mid 35 (.tmp 10) rfl w4.heap.size 0 rfl _ _ ((F10.out W (HBR.out.trans ((SB.b0 hSw).mono HSW.out))).range) Tryd.underlying35 rfl HD.out.infoL) ?_
      try simp only [Act.put, zA, zB, zC]
      refine rdA (rs := [7]) (arC (i := 7) fun K hK => ?_)
      have hss := sameSub_any (HA.out.below stays_ci (R2.out _ (HBR.out.trans ((SB.b0 hHeld).mono HSW.out)))) (HQ.out.below stays_cm (R2.out _ (HBR.out.trans ((SB.b0 hHeld).mono HSW.out)))) (HA4.out.below stays_ci (R4.out _ (HBR.out.trans ((SB.b0 hHeld).mono HSW.out)))) (HQ4.out.below stays_cm (R4.out _ (HBR.out.trans ((SB.b0 hHeld).mono HSW.out))))
      rw [decide_eq_true rfl, ← HCE.out, ← HDE.out] at hss
      go_simp
      refine hss.mono ?_
      clear hss
      rintro e w6 ⟨rfl, hbw6⟩
      try (go_wp2_with fail)
      have hHeld' := SB.step hHeld hbw6
      refine hK.out _ _ ?_ (fun _ => ?_)
      · exact hHeld'
      clear hK K hHeld
      have hHeld := hHeld'
      clear hHeld'
      try simp only [Act.put, zA, zB, zC]
      refine tkC 8 ?_
      refine tkC 9 ?_
      refine tkA 10 (v := .agg T0.toArray) (fun W hSw => exec_load_mid 24 (.tmp 9) rfl w3.heap.size 0 rfl _ _ ((F9.out W (HBR.out.trans ((SB.b0 hSw).mono HSW.out))).range) Tryd.underlying24 rfl HT0.out.infoL) ?_
      try simp only [Act.put, zA, zB, zC]
      refine tkC 11 ?_
      refine tkA 12 (v := .int .i64 x.id) ?_ ?_
      · intro W hSw; have hq := (F8.out W (HBR.out.trans ((SB.b0 hSw).mono HSW.out))).bx.cell (i := 0) (by rw [HC.out.len]; omega)
        rw [ex0] at hq
        go_simp; try (with_reducible rfl)
      try simp only [Act.put, zA, zB, zC]
      refine tkA 14 (v := .agg S0.toArray) (fun W hSw => exec_load_mid 24 (.tmp 7) rfl w1.heap.size 0 rfl _ _ ((F7.out W (HBR.out.trans ((SB.b0 hSw).mono HSW.out))).range) Tryd.underlying24 rfl HS0.out.infoL) ?_
      try simp only [Act.put, zA, zB, zC]
      refine tkC 15 ?_
      refine tkA 16 (v := .int .i64 x.id) ?_ ?_
      · intro W hSw; have hq := (F8.out W (HBR.out.trans ((SB.b0 hSw).mono HSW.out))).bx.cell (i := 0) (by rw [HC.out.len]; omega)
        rw [ex0] at hq
        go_simp; try (with_reducible rfl)
      try simp only [Act.put, zA, zB, zC]
      refine rdA (rs := [13]) (arC (i := 13) fun K hK => ?_)
      have hwo := withoutP_any c n la (.slice A3 (putS xs x).length k3) (putS xs x) x.id _ (HR3.out.below stays_cs (R3.out _ (HBR.out.trans ((SB.b0 hHeld).mono HSW.out)))) HSZ.out (by have := HPL.out; omega)
      rw [← HTE.out] at hwo
      go_simp
      refine hwo.mono ?_
      clear hwo
      rintro e w6 ⟨va, rfl, hona, hbw6⟩
      have hra := hona.rs
      clear hona
      try (go_wp2_with fail)
      have hHeld' := SB.step hHeld hbw6
      refine hK.out _ _ ?_ (fun _ => ?_)
      · exact hHeld'
      clear hK K hHeld
      have hHeld := hHeld'
      clear hHeld'
      try simp only [Act.put, zA, zB, zC]
      have HRA := Lib.hid hra
      have HWA := Lib.hid (Below.refl w6.heap.size w6)
      clear hra
      refine rdA (rs := [17]) (arC (i := 17) fun K hK => ?_)
      have hwo := withoutP_any c n la (.slice A1 xs.length k1) xs x.id w6 (HR1.out.below stays_cs (R1.out _ (HBR.out.trans ((SB.b0 hHeld).mono HSW.out)))) (fun y hy => (HMD.out.ok y hy).2.2.2.sized) (by omega)
      rw [← HSE.out] at hwo
      go_simp
      refine hwo.mono ?_
      clear hwo
      rintro e w7 ⟨vb, rfl, honb, hbw7⟩
      have hrb := honb.rs
      clear honb
      try (go_wp2_with fail)
      have hHeld' := SB.step hHeld hbw7
      refine hK.out _ _ ?_ (fun _ => ?_)
      · exact hHeld'
      clear hK K hHeld
      have hHeld := hHeld'
      clear hHeld'
      try simp only [Act.put, zA, zB, zC]
      have HRB := Lib.hid hrb
      have HRA7 := Lib.hid (HRA.out.below stays_cs hbw7)
      clear hrb
      refine rdA (rs := [18]) (arC (i := 18) fun K hK => ?_)
      have hsm := same_any (c := c) (n := n) (l := la) (c2 := c) (n2 := n) (l2 := la) HRA7.out HRB.out
      rw [decide_eq_true ⟨rfl, rfl, rfl, out_put⟩] at hsm
      go_simp
      refine hsm.mono ?_
      clear hsm
      rintro e w8 ⟨rfl, hbw8⟩
      try (go_wp2_with fail)
      have hHeld' := SB.step hHeld hbw8
      refine hK.out _ _ ?_ (fun _ => ?_)
      · exact hHeld'
      clear hK K hHeld
      have hHeld := hHeld'
      clear hHeld'
      try simp only [Act.put, zA, zB, zC]
      refine tkC 19 ?_
      refine tkC 20 ?_
      refine tkA 21 (v := .agg C.toArray) (fun W hSw => exec_load_mid 35 (.tmp 8) rfl w2.heap.size 0 rfl _ _ ((F8.out W (HBR.out.trans ((SB.b0 hSw).mono HSW.out))).range) Tryd.underlying35 rfl HC.out.infoL) ?_
      try simp only [Act.put, zA, zB, zC]
      refine tkC 22 ?_
      refine tkA 23 (v := .int .i64 c) ?_ ?_
      · intro W hSw; have hq := (F7.out W (HBR.out.trans ((SB.b0 hSw).mono HSW.out))).bx.cell (i := 0) (by rw [HS0.out.len]; omega)
        rw [ec0] at hq
        go_simp; try (with_reducible rfl)
      try simp only [Act.put, zA, zB, zC]
      refine tkC 24 ?_
      refine tkA 25 (v := .int .i64 n) ?_ ?_
      · intro W hSw; have hq := (F7.out W (HBR.out.trans ((SB.b0 hSw).mono HSW.out))).bx.cell (i := 1) (by rw [HS0.out.len]; omega)
        rw [ec1] at hq
        go_simp; try (with_reducible rfl)
      try simp only [Act.put, zA, zB, zC]
      refine rdA (rs := [26]) (arC (i := 26) fun K hK => ?_)
      have hgd := goodP_any x av qv c n _ (HA.out.below stays_ci (R2.out _ (HBR.out.trans ((SB.b0 hHeld).mono HSW.out)))) (HQ.out.below stays_cm (R2.out _ (HBR.out.trans ((SB.b0 hHeld).mono HSW.out)))) HGX.out.2.til HMD.out.c0 (by have := HMD.out.c1; omega)
      rw [HGX.out.1, ← HCE.out] at hgd
      go_simp
      refine hgd.mono ?_
      clear hgd
      rintro e w6 ⟨rfl, hbw6⟩
      try (go_wp2_with fail)
      have hHeld' := SB.step hHeld hbw6
      refine hK.out _ _ ?_ (fun _ => ?_)
      · exact hHeld'
      clear hK K hHeld
      have hHeld := hHeld'
      clear hHeld'
      try simp only [Act.put, zA, zB, zC]
      refine tkC 27 ?_
      refine tkC 28 ?_
      refine wpAnyH_done (by kernel_rfl) ?_ _
      have HEND := Lib.hid (RW.out _ (HBR.out.trans ((SB.b0 hHeld).mono HSW.out)))
      clear hHeld
      go_wp2
      go_ret
      exact ⟨rfl, HEND.out⟩
end Go.Proofs.YtcmkmdghekkkhaaDoor
