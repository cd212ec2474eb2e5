/-
  The walk of StateChanges (seat Z).
-/
import Derived.Test.YtjppomhfillflaaGreatDoorKCCC
import Derived.Test.YtjppomhfillflaaGreatDoorKCCD
import Derived.Test.YtjppomhfillflaaGreatDoorKCCE
import Derived.Test.YtjppomhfillflaaGreatDoorKCCJ
set_option linter.unusedVariables false
set_option linter.unusedVariables false
set_option linter.unusedSimpArgs false
namespace Go.Proofs.YtjppomhfillflaaGreatDoor
open Go.RowKit Go.Rst Go.Tp Go.Ts Go.Tk
set_option maxRecDepth 100000 in
set_option maxHeartbeats 16000000 in
theorem changes_walk (c n l c2 n2 l2 id next : Int) (v v2 av qv cv dv : Value) (xs ys : List Ts.Sub) (x : Ts.Sub) (lc ld : List UInt8) (k : Nat) (w : World) (h : RS w v xs) (hz : ∀ x ∈ xs, Sized x) (hxl : xs.length ≤ 977343669110) (h2 : RS w v2 ys) (ha : Go.Ts.RI w av x.acks) (hq : RM w qv x.queue) (hzx : Sized x) (hcv : RB w cv lc) (hlm : lc.length ≤ 140737488351232) (hdv : RB w dv ld) (hdm : ld.length ≤ 140737488351232) (hk : k ≤ 255) (hp : Pow w) :
    Calls Tryz.prog 3 #[.agg (stC c n l v).toArray, .agg (stC c2 n2 l2 v2).toArray, .agg (subC x av qv).toArray, .int .i64 id, .int .i64 next, cv, dv, .int .u8 k] w fun e w' => e = .returned (.bool true) ∧ Below w.heap.size w w' := by
  obtain ⟨A1, k1, rfl, hk1, hkm1⟩ := h.shape
  obtain ⟨A2, k2, rfl, hk2, hkm2⟩ := h2.shape
  obtain ⟨Aa, ka, rfl, _, ham⟩ := ha.shape
  obtain ⟨Aq, kq, rfl, _, hqm⟩ := hq.shape
  unfold maxLen at hkm1 hkm2 ham hqm
  have HR := Lib.hid h
  have HR2 := Lib.hid h2
  have HA := Lib.hid ha
  have HQ := Lib.hid hq
  have HZ := Lib.hid hz
  have HZX := Lib.hid hzx
  have HXL := Lib.hid hxl
  have HCV := Lib.hid hcv
  have HDV := Lib.hid hdv
  have HP := Lib.hid (fun W (h : Below w.heap.size w W) => known_any W (hp.below h))
  obtain ⟨S0, hS0⟩ : ∃ S0, S0 = stC c n l (.slice A1 xs.length k1) := ⟨_, rfl⟩
  obtain ⟨T0, hT0⟩ : ∃ T0, T0 = stC c2 n2 l2 (.slice A2 ys.length k2) := ⟨_, rfl⟩
  have HS0 := Lib.hid (show Cut S0 by rw [hS0]; exact Cut.mk_ c n l (rl_one h))
  have HT0 := Lib.hid (show Cut T0 by rw [hT0]; exact Cut.mk_ c2 n2 l2 (rl_one h2))
  obtain ⟨C, hC⟩ : ∃ C, C = subC x (.slice Aa x.acks.length ka) (.slice Aq x.queue.length kq) := ⟨_, rfl⟩
  have HC := Lib.hid (show Cub C by rw [hC]; exact Cub.mk_ x (rl_one ha) (rl_one hq))
  have HSE := Lib.hid hS0
  have HTE := Lib.hid hT0
  have HCE := Lib.hid hC
  rw [← hS0, ← hT0, ← hC]
  clear h h2 ha hq hz hzx hxl hS0 hT0 hC hcv hdv hp
  obtain ⟨W0, hW0⟩ : ∃ W0, W0 = ((w.alloc (.cells S0.toArray 24)).alloc (.cells T0.toArray 24)).alloc (.cells C.toArray 28) := ⟨_, rfl⟩
  have hb0 : Below w.heap.size w W0 := by rw [hW0]; exact (((Below.refl w.heap.size w).alloc (Nat.le_refl _) _).alloc (by simp) _).alloc (by simp; omega) _
  have hs0 : Wh W0 w.heap.size S0 24 := by rw [hW0]; exact ((Wh.new w S0 24).alloc _).alloc _
  have ht0 : Wh W0 (w.heap.size + 1) T0 24 := by
    rw [hW0]
    have := (Wh.new (w.alloc (.cells S0.toArray 24)) T0 24).alloc (.cells C.toArray 28)
    rwa [World.size_alloc] at this
  have hx0 : Wh W0 (w.heap.size + 2) C 28 := by
    rw [hW0]
    have := Wh.new ((w.alloc (.cells S0.toArray 24)).alloc (.cells T0.toArray 24)) C 28
    rwa [World.size_alloc, World.size_alloc] at this
  have hz0 : W0.heap.size = w.heap.size + 3 := by rw [hW0]; simp
  have HB0 := Lib.hid hb0
  have HS := Lib.hid hs0
  have HT := Lib.hid ht0
  have HX := Lib.hid hx0
  have HZ0 := Lib.hid hz0
  have HW0 := Lib.hid hW0
  clear hW0 hb0 hs0 ht0 hx0 hz0
  go_enter Tryz.func3, Tryz.ntmps3
  go_wp2_with fail
  rw [← HW0.out]
  refine wp_region_held_drew (S := SB [W0]) (by kernel_rfl) (SB.start _) (fun hHeld => ?_)
  refine tkA 0 (v := .agg S0.toArray) (fun W hSw => exec_load_mid 24 (.tmp 8) rfl w.heap.size 0 rfl _ _ ((HS.out.below (SB.b0 hSw)).range) Tryz.underlying24 rfl HS0.out.infoL) ?_
  try simp only [Act.put, zA, zB, zC]
  refine tkA 2 (v := .agg T0.toArray) (fun W hSw => exec_load_mid 24 (.tmp 9) rfl (w.heap.size + 1) 0 rfl _ _ ((HT.out.below (SB.b0 hSw)).range) Tryz.underlying24 rfl HT0.out.infoL) ?_
  try simp only [Act.put, zA, zB, zC]
  refine rdA (rs := [1]) (arC (i := 1) fun K hK => ?_)
  have hl := long_some c n l (.slice A1 xs.length k1) xs _ (HR.out.below stays_cs (HB0.out.trans ((SB.b0 hHeld).mono HB0.out.size)))
  rw [← HSE.out] at hl
  go_simp
  refine hl.mono ?_
  clear hl
  rintro e w6 ⟨⟨z1, rfl⟩, hbw6⟩
  try (go_wp2_with fail)
  have hHeld' := SB.step hHeld hbw6
  refine hK.out _ _ ?_ (fun _ => ?_)
  · exact hHeld'
  clear hK K hHeld
  have hHeld := hHeld'
  clear hHeld'
  try simp only [Act.put, zA, zB, zC]
  refine rdA (rs := [3]) (arC (i := 3) fun K hK => ?_)
  have hl := long_some c2 n2 l2 (.slice A2 ys.length k2) ys _ (HR2.out.below stays_cs (HB0.out.trans ((SB.b0 hHeld).mono HB0.out.size)))
  rw [← HTE.out] at hl
  go_simp
  refine hl.mono ?_
  clear hl
  rintro e w6 ⟨⟨z2, rfl⟩, hbw6⟩
  try (go_wp2_with fail)
  have hHeld' := SB.step hHeld hbw6
  refine hK.out _ _ ?_ (fun _ => ?_)
  · exact hHeld'
  clear hK K hHeld
  have hHeld := hHeld'
  clear hHeld'
  try simp only [Act.put, zA, zB, zC]
  obtain ⟨zs, hzs⟩ : ∃ zs, zs = IntKind.wrap .i64 (z1 + z2) := ⟨_, rfl⟩
  have HZs := Lib.hid hzs
  clear hzs
  refine tkA 4 (v := .int .i64 zs) ?_ ?_
  · intro W hSw; go_simp; first | done | exact HZs.out.symm | (rw [HZs.out])
  try simp only [Act.put, zA, zB, zC]
  have e7 : C[7]'(by rw [HC.out.len]; omega) = .slice Aa x.acks.length ka := by have := HCE.out; subst this; rfl
  have e8 : C[8]'(by rw [HC.out.len]; omega) = .slice Aq x.queue.length kq := by have := HCE.out; subst this; rfl
  by_cases q9 : 900 < zs
  · refine tkA 5 (v := .bool true) ?_ ?_
    · intro W hSw; go_simp; first | done | (simp; omega)
    try simp only [Act.put, zA, zB, zC]
    refine tkC 6 ?_
    refine tkB 7 ?_
    refine tkB 8 ?_
    refine tkB 9 ?_
    refine tkB 10 ?_
    refine tkB 11 ?_
    refine tkB 12 ?_
    refine tkB 13 ?_
    refine tkB 14 ?_
    refine tkC 15 ?_
    refine tkC 16 ?_
    refine tkB 17 ?_
    refine tkB 18 ?_
    refine tkC 19 ?_
    refine wpAnyH_done (by kernel_rfl) ?_ _
    have HEW := Lib.hid (HB0.out.trans ((SB.b0 hHeld).mono HB0.out.size))
    clear hHeld
    go_wp2_with fail
    refine (HP.out _ HEW.out).mono ?_
    rintro e w6 ⟨rfl, hbw6⟩
    go_wp2
    go_ret
    exact ⟨rfl, HEW.out.trans (hbw6.mono HEW.out.size)⟩
  · refine tkA 5 (v := .bool false) ?_ ?_
    · intro W hSw; go_simp; first | done | (simp; omega)
    try simp only [Act.put, zA, zB, zC]
    refine tkC 6 ?_
    refine tkC 7 ?_
    refine tkA 8 (v := .slice Aa x.acks.length ka) ?_ ?_
    · intro W hSw; have hq := (HX.out.below (SB.b0 hSw)).bx.cell (i := 7) (by rw [HC.out.len]; omega)
      rw [e7] at hq
      go_simp; try (with_reducible rfl)
    try simp only [Act.put, zA, zB, zC]
    refine tkA 9 (v := .int .i64 (x.acks.length : Nat)) ?_ ?_
    · intro W hSw; go_simp; try (first | done | simp)
    try simp only [Act.put, zA, zB, zC]
    refine tkC 10 ?_
    refine tkA 11 (v := .slice Aq x.queue.length kq) ?_ ?_
    · intro W hSw; have hq := (HX.out.below (SB.b0 hSw)).bx.cell (i := 8) (by rw [HC.out.len]; omega)
      rw [e8] at hq
      go_simp; try (with_reducible rfl)
    try simp only [Act.put, zA, zB, zC]
    refine tkA 12 (v := .int .i64 (x.queue.length : Nat)) ?_ ?_
    · intro W hSw; go_simp; try (first | done | simp)
    try simp only [Act.put, zA, zB, zC]
    obtain ⟨zz, hzz⟩ : ∃ zz, zz = IntKind.wrap .i64 ((x.acks.length : Int) + (x.queue.length : Int)) := ⟨_, rfl⟩
    have HZz := Lib.hid hzz
    clear hzz
    refine tkA 13 (v := .int .i64 zz) ?_ ?_
    · intro W hSw; go_simp; first | done | exact HZz.out.symm | (rw [HZz.out])
    try simp only [Act.put, zA, zB, zC]
    by_cases q6 : 60 < zz
    · refine tkA 14 (v := .bool true) ?_ ?_
      · intro W hSw; go_simp; first | done | (simp; omega)
      try simp only [Act.put, zA, zB, zC]
      refine tkC 15 ?_
      refine tkC 16 ?_
      refine tkB 17 ?_
      refine tkB 18 ?_
      refine tkC 19 ?_
      refine wpAnyH_done (by kernel_rfl) ?_ _
      have HEW := Lib.hid (HB0.out.trans ((SB.b0 hHeld).mono HB0.out.size))
      clear hHeld
      go_wp2_with fail
      refine (HP.out _ HEW.out).mono ?_
      rintro e w6 ⟨rfl, hbw6⟩
      go_wp2
      go_ret
      exact ⟨rfl, HEW.out.trans (hbw6.mono HEW.out.size)⟩
    · refine tkA 14 (v := .bool false) ?_ ?_
      · intro W hSw; go_simp; first | done | (simp; omega)
      try simp only [Act.put, zA, zB, zC]
      refine tkC 15 ?_
      refine tkC 16 ?_
      refine rdA (rs := [17]) (arC (i := 17) fun K hK => ?_)
      have hp := HP.out _ (HB0.out.trans ((SB.b0 hHeld).mono HB0.out.size))
      go_simp
      refine hp.mono ?_
      clear hp
      rintro e w6 ⟨rfl, hbw6⟩
      try (go_wp2_with fail)
      have hHeld' := SB.step hHeld hbw6
      refine hK.out _ _ ?_ (fun _ => ?_)
      · exact hHeld'
      clear hK K hHeld
      have hHeld := hHeld'
      clear hHeld'
      try simp only [Act.put, zA, zB, zC]
      refine tkA 18 (v := .bool false) ?_ ?_
      · intro W hSw; go_simp; first | done | simp
      try simp only [Act.put, zA, zB, zC]
      refine tkC 19 ?_
      refine wpAnyH_done (by kernel_rfl) ?_ _
      have HEW := Lib.hid (SB.b0 hHeld)
      have HQ6 := Lib.hid (show x.acks.length ≤ 60 by
        have h1 := HZX.out.1
        have h2 := HZX.out.2
        have h3 := HZz.out
        rw [IntKind.wrap_i64] at h3
        omega)
      clear hHeld HZz HZs q6 q9
      go_wp2_with fail
      refine (state_any cv lc _ (HCV.out.below (HB0.out.trans (HEW.out.mono HB0.out.size))) hlm).mono ?_
      rintro e w7 ⟨c7, n7, l7, v7, xs7, rfl, hr7, hb7, hm7, hl7⟩
      obtain ⟨T7, hT7⟩ : ∃ T7, T7 = stC c7 n7 l7 v7 := ⟨_, rfl⟩
      have HT7 := Lib.hid (show Cut T7 by rw [hT7]; exact Cut.mk_ c7 n7 l7 (rl_one hr7))
      have HT7E := Lib.hid hT7
      rw [← hT7]
      clear hT7
      have H07 := Lib.hid (show Below W0.heap.size W0 (boxT w7 T7) from (HEW.out.trans (hb7.mono HEW.out.size)).trans ((boxT_below w7 T7).mono (Nat.le_trans HEW.out.size hb7.size)))
      have HR7 := Lib.hid (hr7.below stays_cs (boxT_below w7 T7))
      have HM7 := Lib.hid hm7
      have HL7 := Lib.hid hl7
      have HU7 := Lib.hid (boxT_wh w7 T7)
      have u0 := HU7.out.bx.cell (i := 0) (by rw [HT7.out.len]; omega)
      have u1 := HU7.out.bx.cell (i := 1) (by rw [HT7.out.len]; omega)
      have e0 : T7[0]'(by rw [HT7.out.len]; omega) = .int .i64 c7 := by have := HT7E.out; subst this; rfl
      have e1 : T7[1]'(by rw [HT7.out.len]; omega) = .int .i64 n7 := by have := HT7E.out; subst this; rfl
      rw [e0] at u0
      rw [e1] at u1
      clear e0 e1 hr7 hb7 hl7
      have g0 := hm7.n0
      have g1 := hm7.n1
      have g2 := hm7.c0
      have g3 := hm7.c1
      clear hm7
      have k7 : (k : Int).tmod 7 = (k : Int) % 7 := Int.tmod_eq_emod_of_nonneg (by omega)
      have k70 : 0 ≤ (k : Int) % 7 := by omega
      have k71 : (k : Int) % 7 < 7 := by omega
      go_wp2_with (first | (refine wpList_store_row rfl 24 (.tmp 17) (.tmp 41) rfl w7.heap.size T7.toArray rfl rfl 24 #[.int .i64 0, .int .i64 0, .int .i64 0, .slice none 0 0] (boxT_old w7) HT7.out.info HT7.out.old HT7.out.all ?_; rw [boxT_def]))
      refine (sub_any (1 + (k : Int) % 7) c7 n7 g0 (by omega) g2 (by omega) (HDV.out.below (HB0.out.trans (H07.out.mono HB0.out.size)))).mono ?_
      rintro e w8 ⟨y, ya, yq, rfl, hya, hyq, hb8, _, _, hy1, hy2, _⟩
      obtain ⟨Y, hY⟩ : ∃ Y, Y = subC y ya yq := ⟨_, rfl⟩
      have HY := Lib.hid (show Cub Y by rw [hY]; exact Cub.mk_ y (rl_one hya) (rl_one hyq))
      have HYE := Lib.hid hY
      rw [← hY]
      clear hY u0 u1 k7 k70 k71
      have hv7 : Below (boxT w7 T7).heap.size (boxT w7 T7) (boxW w8 Y) := hb8.trans ((box_below w8 Y).mono hb8.size)
      have hv0 : Below W0.heap.size W0 (boxW w8 Y) := H07.out.trans (hv7.mono H07.out.size)
      have HU8 := Lib.hid (HU7.out.below hv7)
      have HR8 := Lib.hid (HR7.out.below stays_cs hv7)
      have HYA := Lib.hid (hya.below stays_ci (box_below w8 Y))
      have HYQ := Lib.hid (hyq.below stays_cm (box_below w8 Y))
      have HYZ := Lib.hid (show Sized y from Sized.few (by omega) (by omega))
      have HYL := Lib.hid hy1
      have HYW := Lib.hid (box_wh w8 Y)
      have HV0 := Lib.hid hv0
      clear hya hyq hb8 hy1 hy2 hv7 hv0 HU7 HR7 H07
      go_wp2_with (first | (refine wpList_store_row rfl 28 (.tmp 18) (.tmp 51) rfl w8.heap.size Y.toArray rfl rfl 28 #[.int .i64 0, .string ⟨#[]⟩, .string ⟨#[]⟩, .string ⟨#[]⟩, .int .i64 0, .int .i64 0, .int .i64 0, .slice none 0 0, .slice none 0 0, .string ⟨#[]⟩] (box_old w8) HY.out.info HY.out.old HY.out.all ?_; rw [box_def]))
      obtain ⟨V, hV⟩ : ∃ V, V = boxW w8 Y := ⟨_, rfl⟩
      rw [← hV] at HU8 HR8 HYA HYQ HYW HV0 ⊢
      clear hV
      have HSV := Lib.hid (HS.out.below HV0.out)
      have HTV := Lib.hid (HT.out.below HV0.out)
      have HXV := Lib.hid (HX.out.below HV0.out)
      have HWV := Lib.hid (HB0.out.trans (HV0.out.mono HB0.out.size))
      have HRV := Lib.hid (HR.out.below stays_cs HWV.out)
      have HR2V := Lib.hid (HR2.out.below stays_cs HWV.out)
      have HAV := Lib.hid (HA.out.below stays_ci HWV.out)
      have HQV := Lib.hid (HQ.out.below stays_cm HWV.out)
      have HDVV := Lib.hid (HDV.out.below HWV.out)
      have HZ7 := Lib.hid (show ∀ z ∈ xs7, Sized z from fun z hz => Sized.few (by have := (HM7.out.ok z hz).2.2.2.al; omega) (by have := (HM7.out.ok z hz).2.2.2.ql; omega))
      obtain ⟨r1, hr1⟩ : ∃ r1, r1 = decide (c = c2 ∧ n = n2 ∧ l = l2 ∧ xs = ys) := ⟨_, rfl⟩
      obtain ⟨r2, hr2⟩ : ∃ r2, r2 = decide (c7 = stCl ld ∧ n7 = stNx ld ∧ l7 = stLa ld ∧ xs7 = stLs ld) := ⟨_, rfl⟩
      have HD1 := Lib.hid hr1
      have HD2 := Lib.hid hr2
      clear hr1 hr2 HEW HB0 HV0
      have k9 : (k : Int).tmod 9 = (k : Int) % 9 := Int.tmod_eq_emod_of_nonneg (by omega)
      have k90 : 0 ≤ (k : Int) % 9 := by omega
      have k91 : (k : Int) % 9 < 9 := by omega
      have w9 : IntKind.i64.wrap ((k : Int) % 9) = (k : Int) % 9 := by rw [IntKind.wrap_i64]; omega
      have wk : IntKind.i64.wrap (k : Int) = (k : Int) := by rw [IntKind.wrap_i64]; omega
      have t71 : T7[1]'(by rw [HT7.out.len]; omega) = .int .i64 n7 := by have := HT7E.out; subst this; rfl
      refine wp_region_held_drew (S := SB [V]) (by kernel_rfl) (SB.start _) (fun hHeld => ?_)
      refine tkA 0 (v := .agg S0.toArray) (fun W hSw => exec_load_mid 24 (.tmp 8) rfl w.heap.size 0 rfl _ _ ((HSV.out.below (SB.b0 hSw)).range) Tryz.underlying24 rfl HS0.out.infoL) ?_
      try simp only [Act.put, zA, zB, zC]
      refine tkA 1 (v := .agg C.toArray) (fun W hSw => exec_load_mid 28 (.tmp 10) rfl (w.heap.size + 2) 0 rfl _ _ ((HXV.out.below (SB.b0 hSw)).range) Tryz.underlying28 rfl HC.out.infoL) ?_
      try simp only [Act.put, zA, zB, zC]
      refine tkC 2 ?_
      refine tkC 3 ?_
      refine rdA (rs := [4]) (arC (i := 4) fun K hK => ?_)
      have hch := changes_any c n l id next (.slice A1 xs.length k1) xs x (.slice Aa x.acks.length ka) (.slice Aq x.queue.length kq) _ (HRV.out.below stays_cs (SB.b0 hHeld)) HZ.out HXL.out (HAV.out.below stays_ci (SB.b0 hHeld)) (HQV.out.below stays_cm (SB.b0 hHeld)) HZX.out (by have := HQ6.out; omega)
      rw [← HSE.out, ← HCE.out] at hch
      go_simp
      refine hch.mono ?_
      clear hch
      rintro e w9 ⟨rfl, hbw9⟩
      try (go_wp2_with fail)
      have hHeld' := SB.step hHeld hbw9
      refine hK.out _ _ ?_ (fun _ => ?_)
      · exact hHeld'
      clear hK K hHeld
      have hHeld := hHeld'
      clear hHeld'
      try simp only [Act.put, zA, zB, zC]
      refine tkC 5 ?_
      refine tkA 6 (v := .agg T7.toArray) (fun W hSw => exec_load_mid 24 (.tmp 17) rfl w7.heap.size 0 rfl _ _ ((HU8.out.below (SB.b0 hSw)).range) Tryz.underlying24 rfl HT7.out.infoL) ?_
      try simp only [Act.put, zA, zB, zC]
      refine tkA 7 (v := .agg Y.toArray) (fun W hSw => exec_load_mid 28 (.tmp 18) rfl w8.heap.size 0 rfl _ _ ((HYW.out.below (SB.b0 hSw)).range) Tryz.underlying28 rfl HY.out.infoL) ?_
      try simp only [Act.put, zA, zB, zC]
      refine tkC 8 ?_
      refine tkA 9 (v := .int .u8 ((k : Int) % 9)) ?_ ?_
      · intro W hSw; go_simp; try (first | done | (simp; omega))
      try simp only [Act.put, zA, zB, zC]
      refine tkA 10 (v := .int .i64 ((k : Int) % 9)) ?_ ?_
      · intro W hSw; go_simp; try (first | done | (simp; omega))
      try simp only [Act.put, zA, zB, zC]
      refine tkC 11 ?_
      refine tkA 12 (v := .int .i64 n7) ?_ ?_
      · intro W hSw; have hq := (HU8.out.below (SB.b0 hSw)).bx.cell (i := 1) (by rw [HT7.out.len]; omega)
        rw [t71] at hq
        go_simp; try (with_reducible rfl)
      try simp only [Act.put, zA, zB, zC]
      refine rdA (rs := [13]) (arC (i := 13) fun K hK => ?_)
      have hch := changes_any c7 n7 l7 ((k : Int) % 9) n7 v7 xs7 y ya yq _ (HR8.out.below stays_cs (SB.b0 hHeld)) HZ7.out (by have := HL7.out; omega) (HYA.out.below stays_ci (SB.b0 hHeld)) (HYQ.out.below stays_cm (SB.b0 hHeld)) HYZ.out (by have := HYL.out; omega)
      rw [← HT7E.out, ← HYE.out] at hch
      go_simp
      refine hch.mono ?_
      clear hch
      rintro e w10 ⟨rfl, hbw10⟩
      try (go_wp2_with fail)
      have hHeld' := SB.step hHeld hbw10
      refine hK.out _ _ ?_ (fun _ => ?_)
      · exact hHeld'
      clear hK K hHeld
      have hHeld := hHeld'
      clear hHeld'
      try simp only [Act.put, zA, zB, zC]
      refine tkC 14 ?_
      refine tkC 15 ?_
      refine tkA 16 (v := .agg T7.toArray) (fun W hSw => exec_load_mid 24 (.tmp 17) rfl w7.heap.size 0 rfl _ _ ((HU8.out.below (SB.b0 hSw)).range) Tryz.underlying24 rfl HT7.out.infoL) ?_
      try simp only [Act.put, zA, zB, zC]
      refine tkA 17 (v := .agg C.toArray) (fun W hSw => exec_load_mid 28 (.tmp 10) rfl (w.heap.size + 2) 0 rfl _ _ ((HXV.out.below (SB.b0 hSw)).range) Tryz.underlying28 rfl HC.out.infoL) ?_
      try simp only [Act.put, zA, zB, zC]
      refine tkC 18 ?_
      refine tkC 19 ?_
      refine tkA 20 (v := .int .i64 (k : Nat)) ?_ ?_
      · intro W hSw; go_simp; try (first | done | (simp; omega))
      try simp only [Act.put, zA, zB, zC]
      refine rdA (rs := [21]) (arC (i := 21) fun K hK => ?_)
      have hch := changes_any c7 n7 l7 id (k : Nat) v7 xs7 x (.slice Aa x.acks.length ka) (.slice Aq x.queue.length kq) _ (HR8.out.below stays_cs (SB.b0 hHeld)) HZ7.out (by have := HL7.out; omega) (HAV.out.below stays_ci (SB.b0 hHeld)) (HQV.out.below stays_cm (SB.b0 hHeld)) HZX.out (by have := HQ6.out; omega)
      rw [← HT7E.out, ← HCE.out] at hch
      go_simp
      refine hch.mono ?_
      clear hch
      rintro e w11 ⟨rfl, hbw11⟩
      try (go_wp2_with fail)
      have hHeld' := SB.step hHeld hbw11
      refine hK.out _ _ ?_ (fun _ => ?_)
      · exact hHeld'
      clear hK K hHeld
      have hHeld := hHeld'
      clear hHeld'
      try simp only [Act.put, zA, zB, zC]
      refine tkC 22 ?_
      refine tkC 23 ?_
      refine tkA 24 (v := .agg S0.toArray) (fun W hSw => exec_load_mid 24 (.tmp 8) rfl w.heap.size 0 rfl _ _ ((HSV.out.below (SB.b0 hSw)).range) Tryz.underlying24 rfl HS0.out.infoL) ?_
      try simp only [Act.put, zA, zB, zC]
      refine tkA 25 (v := .agg T0.toArray) (fun W hSw => exec_load_mid 24 (.tmp 9) rfl (w.heap.size + 1) 0 rfl _ _ ((HTV.out.below (SB.b0 hSw)).range) Tryz.underlying24 rfl HT0.out.infoL) ?_
      try simp only [Act.put, zA, zB, zC]
      refine tkA 27 (v := .agg S0.toArray) (fun W hSw => exec_load_mid 24 (.tmp 8) rfl w.heap.size 0 rfl _ _ ((HSV.out.below (SB.b0 hSw)).range) Tryz.underlying24 rfl HS0.out.infoL) ?_
      try simp only [Act.put, zA, zB, zC]
      refine tkA 28 (v := .agg T0.toArray) (fun W hSw => exec_load_mid 24 (.tmp 9) rfl (w.heap.size + 1) 0 rfl _ _ ((HTV.out.below (SB.b0 hSw)).range) Tryz.underlying24 rfl HT0.out.infoL) ?_
      try simp only [Act.put, zA, zB, zC]
      refine rdA (rs := [26]) (arC (i := 26) fun K hK => ?_)
      have hss := sameS_any (c := c) (n := n) (l := l) (c2 := c2) (n2 := n2) (l2 := l2) (HRV.out.below stays_cs (SB.b0 hHeld)) (HR2V.out.below stays_cs (SB.b0 hHeld))
      rw [← HSE.out, ← HTE.out, ← HD1.out] at hss
      go_simp
      refine hss.mono ?_
      clear hss
      rintro e w12 ⟨rfl, hbw12⟩
      try (go_wp2_with fail)
      have hHeld' := SB.step hHeld hbw12
      refine hK.out _ _ ?_ (fun _ => ?_)
      · exact hHeld'
      clear hK K hHeld
      have hHeld := hHeld'
      clear hHeld'
      try simp only [Act.put, zA, zB, zC]
      refine rdA (rs := [29]) (arC (i := 29) fun K hK => ?_)
      have hss := same_any (c := c) (n := n) (l := l) (c2 := c2) (n2 := n2) (l2 := l2) (HRV.out.below stays_cs (SB.b0 hHeld)) (HR2V.out.below stays_cs (SB.b0 hHeld))
      rw [← HSE.out, ← HTE.out, ← HD1.out] at hss
      go_simp
      refine hss.mono ?_
      clear hss
      rintro e w13 ⟨rfl, hbw13⟩
      try (go_wp2_with fail)
      have hHeld' := SB.step hHeld hbw13
      refine hK.out _ _ ?_ (fun _ => ?_)
      · exact hHeld'
      clear hK K hHeld
      have hHeld := hHeld'
      clear hHeld'
      try simp only [Act.put, zA, zB, zC]
      refine tkA 30 (v := .bool true) ?_ ?_
      · intro W hSw; go_simp; try (first | done | (cases r1 <;> rfl) | simp)
      try simp only [Act.put, zA, zB, zC]
      refine tkC 31 ?_
      refine tkC 32 ?_
      refine tkA 33 (v := .agg T7.toArray) (fun W hSw => exec_load_mid 24 (.tmp 17) rfl w7.heap.size 0 rfl _ _ ((HU8.out.below (SB.b0 hSw)).range) Tryz.underlying24 rfl HT7.out.infoL) ?_
      try simp only [Act.put, zA, zB, zC]
      refine tkC 34 ?_
      refine tkA 37 (v := .agg T7.toArray) (fun W hSw => exec_load_mid 24 (.tmp 17) rfl w7.heap.size 0 rfl _ _ ((HU8.out.below (SB.b0 hSw)).range) Tryz.underlying24 rfl HT7.out.infoL) ?_
      try simp only [Act.put, zA, zB, zC]
      refine tkC 38 ?_
      refine rdA (rs := [35]) (arC (i := 35) fun K hK => ?_)
      go_simp
      refine (state_exact dv ld _ (HDVV.out.below (SB.b0 hHeld)) hdm).mono ?_
      rintro e w14 ⟨v14, rfl, hr14, hbw14, _, _⟩
      obtain ⟨T8, hT⟩ : ∃ T, T = stC (stCl ld) (stNx ld) (stLa ld) v14 := ⟨_, rfl⟩
      have HT8 := Lib.hid hT
      have HT8R := Lib.hid hr14
      rw [← hT]
      clear hT hr14
      try (go_wp2_with fail)
      have hHeld' := SB.step hHeld hbw14
      refine hK.out _ _ ?_ (fun _ => ?_)
      · exact hHeld'
      clear hK K hHeld
      have hHeld := hHeld'
      clear hHeld'
      try simp only [Act.put, zA, zB, zC]
      refine rdA (rs := [36]) (arC (i := 36) fun K hK => ?_)
      have hss := sameS_any (c := c7) (n := n7) (l := l7) (c2 := stCl ld) (n2 := stNx ld) (l2 := stLa ld) (HR8.out.below stays_cs (SB.b0 hHeld)) HT8R.out
      rw [← HT7E.out, ← HT8.out, ← HD2.out] at hss
      go_simp
      refine hss.mono ?_
      clear hss
      rintro e w15 ⟨rfl, hbw15⟩
      try (go_wp2_with fail)
      have hHeld' := SB.step hHeld hbw15
      refine hK.out _ _ ?_ (fun _ => ?_)
      · exact hHeld'
      clear hK K hHeld
      have hHeld := hHeld'
      clear hHeld'
      try simp only [Act.put, zA, zB, zC]
      refine rdA (rs := [39]) (arC (i := 39) fun K hK => ?_)
      go_simp
      refine (state_exact dv ld _ (HDVV.out.below (SB.b0 hHeld)) hdm).mono ?_
      rintro e w16 ⟨v16, rfl, hr16, hbw16, _, _⟩
      obtain ⟨T9, hT⟩ : ∃ T, T = stC (stCl ld) (stNx ld) (stLa ld) v16 := ⟨_, rfl⟩
      have HT9 := Lib.hid hT
      have HT9R := Lib.hid hr16
      rw [← hT]
      clear hT hr16
      try (go_wp2_with fail)
      have hHeld' := SB.step hHeld hbw16
      refine hK.out _ _ ?_ (fun _ => ?_)
      · exact hHeld'
      clear hK K hHeld
      have hHeld := hHeld'
      clear hHeld'
      try simp only [Act.put, zA, zB, zC]
      refine rdA (rs := [40]) (arC (i := 40) fun K hK => ?_)
      have hss := same_any (c := c7) (n := n7) (l := l7) (c2 := stCl ld) (n2 := stNx ld) (l2 := stLa ld) (HR8.out.below stays_cs (SB.b0 hHeld)) HT9R.out
      rw [← HT7E.out, ← HT9.out, ← HD2.out] at hss
      go_simp
      refine hss.mono ?_
      clear hss
      rintro e w17 ⟨rfl, hbw17⟩
      try (go_wp2_with fail)
      have hHeld' := SB.step hHeld hbw17
      refine hK.out _ _ ?_ (fun _ => ?_)
      · exact hHeld'
      clear hK K hHeld
      have hHeld := hHeld'
      clear hHeld'
      try simp only [Act.put, zA, zB, zC]
      refine tkA 41 (v := .bool true) ?_ ?_
      · intro W hSw; go_simp; try (first | done | (cases r2 <;> rfl) | simp)
      try simp only [Act.put, zA, zB, zC]
      refine tkC 42 ?_
      refine tkC 43 ?_
      refine tkA 44 (v := .agg T7.toArray) (fun W hSw => exec_load_mid 24 (.tmp 17) rfl w7.heap.size 0 rfl _ _ ((HU8.out.below (SB.b0 hSw)).range) Tryz.underlying24 rfl HT7.out.infoL) ?_
      try simp only [Act.put, zA, zB, zC]
      refine tkA 45 (v := .agg T7.toArray) (fun W hSw => exec_load_mid 24 (.tmp 17) rfl w7.heap.size 0 rfl _ _ ((HU8.out.below (SB.b0 hSw)).range) Tryz.underlying24 rfl HT7.out.infoL) ?_
      try simp only [Act.put, zA, zB, zC]
      refine rdA (rs := [46]) (arC (i := 46) fun K hK => ?_)
      have hss := sameS_any (c := c7) (n := n7) (l := l7) (c2 := c7) (n2 := n7) (l2 := l7) (HR8.out.below stays_cs (SB.b0 hHeld)) (HR8.out.below stays_cs (SB.b0 hHeld))
      rw [decide_eq_true ⟨rfl, rfl, rfl, rfl⟩, ← HT7E.out] at hss
      go_simp
      refine hss.mono ?_
      clear hss
      rintro e w18 ⟨rfl, hbw18⟩
      try (go_wp2_with fail)
      have hHeld' := SB.step hHeld hbw18
      refine hK.out _ _ ?_ (fun _ => ?_)
      · exact hHeld'
      clear hK K hHeld
      have hHeld := hHeld'
      clear hHeld'
      try simp only [Act.put, zA, zB, zC]
      refine tkC 47 ?_
      refine tkC 48 ?_
      refine wpAnyH_done (by kernel_rfl) ?_ _
      have HEND := Lib.hid (HWV.out.trans ((SB.b0 hHeld).mono HWV.out.size))
      clear hHeld
      go_wp2
      go_ret
      exact ⟨rfl, HEND.out⟩
end Go.Proofs.YtjppomhfillflaaGreatDoor
