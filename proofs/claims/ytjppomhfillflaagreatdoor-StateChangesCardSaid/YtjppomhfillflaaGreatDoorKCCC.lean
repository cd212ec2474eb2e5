/-
  The statements' own changes (layer state; seat Z).
-/
import Derived.Test.YtjppomhfillflaaGreatDoorKCBE
import Derived.Test.YtjppomhfillflaaGreatDoorKCBF
import Derived.Test.YtjppomhfillflaaGreatDoorKCCA
import Derived.Test.YtjppomhfillflaaGreatDoorKCCB
set_option linter.unusedVariables false
set_option linter.unusedVariables false
set_option linter.unusedSimpArgs false
namespace Go.Proofs.YtjppomhfillflaaGreatDoor
open Go.RowKit Go.Rst Go.Tp Go.Ts
set_option maxRecDepth 100000 in
set_option maxHeartbeats 16000000 in
theorem changes_any (c n l id next : Int) (v : Value) (xs : List Sub) (x : Sub) (av qv : Value) (w : World) (h : RS w v xs) (hz : ∀ x ∈ xs, Sized x) (hxl : xs.length ≤ 977343669110) (ha : Go.Ts.RI w av x.acks) (hq : RM w qv x.queue) (hzx : Sized x) (hal : x.acks.length ≤ 1000000) :
    Calls Tryz.prog 8 #[.agg (stC c n l v).toArray, .agg (subC x av qv).toArray, .int .i64 id, .int .i64 next] w fun e w' => e = .returned (.bool true) ∧ Below w.heap.size w w' := by
  obtain ⟨A1, k1, rfl, hk1, hkm1⟩ := h.shape
  obtain ⟨Aa, ka, rfl, _, ham⟩ := ha.shape
  obtain ⟨Aq, kq, rfl, _, hqm⟩ := hq.shape
  unfold maxLen at hkm1 ham hqm
  have HR := Lib.hid h
  have HA := Lib.hid ha
  have HQ := Lib.hid hq
  have HZ := Lib.hid hz
  have HZX := Lib.hid hzx
  have HAL := Lib.hid hal
  have HXL := Lib.hid hxl
  obtain ⟨S0, hS0⟩ : ∃ S0, S0 = stC c n l (.slice A1 xs.length k1) := ⟨_, rfl⟩
  have HS0 := Lib.hid (show Cut S0 by rw [hS0]; exact Cut.mk_ c n l (rl_one h))
  obtain ⟨C, hC⟩ : ∃ C, C = subC x (.slice Aa x.acks.length ka) (.slice Aq x.queue.length kq) := ⟨_, rfl⟩
  have HC := Lib.hid (show Cub C by rw [hC]; exact Cub.mk_ x (rl_one ha) (rl_one hq))
  have HSE := Lib.hid hS0
  have HCE := Lib.hid hC
  rw [← hS0, ← hC]
  clear h ha hq hz hzx hal hxl hS0 hC
  obtain ⟨W0, hW0⟩ : ∃ W0, W0 = (w.alloc (.cells S0.toArray 24)).alloc (.cells C.toArray 28) := ⟨_, rfl⟩
  have hb0 : Below w.heap.size w W0 := by rw [hW0]; exact ((Below.refl w.heap.size w).alloc (Nat.le_refl _) _).alloc (by simp) _
  have hs0 : Wh W0 w.heap.size S0 24 := by rw [hW0]; exact (Wh.new w S0 24).below ((Below.refl _ _).alloc (Nat.le_refl _) _)
  have hx0 : Wh W0 (w.heap.size + 1) C 28 := by
    rw [hW0]
    have := Wh.new (w.alloc (.cells S0.toArray 24)) C 28
    rwa [World.size_alloc] at this
  have hz0 : W0.heap.size = w.heap.size + 2 := by rw [hW0]; simp
  have HF1 := Lib.hid (by
    have := findP_any c n l (.slice A1 xs.length k1) xs id W0 (HR.out.below stays_cs hb0) HZ.out
    rw [← HSE.out] at this
    exact this : Calls Tryz.prog 17 #[.agg S0.toArray, .int .i64 id] W0 (GivesF W0 (findS xs id)))
  have HB0 := Lib.hid hb0
  have HS := Lib.hid hs0
  have HX := Lib.hid hx0
  have HZ0 := Lib.hid hz0
  have HW0 := Lib.hid hW0
  have HSL := Lib.hid (show Wh ((w.alloc (.cells S0.toArray 24)).alloc (.cells C.toArray 28)) w.heap.size S0 24 by rw [← hW0]; exact hs0)
  clear hW0 hb0 hs0 hx0 hz0
  go_enter Tryz.func8, Tryz.ntmps8
  go_wp2_with (first | (refine wpList_load_midG (by rfl) 24 (.tmp 4) rfl w.heap.size 0 rfl _ _ HSL.out.range Tryz.underlying24 rfl HS0.out.infoL ?_))
  rw [← HW0.out]
  refine HF1.out.mono ?_
  rintro e w1 ⟨av1, qv1, rfl, ha1, hq1, hb1⟩
  obtain ⟨y, hy⟩ : ∃ y, y = (findS xs id).getD noSub := ⟨_, rfl⟩
  obtain ⟨bo, hbo⟩ : ∃ bo, bo = (findS xs id).isSome := ⟨_, rfl⟩
  rw [← hy] at ha1 hq1
  rw [← hy, ← hbo]
  obtain ⟨E, hE⟩ : ∃ E, E = subC y av1 qv1 := ⟨_, rfl⟩
  have HE := Lib.hid (show Cub E by rw [hE]; exact Cub.mk_ y (rl_one ha1) (rl_one hq1))
  have HEE := Lib.hid hE
  rw [← hE]
  have hv1 : Below W0.heap.size W0 (boxW w1 E) := hb1.trans ((box_below w1 E).mono hb1.size)
  have HV1 := Lib.hid hv1
  have HS1 := Lib.hid (HS.out.below hv1)
  have HE1 := Lib.hid (box_wh w1 E)
  have HA1 := Lib.hid (ha1.below stays_ci (box_below w1 E))
  have HQ1 := Lib.hid (hq1.below stays_cm (box_below w1 E))
  have HF2 := Lib.hid (by
    have := find_any c n l (.slice A1 xs.length k1) xs id (boxW w1 E) (HR.out.below stays_cs (HB0.out.trans (hv1.mono HB0.out.size)))
    rw [← HSE.out] at this
    exact this : Calls Tryz.prog 18 #[.agg S0.toArray, .int .i64 id] (boxW w1 E) (GivesF (boxW w1 E) (findS xs id)))
  have HL1 := Lib.hid hb1.size
  have HY := Lib.hid hy
  have HBO := Lib.hid hbo
  clear ha1 hq1 hb1 hy hbo hE hv1
  go_wp2_with (first | (refine wpList_store_row rfl 28 (.tmp 9) (.tmp 17) rfl w1.heap.size E.toArray rfl rfl 28 #[.int .i64 0, .string ⟨#[]⟩, .string ⟨#[]⟩, .string ⟨#[]⟩, .int .i64 0, .int .i64 0, .int .i64 0, .slice none 0 0, .slice none 0 0, .string ⟨#[]⟩] (box_old w1) HE.out.info HE.out.old HE.out.all ?_; rw [box_def]) | (refine wpList_load_midG (by rfl) 24 (.tmp 4) rfl w.heap.size 0 rfl _ _ HS1.out.range Tryz.underlying24 rfl HS0.out.infoL ?_))
  refine HF2.out.mono ?_
  rintro e w2 ⟨av2, qv2, rfl, ha2, hq2, hb2⟩
  rw [← HY.out] at ha2 hq2
  rw [← HY.out, ← HBO.out]
  obtain ⟨G, hG⟩ : ∃ G, G = subC y av2 qv2 := ⟨_, rfl⟩
  have HG := Lib.hid (show Cub G by rw [hG]; exact Cub.mk_ y (rl_one ha2) (rl_one hq2))
  have HGE := Lib.hid hG
  rw [← hG]
  have hv2 : Below (boxW w1 E).heap.size (boxW w1 E) (boxW w2 G) := hb2.trans ((box_below w2 G).mono hb2.size)
  have HV2 := Lib.hid hv2
  have HL2 := Lib.hid hb2.size
  have HA2 := Lib.hid (ha2.below stays_ci (box_below w2 G))
  have HQ2 := Lib.hid (hq2.below stays_cm (box_below w2 G))
  have HG2 := Lib.hid (box_wh w2 G)
  have hE2 : Wh (boxW w2 G) w1.heap.size E 28 := HE1.out.below hv2
  have HE2 := Lib.hid hE2
  clear hE2
  clear ha2 hq2 hb2 hG hv2
  go_wp2_with (first | (refine wpList_store_row rfl 28 (.tmp 11) (.tmp 23) rfl w2.heap.size G.toArray rfl rfl 28 #[.int .i64 0, .string ⟨#[]⟩, .string ⟨#[]⟩, .string ⟨#[]⟩, .int .i64 0, .int .i64 0, .int .i64 0, .slice none 0 0, .slice none 0 0, .string ⟨#[]⟩] (box_old w2) HG.out.info HG.out.old HG.out.all ?_; rw [box_def]))
  obtain ⟨V, hV⟩ : ∃ V, V = boxW w2 G := ⟨_, rfl⟩
  have hwv : Below w.heap.size w V := by rw [hV]; exact HB0.out.trans ((HV1.out.trans (HV2.out.mono HV1.out.size)).mono HB0.out.size)
  have hv0 : Below W0.heap.size W0 V := by rw [hV]; exact HV1.out.trans (HV2.out.mono HV1.out.size)
  have HS3 := Lib.hid (HS.out.below hv0)
  have HX3 := Lib.hid (HX.out.below hv0)
  have HE3 := Lib.hid (show Wh V w1.heap.size E 28 by rw [hV]; exact HE2.out)
  have HG3 := Lib.hid (show Wh V w2.heap.size G 28 by rw [hV]; exact HG2.out)
  have HRV := Lib.hid (HR.out.below stays_cs hwv)
  have HAV := Lib.hid (HA.out.below stays_ci hwv)
  have HQV := Lib.hid (HQ.out.below stays_cm hwv)
  have HA1V := Lib.hid (show Go.Ts.RI V av1 y.acks by rw [hV]; exact HA1.out.below stays_ci HV2.out)
  have HQ1V := Lib.hid (show RM V qv1 y.queue by rw [hV]; exact HQ1.out.below stays_cm HV2.out)
  have HA2V := Lib.hid (show Go.Ts.RI V av2 y.acks by rw [hV]; exact HA2.out)
  have HQ2V := Lib.hid (show RM V qv2 y.queue by rw [hV]; exact HQ2.out)
  have HWV := Lib.hid hwv
  rw [← hV]
  clear hV hwv hv0 HV1 HV2 HE2 HG2 HA1 HQ1 HA2 HQ2 HF1 HF2 HS1 HE1
  refine wp_region_held_drew (S := SB [V]) (by kernel_rfl) (SB.start _) (fun hHeld => ?_)
  refine tkA 0 (v := .agg E.toArray) (fun W hSw => exec_load_mid 28 (.tmp 9) rfl w1.heap.size 0 rfl _ _ ((HE3.out.below (SB.b0 hSw)).range) Tryz.underlying28 rfl HE.out.infoL) ?_
  try simp only [Act.put, zA, zB, zC]
  refine tkA 1 (v := .agg G.toArray) (fun W hSw => exec_load_mid 28 (.tmp 11) rfl w2.heap.size 0 rfl _ _ ((HG3.out.below (SB.b0 hSw)).range) Tryz.underlying28 rfl HG.out.infoL) ?_
  try simp only [Act.put, zA, zB, zC]
  refine rdA (rs := [2]) (arC (i := 2) fun K hK => ?_)
  have hss := sameSub_any (HA1V.out.below stays_ci (SB.b0 hHeld)) (HQ1V.out.below stays_cm (SB.b0 hHeld)) (HA2V.out.below stays_ci (SB.b0 hHeld)) (HQ2V.out.below stays_cm (SB.b0 hHeld))
  rw [decide_eq_true rfl, ← HEE.out, ← HGE.out] at hss
  go_simp
  refine hss.mono ?_
  clear hss
  rintro e w6 ⟨rfl, hbw6⟩
  try (go_wp2_with fail)
  have hHeld' := SB.step hHeld hbw6
  refine hK.out _ _ ?_ (fun _ => ?_)
  · exact hHeld'
  clear hK K hHeld
  have hHeld := hHeld'
  clear hHeld'
  try simp only [Act.put, zA, zB, zC]
  refine tkC 3 ?_
  refine tkC 4 ?_
  refine tkC 5 ?_
  refine tkA 6 (v := .bool true) ?_ ?_
  · intro W hSw; go_simp; try (first | done | simp)
  try simp only [Act.put, zA, zB, zC]
  refine tkC 7 ?_
  refine tkC 8 ?_
  refine tkA 9 (v := .agg S0.toArray) (fun W hSw => exec_load_mid 24 (.tmp 4) rfl w.heap.size 0 rfl _ _ ((HS3.out.below (SB.b0 hSw)).range) Tryz.underlying24 rfl HS0.out.infoL) ?_
  try simp only [Act.put, zA, zB, zC]
  refine tkA 10 (v := .agg C.toArray) (fun W hSw => exec_load_mid 28 (.tmp 5) rfl (w.heap.size + 1) 0 rfl _ _ ((HX3.out.below (SB.b0 hSw)).range) Tryz.underlying28 rfl HC.out.infoL) ?_
  try simp only [Act.put, zA, zB, zC]
  refine tkA 12 (v := .agg S0.toArray) (fun W hSw => exec_load_mid 24 (.tmp 4) rfl w.heap.size 0 rfl _ _ ((HS3.out.below (SB.b0 hSw)).range) Tryz.underlying24 rfl HS0.out.infoL) ?_
  try simp only [Act.put, zA, zB, zC]
  refine tkA 13 (v := .agg C.toArray) (fun W hSw => exec_load_mid 28 (.tmp 5) rfl (w.heap.size + 1) 0 rfl _ _ ((HX3.out.below (SB.b0 hSw)).range) Tryz.underlying28 rfl HC.out.infoL) ?_
  try simp only [Act.put, zA, zB, zC]
  refine rdA (rs := [11]) (arC (i := 11) fun K hK => ?_)
  have hpu := putP_any c n l (.slice A1 xs.length k1) xs x (.slice Aa x.acks.length ka) (.slice Aq x.queue.length kq) _ (HRV.out.below stays_cs (SB.b0 hHeld)) HZ.out HXL.out (HAV.out.below stays_ci (SB.b0 hHeld)) (HQV.out.below stays_cm (SB.b0 hHeld)) HZX.out
  rw [← HSE.out, ← HCE.out] at hpu
  go_simp
  refine hpu.mono ?_
  clear hpu
  rintro e w6 ⟨va, rfl, hona, hbw6⟩
  have hra := hona.rs
  clear hona
  try (go_wp2_with fail)
  have hHeld' := SB.step hHeld hbw6
  refine hK.out _ _ ?_ (fun _ => ?_)
  · exact hHeld'
  clear hK K hHeld
  have hHeld := hHeld'
  clear hHeld'
  try simp only [Act.put, zA, zB, zC]
  have HRA := Lib.hid hra
  clear hra
  refine rdA (rs := [14]) (arC (i := 14) fun K hK => ?_)
  have hpu := put_any c n l (.slice A1 xs.length k1) xs x (.slice Aa x.acks.length ka) (.slice Aq x.queue.length kq) w6 w6 (RSo.self (HRV.out.below stays_cs (SB.b0 hHeld))) (HAV.out.below stays_ci (SB.b0 hHeld)) (HQV.out.below stays_cm (SB.b0 hHeld)) HXL.out
  rw [← HSE.out, ← HCE.out] at hpu
  go_simp
  refine hpu.mono ?_
  clear hpu
  rintro e w7 ⟨vb, rfl, hrob, hbw7⟩
  have hrb := hrob.rs hbw7
  clear hrob
  try (go_wp2_with fail)
  have hHeld' := SB.step hHeld hbw7
  refine hK.out _ _ ?_ (fun _ => ?_)
  · exact hHeld'
  clear hK K hHeld
  have hHeld := hHeld'
  clear hHeld'
  try simp only [Act.put, zA, zB, zC]
  have HRB := Lib.hid hrb
  have HRA7 := Lib.hid (HRA.out.below stays_cs hbw7)
  clear hrb
  refine rdA (rs := [15]) (arC (i := 15) fun K hK => ?_)
  have hsm := same_any (c := c) (n := n) (l := l) (c2 := c) (n2 := n) (l2 := l) HRA7.out HRB.out
  rw [decide_eq_true ⟨rfl, rfl, rfl, rfl⟩] at hsm
  go_simp
  refine hsm.mono ?_
  clear hsm
  rintro e w8 ⟨rfl, hbw8⟩
  try (go_wp2_with fail)
  have hHeld' := SB.step hHeld hbw8
  refine hK.out _ _ ?_ (fun _ => ?_)
  · exact hHeld'
  clear hK K hHeld
  have hHeld := hHeld'
  clear hHeld'
  try simp only [Act.put, zA, zB, zC]
  clear HRA HRB HRA7
  refine tkC 16 ?_
  refine tkC 17 ?_
  refine tkA 18 (v := .agg S0.toArray) (fun W hSw => exec_load_mid 24 (.tmp 4) rfl w.heap.size 0 rfl _ _ ((HS3.out.below (SB.b0 hSw)).range) Tryz.underlying24 rfl HS0.out.infoL) ?_
  try simp only [Act.put, zA, zB, zC]
  refine tkC 19 ?_
  refine tkA 21 (v := .agg S0.toArray) (fun W hSw => exec_load_mid 24 (.tmp 4) rfl w.heap.size 0 rfl _ _ ((HS3.out.below (SB.b0 hSw)).range) Tryz.underlying24 rfl HS0.out.infoL) ?_
  try simp only [Act.put, zA, zB, zC]
  refine tkC 22 ?_
  refine rdA (rs := [20]) (arC (i := 20) fun K hK => ?_)
  have hwo := withoutP_any c n l (.slice A1 xs.length k1) xs id _ (HRV.out.below stays_cs (SB.b0 hHeld)) HZ.out HXL.out
  rw [← HSE.out] at hwo
  go_simp
  refine hwo.mono ?_
  clear hwo
  rintro e w6 ⟨va, rfl, hona, hbw6⟩
  have hra := hona.rs
  clear hona
  try (go_wp2_with fail)
  have hHeld' := SB.step hHeld hbw6
  refine hK.out _ _ ?_ (fun _ => ?_)
  · exact hHeld'
  clear hK K hHeld
  have hHeld := hHeld'
  clear hHeld'
  try simp only [Act.put, zA, zB, zC]
  have HRA := Lib.hid hra
  clear hra
  refine rdA (rs := [23]) (arC (i := 23) fun K hK => ?_)
  have hwo := without_any c n l (.slice A1 xs.length k1) xs id w6 w6 (RSo.self (HRV.out.below stays_cs (SB.b0 hHeld))) HXL.out
  rw [← HSE.out] at hwo
  go_simp
  refine hwo.mono ?_
  clear hwo
  rintro e w7 ⟨vb, rfl, hrob, hbw7⟩
  have hrb := hrob.rs hbw7
  clear hrob
  try (go_wp2_with fail)
  have hHeld' := SB.step hHeld hbw7
  refine hK.out _ _ ?_ (fun _ => ?_)
  · exact hHeld'
  clear hK K hHeld
  have hHeld := hHeld'
  clear hHeld'
  try simp only [Act.put, zA, zB, zC]
  have HRB := Lib.hid hrb
  have HRA7 := Lib.hid (HRA.out.below stays_cs hbw7)
  clear hrb
  refine rdA (rs := [24]) (arC (i := 24) fun K hK => ?_)
  have hsm := same_any (c := c) (n := n) (l := l) (c2 := c) (n2 := n) (l2 := l) HRA7.out HRB.out
  rw [decide_eq_true ⟨rfl, rfl, rfl, rfl⟩] at hsm
  go_simp
  refine hsm.mono ?_
  clear hsm
  rintro e w8 ⟨rfl, hbw8⟩
  try (go_wp2_with fail)
  have hHeld' := SB.step hHeld hbw8
  refine hK.out _ _ ?_ (fun _ => ?_)
  · exact hHeld'
  clear hK K hHeld
  have hHeld := hHeld'
  clear hHeld'
  try simp only [Act.put, zA, zB, zC]
  clear HRA HRB HRA7
  refine tkC 25 ?_
  refine tkC 26 ?_
  refine tkA 27 (v := .agg C.toArray) (fun W hSw => exec_load_mid 28 (.tmp 5) rfl (w.heap.size + 1) 0 rfl _ _ ((HX3.out.below (SB.b0 hSw)).range) Tryz.underlying28 rfl HC.out.infoL) ?_
  try simp only [Act.put, zA, zB, zC]
  refine tkC 28 ?_
  refine tkA 30 (v := .agg C.toArray) (fun W hSw => exec_load_mid 28 (.tmp 5) rfl (w.heap.size + 1) 0 rfl _ _ ((HX3.out.below (SB.b0 hSw)).range) Tryz.underlying28 rfl HC.out.infoL) ?_
  try simp only [Act.put, zA, zB, zC]
  refine tkC 31 ?_
  refine rdA (rs := [29]) (arC (i := 29) fun K hK => ?_)
  have hse := settleP_any x (.slice Aa x.acks.length ka) (.slice Aq x.queue.length kq) next _ (HAV.out.below stays_ci (SB.b0 hHeld)) (HQV.out.below stays_cm (SB.b0 hHeld)) HZX.out
  rw [← HCE.out] at hse
  go_simp
  refine hse.mono ?_
  clear hse
  rintro e w6 ⟨a6, q6, rfl, ha6, hq6, hbw6⟩
  try (go_wp2_with fail)
  have hHeld' := SB.step hHeld hbw6
  refine hK.out _ _ ?_ (fun _ => ?_)
  · exact hHeld'
  clear hK K hHeld
  have hHeld := hHeld'
  clear hHeld'
  try simp only [Act.put, zA, zB, zC]
  have HA6 := Lib.hid ha6
  have HQ6 := Lib.hid hq6
  clear ha6 hq6
  refine rdA (rs := [32]) (arC (i := 32) fun K hK => ?_)
  have hse := settle_any x (.slice Aa x.acks.length ka) (.slice Aq x.queue.length kq) next w6 (HAV.out.below stays_ci (SB.b0 hHeld)) (HQV.out.below stays_cm (SB.b0 hHeld)) HAL.out
  rw [← HCE.out] at hse
  go_simp
  refine hse.mono ?_
  clear hse
  rintro e w7 ⟨a7, q7, rfl, ha7, hq7, hbw7⟩
  try (go_wp2_with fail)
  have hHeld' := SB.step hHeld hbw7
  refine hK.out _ _ ?_ (fun _ => ?_)
  · exact hHeld'
  clear hK K hHeld
  have hHeld := hHeld'
  clear hHeld'
  try simp only [Act.put, zA, zB, zC]
  have HA7 := Lib.hid ha7
  have HQ7 := Lib.hid hq7
  have HA67 := Lib.hid (HA6.out.below stays_ci hbw7)
  have HQ67 := Lib.hid (HQ6.out.below stays_cm hbw7)
  clear ha7 hq7
  refine rdA (rs := [33]) (arC (i := 33) fun K hK => ?_)
  have hss := sameSub_any HA67.out HQ67.out HA7.out HQ7.out
  rw [decide_eq_true rfl] at hss
  go_simp
  refine hss.mono ?_
  clear hss
  rintro e w8 ⟨rfl, hbw8⟩
  try (go_wp2_with fail)
  have hHeld' := SB.step hHeld hbw8
  refine hK.out _ _ ?_ (fun _ => ?_)
  · exact hHeld'
  clear hK K hHeld
  have hHeld := hHeld'
  clear hHeld'
  try simp only [Act.put, zA, zB, zC]
  refine tkC 34 ?_
  refine tkC 35 ?_
  refine wpAnyH_done (by kernel_rfl) ?_ _
  have HEND := Lib.hid (HWV.out.trans ((SB.b0 hHeld).mono HWV.out.size))
  clear hHeld
  go_wp2
  go_ret
  exact ⟨rfl, HEND.out⟩
end Go.Proofs.YtjppomhfillflaaGreatDoor
