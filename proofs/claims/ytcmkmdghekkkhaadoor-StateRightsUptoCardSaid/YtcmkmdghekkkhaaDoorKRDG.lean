/-
  The walk of StateRights, of states whose lengths do not wrap.
-/
import Derived.Test.YtcmkmdghekkkhaaDoorKRBE
import Derived.Test.YtcmkmdghekkkhaaDoorKRDF
set_option linter.unusedVariables false
set_option linter.unusedVariables false
set_option linter.unusedSimpArgs false
namespace Go.Ts
theorem le_sum_mem : ∀ {l : List Nat} {a : Nat}, a ∈ l → a ≤ l.sum
  | b :: l, a, h => by
    rcases List.mem_cons.1 h with rfl | h
    · simp
    · have := le_sum_mem h; simp only [List.sum_cons]; omega
theorem tot_mem {xs : List Sub} {x : Sub} (h : x ∈ xs) : lenH x + sumM x.queue ≤ totL xs := le_sum_mem (List.mem_map.2 ⟨x, h, rfl⟩)
theorem sum_mem {q : List Msg} {m : Msg} (h : m ∈ q) : lenM m ≤ sumM q := le_sum_mem (List.mem_map.2 ⟨m, h, rfl⟩)
structure StU (s : St) : Prop where
  tot : totL s.subs ≤ 1000000000
  til : ∀ x ∈ s.subs, ∀ m ∈ x.queue, m.til ≤ 9223372036854775807
theorem StU.bt {s : St} (h : StU s) (h9 : totL s.subs ≤ 900) : ∀ x ∈ s.subs, BtOk x := fun x hx => by
  have h1 := tot_mem hx
  unfold lenH at h1
  exact ⟨⟨by omega, by omega, by omega, fun m hm => by have h2 := sum_mem hm; unfold lenM at h2; omega⟩, h.til x hx⟩
end Go.Ts
namespace Go.Proofs.YtcmkmdghekkkhaaDoor
open Go.RowKit Go.Rst Go.Tp Go.Ts Go.Tk
set_option maxRecDepth 100000 in
set_option maxHeartbeats 16000000 in
theorem rights_walk (s : St) (sv : Value) (clock next : Int) (cv : Value) (l : List UInt8) (k : Nat) (nn : Int) (w : World) (hs : RS w sv s.subs) (hu : StU s) (hcv : RB w cv l) (hlm : l.length ≤ 140737488351232) (hk : k ≤ 255) (hn1 : -9223372036854775808 ≤ nn) (hn2 : nn ≤ 9223372036854775807) (hp : Pow w) :
    Calls Tryd.prog 3 #[.agg (stC s.clock s.next s.last sv).toArray, .int .i64 clock, .int .i64 next, cv, .int .u8 k, .int .i64 nn] w fun e w' => e = .returned (.bool true) ∧ Below w.heap.size w w' := by
  obtain ⟨sc, sn, sl, xs0⟩ := s
  obtain ⟨A1, k1, rfl, _, _⟩ := hs.shape
  simp only at hs hu ⊢
  obtain ⟨W0, hW0⟩ : ∃ W0, W0 = w.alloc (.cells #[.int .i64 sc, .int .i64 sn, .int .i64 sl, .slice A1 xs0.length k1] 24) := ⟨_, rfl⟩
  have hb0 : Below w.heap.size w W0 := by rw [hW0]; exact (Below.refl w.heap.size w).alloc (Nat.le_refl _) _
  have hx0 : Wh W0 w.heap.size [.int .i64 sc, .int .i64 sn, .int .i64 sl, .slice A1 xs0.length k1] 24 := by rw [hW0]; exact Wh.new w _ _
  have HLO := Lib.hid (long_any sc sn sl (.slice A1 xs0.length k1) xs0 W0 (hs.below stays_cs hb0) hu.tot : Calls Tryd.prog 8 #[.agg #[.int .i64 sc, .int .i64 sn, .int .i64 sl, .slice A1 xs0.length k1]] W0 fun e w' => e = .returned (.int .i64 (totL xs0 : Nat)) ∧ Below W0.heap.size W0 w')
  have HB0 := Lib.hid hb0
  have HX0 := Lib.hid hx0
  have HP := Lib.hid (fun W (h : Below w.heap.size w W) => known_any W (hp.below h))
  have HSA := Lib.hid (fun W (h : Below w.heap.size w W) => state_any cv l W (hcv.below h) hlm)
  have HRI := Lib.hid (fun (h9 : totL xs0 ≤ 900) (cl nx : Int) (h1 : 0 ≤ cl) (h2 : cl ≤ 1152921504606846976) W (h : Below w.heap.size w W) => rights_any sc sn sl (.slice A1 xs0.length k1) xs0 cl nx W (hs.below stays_cs h) (hu.bt h9) h1 h2 : ∀ (h9 : totL xs0 ≤ 900) (cl nx : Int) (h1 : 0 ≤ cl) (h2 : cl ≤ 1152921504606846976) W (h : Below w.heap.size w W), Calls Tryd.prog 11 #[.agg #[.int .i64 sc, .int .i64 sn, .int .i64 sl, .slice A1 xs0.length k1], .int .i64 cl, .int .i64 nx] W fun e w' => e = .returned (.bool true) ∧ Below W.heap.size W w')
  obtain ⟨tt, htt⟩ : ∃ t, t = totL xs0 := ⟨_, rfl⟩
  rw [← htt] at HLO HRI
  clear hb0 hx0 hs hu hcv hp htt
  have HW0 := Lib.hid hW0.symm
  clear hW0
  simp only [stC]
  go_enter Tryd.func3, Tryd.ntmps3
  go_wp2_with fail
  go_wp2_with fail
  rw [HW0.out]
  refine HLO.out.mono ?_
  rintro e w1 ⟨rfl, hb1⟩
  have HB1 := Lib.hid (HB0.out.trans (hb1.mono HB0.out.size))
  have HX1 := Lib.hid (HX0.out.below hb1)
  clear hb1 HW0 HLO
  by_cases h9 : (tt : Int) > 900
  · go_wp2_with fail
    refine (HP.out _ HB1.out).mono ?_
    rintro e w2 ⟨rfl, hb2⟩
    have HB2 := Lib.hid (HB1.out.trans (hb2.mono HB1.out.size))
    clear hb2
    go_wp2
    go_ret
    exact ⟨rfl, HB2.out⟩
  have h99 : tt ≤ 900 := by omega
  have HRI2 := Lib.hid (HRI.out h99)
  clear HRI h99
  go_wp2_with fail
  refine (HP.out _ HB1.out).mono ?_
  rintro e w2 ⟨rfl, hb2⟩
  have HB2 := Lib.hid (HB1.out.trans (hb2.mono HB1.out.size))
  have HX2 := Lib.hid (HX1.out.below hb2)
  clear hb2 HB1 HX1
  go_wp2_with fail
  refine (HSA.out _ HB2.out).mono ?_
  rintro e w1 ⟨c1, n1, la, v1, xs, rfl, hr1, hb1, hmd, hxl⟩
  obtain ⟨S1, hS1⟩ : ∃ S1, S1 = stC c1 n1 la v1 := ⟨_, rfl⟩
  have HS1 := Lib.hid (show Cut S1 by rw [hS1]; exact Cut.mk_ _ _ _ (rl_one hr1))
  have ec0 : S1[0]'(by rw [HS1.out.len]; omega) = .int .i64 c1 := by subst hS1; rfl
  have ec1 : S1[1]'(by rw [HS1.out.len]; omega) = .int .i64 n1 := by subst hS1; rfl
  have hv1 := boxT_below w1 S1
  have HV1 := Lib.hid hv1
  have HBV := Lib.hid (HB2.out.trans ((hb1.mono HB2.out.size).trans (hv1.mono (by have := hb1.size; have := HB2.out.size; omega))))
  have H13 := Lib.hid (boxT_wh w1 S1)
  have H6 := Lib.hid ((HX2.out.below hb1).below hv1)
  have HR2 := Lib.hid (fun W (h : Below (boxT w1 S1).heap.size (boxT w1 S1) W) => by have := rights_any c1 n1 la v1 xs c1 n1 W (hr1.below stays_cs (hv1.trans (h.mono hv1.size))) (fun x hx => (hmd.ok x hx).2.2.2.bt) hmd.c0 (by have := hmd.c1; omega); rw [← hS1] at this; exact this : ∀ W (h : Below (boxT w1 S1).heap.size (boxT w1 S1) W), Calls Tryd.prog 11 #[.agg S1.toArray, .int .i64 c1, .int .i64 n1] W fun e w' => e = .returned (.bool true) ∧ Below W.heap.size W w')
  have HBE := Lib.hid (fun (q : Int) (h1 : -9223372036854775808 ≤ q) (h2 : q ≤ 9223372036854775807) W (h : Below (boxT w1 S1).heap.size (boxT w1 S1) W) => by have := bent_any c1 n1 la v1 xs k q W (hr1.below stays_cs (hv1.trans (h.mono hv1.size))) hmd hxl hk h1 h2; rw [← hS1] at this; exact this : ∀ (q : Int) (h1 : -9223372036854775808 ≤ q) (h2 : q ≤ 9223372036854775807) W (h : Below (boxT w1 S1).heap.size (boxT w1 S1) W), Calls Tryd.prog 12 #[.agg S1.toArray, .int .u8 k, .int .i64 q] W (GivesBt W))
  have hc10 := hmd.c0
  have hc11 := hmd.c1
  rw [← hS1]
  clear hS1 hr1 hb1 hmd hxl hv1 HSA HX2
  go_wp2_with (first | (refine wpList_store_row rfl 24 (.tmp 13) (.tmp 23) rfl w1.heap.size S1.toArray rfl rfl 24 #[.int .i64 0, .int .i64 0, .int .i64 0, .slice none 0 0] (boxT_old w1) HS1.out.info HS1.out.old HS1.out.all ?_; rw [boxT_def]))
  obtain ⟨mn, hmn⟩ : ∃ mn, min clock 18014398509481984 = mn := ⟨_, rfl⟩
  obtain ⟨cl, hcl⟩ : ∃ cl, max 0 mn = cl := ⟨_, rfl⟩
  have hcl0 : 0 ≤ cl := by omega
  have hcl1 : cl ≤ 18014398509481984 := by omega
  have HR1 := Lib.hid (fun W (h : Below (boxT w1 S1).heap.size (boxT w1 S1) W) => HRI2.out cl next hcl0 (by omega) W (HBV.out.trans (h.mono HBV.out.size)))
  obtain ⟨j, hj⟩ : ∃ j, j = k % 9 := ⟨_, rfl⟩
  have hj1 : (k : Int).tmod 9 = (j : Int) := by rw [Int.tmod_eq_emod_of_nonneg (by omega)]; omega
  have hj9 : j < 9 := by omega
  clear hj
  generalize hV : boxT w1 S1 = V1 at HV1 HBV H13 H6 HR2 HBE HR1 ⊢
  clear hV
  refine wp_region_held_drew (S := SB [V1]) (by kernel_rfl) (SB.start _) (fun hHeld => ?_)
  refine tkA 0 (v := .agg #[.int .i64 sc, .int .i64 sn, .int .i64 sl, .slice A1 xs0.length k1]) (fun W hSw => exec_load_mid 24 (.tmp 6) rfl w.heap.size 0 rfl _ _ ((H6.out.below (SB.b0 hSw)).range) Tryd.underlying24 rfl size24) ?_
  try simp only [Act.put, zA, zB, zC]
  refine tkC 1 ?_
  refine tkA 2 (v := .int .i64 mn) ?_ ?_
  · intro W hSw; go_simp; try (first | done | rw [hmn])
  try simp only [Act.put, zA, zB, zC]
  refine tkA 3 (v := .int .i64 cl) ?_ ?_
  · intro W hSw; go_simp; try (first | done | rw [hcl])
  try simp only [Act.put, zA, zB, zC]
  refine tkC 4 ?_
  refine rdA (rs := [5]) (arC (i := 5) fun K hK => ?_)
  go_simp
  refine (HR1.out _ (SB.b0 hHeld)).mono ?_
  rintro e w3 ⟨rfl, hbw3⟩
  try (go_wp2_with fail)
  have hHeld' := SB.step hHeld hbw3
  refine hK.out _ _ ?_ (fun _ => ?_)
  · exact hHeld'
  clear hK K hHeld
  have hHeld := hHeld'
  clear hHeld'
  try simp only [Act.put, zA, zB, zC]
  refine tkC 6 ?_
  refine tkA 7 (v := .agg S1.toArray) (fun W hSw => exec_load_mid 24 (.tmp 13) rfl w1.heap.size 0 rfl _ _ ((H13.out.below (SB.b0 hSw)).range) Tryd.underlying24 rfl HS1.out.infoL) ?_
  try simp only [Act.put, zA, zB, zC]
  refine tkC 8 ?_
  refine tkA 9 (v := .int .i64 c1) ?_ ?_
  · intro W hSw; have hq := ((H13.out.below (SB.b0 hSw))).bx.cell (i := 0) (by rw [HS1.out.len]; omega)
    rw [ec0] at hq
    go_simp; try (with_reducible rfl)
  try simp only [Act.put, zA, zB, zC]
  refine tkC 10 ?_
  refine tkA 11 (v := .int .i64 n1) ?_ ?_
  · intro W hSw; have hq := ((H13.out.below (SB.b0 hSw))).bx.cell (i := 1) (by rw [HS1.out.len]; omega)
    rw [ec1] at hq
    go_simp; try (with_reducible rfl)
  try simp only [Act.put, zA, zB, zC]
  refine rdA (rs := [12]) (arC (i := 12) fun K hK => ?_)
  go_simp
  refine (HR2.out _ (SB.b0 hHeld)).mono ?_
  rintro e w4 ⟨rfl, hbw4⟩
  try (go_wp2_with fail)
  have hHeld' := SB.step hHeld hbw4
  refine hK.out _ _ ?_ (fun _ => ?_)
  · exact hHeld'
  clear hK K hHeld
  have hHeld := hHeld'
  clear hHeld'
  try simp only [Act.put, zA, zB, zC]
  refine tkC 13 ?_
  refine tkC 14 ?_
  refine tkA 15 (v := .agg S1.toArray) (fun W hSw => exec_load_mid 24 (.tmp 13) rfl w1.heap.size 0 rfl _ _ ((H13.out.below (SB.b0 hSw)).range) Tryd.underlying24 rfl HS1.out.infoL) ?_
  try simp only [Act.put, zA, zB, zC]
  refine tkC 16 ?_
  refine tkC 17 ?_
  refine tkC 19 ?_
  refine tkA 20 (v := .int .i64 c1) ?_ ?_
  · intro W hSw; have hq := ((H13.out.below (SB.b0 hSw))).bx.cell (i := 0) (by rw [HS1.out.len]; omega)
    rw [ec0] at hq
    go_simp; try (with_reducible rfl)
  try simp only [Act.put, zA, zB, zC]
  refine tkC 21 ?_
  refine tkA 22 (v := .int .i64 n1) ?_ ?_
  · intro W hSw; have hq := ((H13.out.below (SB.b0 hSw))).bx.cell (i := 1) (by rw [HS1.out.len]; omega)
    rw [ec1] at hq
    go_simp; try (with_reducible rfl)
  try simp only [Act.put, zA, zB, zC]
  refine rdA (rs := [18]) (arC (i := 18) fun K hK => ?_)
  go_simp
  refine (HBE.out (nn) (by omega) (by omega) _ (SB.b0 hHeld)).mono ?_
  rintro e w5 ⟨cA, nA, lA, vA, xA, rfl, hrA, hbw5, hoA⟩
  try (go_wp2_with fail)
  have hHeld' := SB.step hHeld hbw5
  refine hK.out _ _ ?_ (fun _ => ?_)
  · exact hHeld'
  clear hK K hHeld
  have hHeld := hHeld'
  clear hHeld'
  try simp only [Act.put, zA, zB, zC]
  have HRG := Lib.hid (rights_any cA nA lA vA xA c1 n1 w5 hrA hoA (by omega) (by omega))
  clear hrA hoA
  refine rdA (rs := [23]) (arC (i := 23) fun K hK => ?_)
  go_simp
  refine HRG.out.mono ?_
  rintro e w6 ⟨rfl, hbw6⟩
  try (go_wp2_with fail)
  have hHeld' := SB.step hHeld hbw6
  refine hK.out _ _ ?_ (fun _ => ?_)
  · exact hHeld'
  clear hK K hHeld
  have hHeld := hHeld'
  clear hHeld'
  try simp only [Act.put, zA, zB, zC]
  clear HRG
  refine tkC 24 ?_
  refine tkC 25 ?_
  refine tkA 26 (v := .agg S1.toArray) (fun W hSw => exec_load_mid 24 (.tmp 13) rfl w1.heap.size 0 rfl _ _ ((H13.out.below (SB.b0 hSw)).range) Tryd.underlying24 rfl HS1.out.infoL) ?_
  try simp only [Act.put, zA, zB, zC]
  refine tkC 27 ?_
  refine tkC 28 ?_
  refine tkA 29 (v := .int .u8 (j : Nat)) ?_ ?_
  · intro W hSw; go_simp; try (first | done | rw [hj1])
  try simp only [Act.put, zA, zB, zC]
  refine tkA 30 (v := .int .i64 (j : Nat)) ?_ ?_
  · intro W hSw; go_simp; try (first | done | go_num | (rw [IntKind.wrap_i64]; omega))
  try simp only [Act.put, zA, zB, zC]
  refine tkA 31 (v := .int .i64 ((j : Nat) - 1)) ?_ ?_
  · intro W hSw; go_simp; try (first | done | go_num | (rw [IntKind.wrap_i64]; omega))
  try simp only [Act.put, zA, zB, zC]
  refine tkC 33 ?_
  refine tkA 34 (v := .int .i64 c1) ?_ ?_
  · intro W hSw; have hq := ((H13.out.below (SB.b0 hSw))).bx.cell (i := 0) (by rw [HS1.out.len]; omega)
    rw [ec0] at hq
    go_simp; try (with_reducible rfl)
  try simp only [Act.put, zA, zB, zC]
  refine tkC 35 ?_
  refine tkA 36 (v := .int .i64 n1) ?_ ?_
  · intro W hSw; have hq := ((H13.out.below (SB.b0 hSw))).bx.cell (i := 1) (by rw [HS1.out.len]; omega)
    rw [ec1] at hq
    go_simp; try (with_reducible rfl)
  try simp only [Act.put, zA, zB, zC]
  refine rdA (rs := [32]) (arC (i := 32) fun K hK => ?_)
  go_simp
  refine (HBE.out ((j : Int) - 1) (by omega) (by omega) _ (SB.b0 hHeld)).mono ?_
  rintro e w7 ⟨cA, nA, lA, vA, xA, rfl, hrA, hbw7, hoA⟩
  try (go_wp2_with fail)
  have hHeld' := SB.step hHeld hbw7
  refine hK.out _ _ ?_ (fun _ => ?_)
  · exact hHeld'
  clear hK K hHeld
  have hHeld := hHeld'
  clear hHeld'
  try simp only [Act.put, zA, zB, zC]
  have HRG := Lib.hid (rights_any cA nA lA vA xA c1 n1 w7 hrA hoA (by omega) (by omega))
  clear hrA hoA
  refine rdA (rs := [37]) (arC (i := 37) fun K hK => ?_)
  go_simp
  refine HRG.out.mono ?_
  rintro e w8 ⟨rfl, hbw8⟩
  try (go_wp2_with fail)
  have hHeld' := SB.step hHeld hbw8
  refine hK.out _ _ ?_ (fun _ => ?_)
  · exact hHeld'
  clear hK K hHeld
  have hHeld := hHeld'
  clear hHeld'
  try simp only [Act.put, zA, zB, zC]
  clear HRG
  refine tkC 38 ?_
  refine tkC 39 ?_
  refine wpAnyH_done (by kernel_rfl) ?_ _
  have HEND := Lib.hid (HBV.out.trans ((SB.b0 hHeld).mono HBV.out.size))
  clear hHeld
  go_wp2
  go_ret
  exact ⟨rfl, HEND.out⟩
end Go.Proofs.YtcmkmdghekkkhaaDoor
