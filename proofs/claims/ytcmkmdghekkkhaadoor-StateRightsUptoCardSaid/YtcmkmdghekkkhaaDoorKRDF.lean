/-
  The contract of the statements' own rights (layer state).
-/
import Derived.Test.YtcmkmdghekkkhaaDoorKRCI
import Derived.Test.YtcmkmdghekkkhaaDoorKRDE
set_option linter.unusedVariables false
set_option linter.unusedVariables false
set_option linter.unusedSimpArgs false
namespace Go.Proofs.YtcmkmdghekkkhaaDoor
open Go.RowKit Go.Rst Go.Tp Go.Ts
set_option maxRecDepth 100000 in
set_option maxHeartbeats 8000000 in
theorem rights_any (c n l : Int) (v : Value) (xs : List Sub) (cl nx : Int) (w : World) (h : RS w v xs) (hok : ∀ x ∈ xs, BtOk x) (hc1 : 0 ≤ cl) (hc2 : cl ≤ 1152921504606846976) :
    Calls Tryd.prog 11 #[.agg (stC c n l v).toArray, .int .i64 cl, .int .i64 nx] w fun e w' => e = .returned (.bool true) ∧ Below w.heap.size w w' := by
  obtain ⟨A1, k1, rfl, _, h1⟩ := h.shape
  unfold maxLen at h1
  have HA := Lib.hid h
  have HOK := Lib.hid hok
  obtain ⟨rb, hrb⟩ : ∃ rb, rb = stB ⟨c, n, l, xs⟩ := ⟨_, rfl⟩
  have HR1 := Lib.hid (fun W (hW : Below w.heap.size w W) => by have := rightP_any c n l (.slice A1 xs.length k1) xs W (h.below stays_cs hW) (fun x hx => (hok x hx).til); rw [← hrb] at this; exact this : ∀ W (hW : Below w.heap.size w W), Calls Tryd.prog 25 #[.agg #[.int .i64 c, .int .i64 n, .int .i64 l, .slice A1 xs.length k1]] W fun e w' => e = .returned (.bool rb) ∧ Below W.heap.size W w')
  have HR2 := Lib.hid (fun W (hW : Below w.heap.size w W) => by have := stRight_any c n l (.slice A1 xs.length k1) xs W (h.below stays_cs hW) (fun x hx => (hok x hx).ok); rw [← hrb] at this; exact this : ∀ W (hW : Below w.heap.size w W), Calls Tryd.prog 29 #[.agg #[.int .i64 c, .int .i64 n, .int .i64 l, .slice A1 xs.length k1]] W fun e w' => e = .returned (.bool rb) ∧ Below W.heap.size W w')
  simp only [stC]
  clear h hok hrb
  obtain ⟨W0, hW0⟩ : ∃ W0, W0 = w.alloc (.cells #[.int .i64 c, .int .i64 n, .int .i64 l, .slice A1 xs.length k1] 24) := ⟨_, rfl⟩
  have hb0 : Below w.heap.size w W0 := by rw [hW0]; exact (Below.refl w.heap.size w).alloc (Nat.le_refl _) _
  have hx0 : Wh W0 w.heap.size [.int .i64 c, .int .i64 n, .int .i64 l, .slice A1 xs.length k1] 24 := by rw [hW0]; exact Wh.new w _ _
  have HB0 := Lib.hid hb0
  have HX0 := Lib.hid hx0
  clear hb0 hx0
  by_cases hbig : c > 1152921504606846976
  · go_enter Tryd.func11, Tryd.ntmps11
    go_wp2
    go_ret
    exact ⟨rfl, by rw [← hW0]; exact HB0.out⟩
  go_enter Tryd.func11, Tryd.ntmps11
  go_wp2_with fail
  rw [← hW0]
  clear hW0 hbig
  go_loopw [7] (fun iv wr => ∃ i : Nat, i ≤ xs.length ∧ iv = .int .i64 i ∧ Below W0.heap.size W0 wr) (fun iv _ => xs.length - (intOf iv).toNat)
  case atStart => exact ⟨0, Nat.zero_le _, rfl, Below.refl _ _⟩
  case round =>
    obtain ⟨i, hi, rfl, hbel⟩ := hrel
    have HBW := Lib.hid (HB0.out.trans (hbel.mono HB0.out.size))
    have HBL := Lib.hid hbel
    have hx := HX0.out.below hbel
    have c3 := hx.bx.cell (i := 3) (by simp)
    simp only [List.getElem_cons_succ, List.getElem_cons_zero] at c3
    have hl3 := hx.lt
    clear hbel hx
    by_cases hlt : i < xs.length
    · obtain ⟨b1, o1, avm, qvm, rfl, hb1, hgm, ham, hqm⟩ := rs_at HA.out hlt
      have hbr1 : b1 < wr.heap.size := Nat.lt_of_lt_of_le hb1 HBW.out.size
      have hom := HOK.out _ (List.getElem_mem hlt)
      have q1 : (i : Int) < (xs.length : Int) := by omega
      obtain ⟨m, hm⟩ : ∃ m, m = xs[i] := ⟨_, rfl⟩
      rw [← hm] at hgm ham hqm hom
      obtain ⟨M, hM⟩ : ∃ M, M = subC m avm qvm := ⟨_, rfl⟩
      have HM := Lib.hid (show Cub M by rw [hM]; exact Cub.mk_ m (rl_one ham) (rl_one hqm))
      have HME := Lib.hid hM
      obtain ⟨gb, hgb⟩ : ∃ gb, gb = goodB m cl nx := ⟨_, rfl⟩
      have HG1 := Lib.hid (fun W (hW : Below w.heap.size w W) => by have := goodP_any m avm qvm cl nx W (ham.below stays_ci hW) (hqm.below stays_cm hW) hom.til hc1 hc2; rw [← hgb, ← hM] at this; exact this : ∀ W (hW : Below w.heap.size w W), Calls Tryd.prog 19 #[.agg M.toArray, .int .i64 cl, .int .i64 nx] W fun e w' => e = .returned (.bool gb) ∧ Below W.heap.size W w')
      have HG2 := Lib.hid (fun W (hW : Below w.heap.size w W) => by have := good_any m avm qvm cl nx hom.ok.name hom.ok.topic hom.ok.want hom.ok.attr W (ham.below stays_ci hW) (hqm.below stays_cm hW); rw [← hgb, ← hM] at this; exact this : ∀ W (hW : Below w.heap.size w W), Calls Tryd.prog 28 #[.agg M.toArray, .int .i64 cl, .int .i64 nx] W fun e w' => e = .returned (.bool gb) ∧ Below W.heap.size W w')
      rw [← hM] at hgm
      have HM0 := Lib.hid (range_below hgm hb1 HBW.out)
      clear hm hM hgb hgm ham hqm hom
      by_cases hle : m.lease < 1152921504606846976
      · go_wp2_with fail
        refine wp_region_held_drew (S := SB [wr]) (by kernel_rfl) (SB.start _) (fun hHeld => ?_)
        refine tkC 0 ?_
        refine tkA 1 (v := .slice (some ⟨b1, o1, none⟩) xs.length k1) ?_ ?_
        · intro W hSw; have hq := (SB.b0 hSw).cell (p := ⟨w.heap.size, 3, none⟩) hl3 |>.trans c3; go_simp; try (with_reducible rfl)
        try simp only [Act.put, zA, zB, zC]
        refine tkC 2 ?_
        refine tkA 3 (v := .pointer (some ⟨b1, o1 + i * 10, none⟩)) ?_ ?_
        · intro W hSw; go_simp; try (with_reducible rfl)
        try simp only [Act.put, zA, zB, zC]
        refine tkC 4 ?_
        refine tkA 5 (v := .int .i64 m.lease) ?_ ?_
        · intro W hSw; have hq := (range_below HM0.out hbr1 (SB.b0 hSw)) 4 (.int .i64 m.lease) (by rw [HME.out]; rfl); go_simp; try (with_reducible rfl)
        try simp only [Act.put, zA, zB, zC]
        refine tkA 6 (v := .bool true) ?_ ?_
        · intro W hSw; go_simp; try (with_reducible rfl)
        try simp only [Act.put, zA, zB, zC]
        refine tkC 7 ?_
        refine tkC 8 ?_
        refine tkA 9 (v := .slice (some ⟨b1, o1, none⟩) xs.length k1) ?_ ?_
        · intro W hSw; have hq := (SB.b0 hSw).cell (p := ⟨w.heap.size, 3, none⟩) hl3 |>.trans c3; go_simp; try (with_reducible rfl)
        try simp only [Act.put, zA, zB, zC]
        refine tkC 10 ?_
        refine tkA 11 (v := .pointer (some ⟨b1, o1 + i * 10, none⟩)) ?_ ?_
        · intro W hSw; go_simp; try (with_reducible rfl)
        try simp only [Act.put, zA, zB, zC]
        refine tkA 12 (v := .agg M.toArray) (fun W hSw => exec_load_mid 35 (.tmp 29) rfl b1 (o1 + i * 10) rfl _ _ (range_below HM0.out hbr1 (SB.b0 hSw)) Tryd.underlying35 rfl HM.out.infoL) ?_
        try simp only [Act.put, zA, zB, zC]
        refine tkC 13 ?_
        refine tkC 14 ?_
        refine tkC 16 ?_
        refine tkA 17 (v := .slice (some ⟨b1, o1, none⟩) xs.length k1) ?_ ?_
        · intro W hSw; have hq := (SB.b0 hSw).cell (p := ⟨w.heap.size, 3, none⟩) hl3 |>.trans c3; go_simp; try (with_reducible rfl)
        try simp only [Act.put, zA, zB, zC]
        refine tkC 18 ?_
        refine tkA 19 (v := .pointer (some ⟨b1, o1 + i * 10, none⟩)) ?_ ?_
        · intro W hSw; go_simp; try (with_reducible rfl)
        try simp only [Act.put, zA, zB, zC]
        refine tkA 20 (v := .agg M.toArray) (fun W hSw => exec_load_mid 35 (.tmp 37) rfl b1 (o1 + i * 10) rfl _ _ (range_below HM0.out hbr1 (SB.b0 hSw)) Tryd.underlying35 rfl HM.out.infoL) ?_
        try simp only [Act.put, zA, zB, zC]
        refine tkC 21 ?_
        refine tkC 22 ?_
        refine rdA (rs := [15]) (arC (i := 15) fun K hK => ?_)
        go_simp
        refine (HG1.out _ (HBW.out.trans ((SB.b0 hHeld).mono HBW.out.size))).mono ?_
        rintro e w6 ⟨rfl, hbw6⟩
        try (go_wp2_with fail)
        have hHeld' := SB.step hHeld hbw6
        refine hK.out _ _ ?_ (fun _ => ?_)
        · exact hHeld'
        clear hK K hHeld
        have hHeld := hHeld'
        clear hHeld'
        try simp only [Act.put, zA, zB, zC]
        refine rdA (rs := [23]) (arC (i := 23) fun K hK => ?_)
        go_simp
        refine (HG2.out _ (HBW.out.trans ((SB.b0 hHeld).mono HBW.out.size))).mono ?_
        rintro e w7 ⟨rfl, hbw7⟩
        try (go_wp2_with fail)
        have hHeld' := SB.step hHeld hbw7
        refine hK.out _ _ ?_ (fun _ => ?_)
        · exact hHeld'
        clear hK K hHeld
        have hHeld := hHeld'
        clear hHeld'
        try simp only [Act.put, zA, zB, zC]
        refine tkA 24 (v := .bool false) ?_ ?_
        · intro W hSw; go_simp; try (first | done | (cases gb <;> rfl) | simp)
        try simp only [Act.put, zA, zB, zC]
        refine tkC 25 ?_
        refine wpAnyH_done (by kernel_rfl) ?_ _
        have HBD := Lib.hid (HBL.out.trans ((SB.b0 hHeld).mono HBL.out.size))
        clear hHeld hbw6 hbw7 c3
        go_wp2
        go_roundw
        case rel => exact ⟨i + 1, by omega, by go_num, HBD.out⟩
        case measure => simp [intOf]; omega
      · go_wp2_with fail
        refine wp_region_held_drew (S := SB [wr]) (by kernel_rfl) (SB.start _) (fun hHeld => ?_)
        refine tkC 0 ?_
        refine tkA 1 (v := .slice (some ⟨b1, o1, none⟩) xs.length k1) ?_ ?_
        · intro W hSw; have hq := (SB.b0 hSw).cell (p := ⟨w.heap.size, 3, none⟩) hl3 |>.trans c3; go_simp; try (with_reducible rfl)
        try simp only [Act.put, zA, zB, zC]
        refine tkC 2 ?_
        refine tkA 3 (v := .pointer (some ⟨b1, o1 + i * 10, none⟩)) ?_ ?_
        · intro W hSw; go_simp; try (with_reducible rfl)
        try simp only [Act.put, zA, zB, zC]
        refine tkC 4 ?_
        refine tkA 5 (v := .int .i64 m.lease) ?_ ?_
        · intro W hSw; have hq := (range_below HM0.out hbr1 (SB.b0 hSw)) 4 (.int .i64 m.lease) (by rw [HME.out]; rfl); go_simp; try (with_reducible rfl)
        try simp only [Act.put, zA, zB, zC]
        refine tkA 6 (v := .bool false) ?_ ?_
        · intro W hSw; go_simp; try (with_reducible rfl)
        try simp only [Act.put, zA, zB, zC]
        refine tkC 7 ?_
        refine tkB 8 ?_
        refine tkB 9 ?_
        refine tkB 10 ?_
        refine tkB 11 ?_
        refine tkB 12 ?_
        refine tkB 13 ?_
        refine tkB 14 ?_
        refine tkB 15 ?_
        refine tkB 16 ?_
        refine tkB 17 ?_
        refine tkB 18 ?_
        refine tkB 19 ?_
        refine tkB 20 ?_
        refine tkB 21 ?_
        refine tkB 22 ?_
        refine tkB 23 ?_
        refine tkB 24 ?_
        refine tkC 25 ?_
        refine wpAnyH_done (by kernel_rfl) ?_ _
        have HBD := Lib.hid (HBL.out.trans ((SB.b0 hHeld).mono HBL.out.size))
        clear hHeld c3
        go_wp2
        go_roundw
        case rel => exact ⟨i + 1, by omega, by go_num, HBD.out⟩
        case measure => simp [intOf]; omega
    · have q1 : ¬ (i : Int) < (xs.length : Int) := by omega
      go_wp2_with fail
      clear c3
      refine wp_region_held_drew (S := SB [wr]) (by kernel_rfl) (SB.start _) (fun hHeld => ?_)
      refine tkA 0 (v := .agg #[.int .i64 c, .int .i64 n, .int .i64 l, .slice A1 xs.length k1]) (fun W hSw => exec_load_mid 24 (.tmp 3) rfl w.heap.size 0 rfl _ _ ((HX0.out.below HBL.out).below (SB.b0 hSw)).range Tryd.underlying24 rfl size24) ?_
      try simp only [Act.put, zA, zB, zC]
      refine tkA 2 (v := .agg #[.int .i64 c, .int .i64 n, .int .i64 l, .slice A1 xs.length k1]) (fun W hSw => exec_load_mid 24 (.tmp 3) rfl w.heap.size 0 rfl _ _ ((HX0.out.below HBL.out).below (SB.b0 hSw)).range Tryd.underlying24 rfl size24) ?_
      try simp only [Act.put, zA, zB, zC]
      refine rdA (rs := [1]) (arC (i := 1) fun K hK => ?_)
      go_simp
      refine (HR1.out _ (HBW.out.trans ((SB.b0 hHeld).mono HBW.out.size))).mono ?_
      rintro e w6 ⟨rfl, hbw6⟩
      try (go_wp2_with fail)
      have hHeld' := SB.step hHeld hbw6
      refine hK.out _ _ ?_ (fun _ => ?_)
      · exact hHeld'
      clear hK K hHeld
      have hHeld := hHeld'
      clear hHeld'
      try simp only [Act.put, zA, zB, zC]
      refine rdA (rs := [3]) (arC (i := 3) fun K hK => ?_)
      go_simp
      refine (HR2.out _ (HBW.out.trans ((SB.b0 hHeld).mono HBW.out.size))).mono ?_
      rintro e w7 ⟨rfl, hbw7⟩
      try (go_wp2_with fail)
      have hHeld' := SB.step hHeld hbw7
      refine hK.out _ _ ?_ (fun _ => ?_)
      · exact hHeld'
      clear hK K hHeld
      have hHeld := hHeld'
      clear hHeld'
      try simp only [Act.put, zA, zB, zC]
      refine tkA 4 (v := .bool true) ?_ ?_
      · intro W hSw; go_simp; try (first | done | (cases rb <;> rfl) | simp)
      try simp only [Act.put, zA, zB, zC]
      refine tkC 5 ?_
      refine wpAnyH_done (by kernel_rfl) ?_ _
      have HBD := Lib.hid (HBW.out.trans ((SB.b0 hHeld).mono HBW.out.size))
      clear hHeld hbw6 hbw7
      go_wp2
      go_ret
      exact ⟨rfl, HBD.out⟩
end Go.Proofs.YtcmkmdghekkkhaaDoor
