/-
  The contract of the program's Right (layer state).
-/
import Derived.Test.YtcmkmdghekkkhaaDoorKRBG
import Derived.Test.YtcmkmdghekkkhaaDoorKRCG
import Derived.Test.YtcmkmdghekkkhaaDoorKRCH
set_option linter.unusedVariables false
set_option linter.unusedVariables false
set_option linter.unusedSimpArgs false
namespace Go.Proofs.YtcmkmdghekkkhaaDoor
open Go.RowKit Go.Rst Go.Tp Go.Ts
theorem st_split (c n l : Int) (xs : List Sub) : stB ⟨c, n, l, xs⟩ = ((decide (0 ≤ c) && decide (c ≤ 4503599627370496)) && ((decide (1 ≤ n) && decide (n ≤ 1073741824)) && ((decide (0 ≤ l) && decide (l ≤ 1073741824)) && (decide (xs.length ≤ 20) && subsB ⟨c, n, l, xs⟩ 0 xs)))) := by
  unfold stB
  simp only [Bool.and_assoc]
set_option maxRecDepth 100000 in
set_option maxHeartbeats 8000000 in
theorem rightP_any (c n l : Int) (v : Value) (xs : List Sub) (w : World) (h : RS w v xs) (hti : ∀ x ∈ xs, ∀ m ∈ x.queue, m.til ≤ 9223372036854775807) :
    Calls Tryd.prog 25 #[.agg (stC c n l v).toArray] w fun e w' => e = .returned (.bool (stB ⟨c, n, l, xs⟩)) ∧ Below w.heap.size w w' := by
  obtain ⟨A1, k1, rfl, _, h1⟩ := h.shape
  unfold maxLen at h1
  rw [st_split]
  obtain ⟨bc, hbc⟩ : ∃ b, (decide (0 ≤ c) && decide (c ≤ 4503599627370496)) = b := ⟨_, rfl⟩
  obtain ⟨bn, hbn⟩ : ∃ b, (decide (1 ≤ n) && decide (n ≤ 1073741824)) = b := ⟨_, rfl⟩
  obtain ⟨bl, hbl⟩ : ∃ b, (decide (0 ≤ l) && decide (l ≤ 1073741824)) = b := ⟨_, rfl⟩
  have HW1 := Lib.hid (fun W => within_is c 0 4503599627370496 bc hbc W)
  have HW2 := Lib.hid (fun W => within_is n 1 1073741824 bn hbn W)
  have HW3 := Lib.hid (fun W => within_is l 0 1073741824 bl hbl W)
  have HCC := Lib.hid (fun h : bc = true => show 0 ≤ c ∧ c ≤ 4503599627370496 by rw [h] at hbc; simpa using hbc)
  rw [hbc, hbn, hbl]
  obtain ⟨r, hr⟩ : ∃ r, r = (bc && (bn && (bl && (decide (xs.length ≤ 20) && subsB ⟨c, n, l, xs⟩ 0 xs)))) := ⟨_, rfl⟩
  rw [← hr]
  have HR := Lib.hid hr
  simp only [stC]
  have HA := Lib.hid h
  have HTI := Lib.hid hti
  clear h hti hbc hbn hbl hr
  obtain ⟨W0, hW0⟩ : ∃ W0, W0 = w.alloc (.cells #[.int .i64 c, .int .i64 n, .int .i64 l, .slice A1 xs.length k1] 24) := ⟨_, rfl⟩
  have hb0 : Below w.heap.size w W0 := by rw [hW0]; exact (Below.refl w.heap.size w).alloc (Nat.le_refl _) _
  have hx0 : Wh W0 w.heap.size [.int .i64 c, .int .i64 n, .int .i64 l, .slice A1 xs.length k1] 24 := by rw [hW0]; exact Wh.new w _ _
  have HB0 := Lib.hid hb0
  have HX0 := Lib.hid hx0
  have c0 := hx0.bx.cell (i := 0) (by simp)
  have c1 := hx0.bx.cell (i := 1) (by simp)
  have c2 := hx0.bx.cell (i := 2) (by simp)
  have c3 := hx0.bx.cell (i := 3) (by simp)
  simp only [List.getElem_cons_succ, List.getElem_cons_zero] at c0 c1 c2 c3
  clear hb0 hx0
  go_enter Tryd.func25, Tryd.ntmps25
  go_wp2_with fail
  rw [← hW0]
  clear hW0
  refine (HW1.out _).mono ?_
  rintro e w5 ⟨rfl, hw5⟩
  subst w5
  cases bc with
  | false =>
    have HE := Lib.hid (show r = false by rw [HR.out]; simp)
    go_wp2
    go_ret
    exact ⟨by rw [HE.out] <;> rfl, HB0.out⟩
  | true =>
  go_wp2_with fail
  refine (HW2.out _).mono ?_
  rintro e w5 ⟨rfl, hw5⟩
  subst w5
  cases bn with
  | false =>
    have HE := Lib.hid (show r = false by rw [HR.out]; simp)
    go_wp2
    go_ret
    exact ⟨by rw [HE.out] <;> rfl, HB0.out⟩
  | true =>
  go_wp2_with fail
  refine (HW3.out _).mono ?_
  rintro e w5 ⟨rfl, hw5⟩
  subst w5
  cases bl with
  | false =>
    have HE := Lib.hid (show r = false by rw [HR.out]; simp)
    go_wp2
    go_ret
    exact ⟨by rw [HE.out] <;> rfl, HB0.out⟩
  | true =>
  by_cases g6 : (20 : Int) < (xs.length : Int)
  · have HE := Lib.hid (show r = false by rw [HR.out, decide_eq_false (show ¬ xs.length ≤ 20 by omega)]; simp)
    go_wp2
    go_ret
    exact ⟨by rw [HE.out] <;> rfl, HB0.out⟩
  have hlen : xs.length ≤ 20 := by omega
  have HRS := Lib.hid (show r = subsB ⟨c, n, l, xs⟩ 0 xs by rw [HR.out, decide_eq_true hlen]; simp)
  clear g6
  have hlenI : ¬ (20 : Int) < (xs.length : Int) := by omega
  have hcr := HCC.out (by trivial)
  go_wp2_with fail
  clear c0 c1 c2 c3
  go_loopw [3, 31] (fun la i wr => ∃ (k : Nat) (last : Int), k ≤ xs.length ∧ i = .int .i64 k ∧ la = .int .i64 last ∧ subsB ⟨c, n, l, xs⟩ 0 xs = subsB ⟨c, n, l, xs⟩ last (xs.drop k) ∧ Below W0.heap.size W0 wr) (fun _ i _ => xs.length - (intOf i).toNat)
  case atStart => exact ⟨0, 0, Nat.zero_le _, rfl, rfl, rfl, Below.refl _ _⟩
  case round =>
    obtain ⟨k, last, hk, rfl, rfl, hal, hbel⟩ := hrel
    have hbw := HB0.out.trans (hbel.mono HB0.out.size)
    have HBW := Lib.hid hbw
    have HAL := Lib.hid hal
    have HBL := Lib.hid hbel
    clear hal
    by_cases hlt : k < xs.length
    · obtain ⟨b1, o1, av, qv, rfl, hb1, hr1, ha1, hq1⟩ := rs_at HA.out hlt
      have hg1 := range_below hr1 hb1 HBW.out
      have hst := subsB_drop (s := ⟨c, n, l, xs⟩) (last := last) hlt
      have htm := HTI.out _ (List.getElem_mem hlt)
      obtain ⟨m, hm⟩ : ∃ m, m = xs[k] := ⟨_, rfl⟩
      rw [← hm] at hg1 ha1 hq1 hst htm
      have q1 : (k : Int) < (xs.length : Int) := by omega
      obtain ⟨gb, hgb⟩ : ∃ gb, gb = goodB m c n := ⟨_, rfl⟩
      obtain ⟨C, hC⟩ : ∃ C, C = subC m av qv := ⟨_, rfl⟩
      have HC := Lib.hid (show Cub C by rw [hC]; exact Cub.mk_ m (rl_one ha1) (rl_one hq1))
      have HS := Lib.hid (fun (W : World) (hW : Below w.heap.size w W) => by have := goodP_any m av qv c n W (ha1.below stays_ci hW) (hq1.below stays_cm hW) htm hcr.1 (by omega); rw [← hC, ← hgb] at this; exact this : ∀ (W : World) (hW : Below w.heap.size w W), Calls Tryd.prog 19 #[.agg C.toArray, .int .i64 c, .int .i64 n] W fun e w' => e = .returned (.bool gb) ∧ Below W.heap.size W w')
      rw [← hC] at hg1
      have HG1 := Lib.hid hg1
      have HGB := Lib.hid hgb
      have HSD := Lib.hid hst
      have hbx := box_below wr C
      have hwx := box_wh wr C
      have hsx := (HX0.out.below hbel).below hbx
      have s0 := hsx.bx.cell (i := 0) (by simp)
      have s1 := hsx.bx.cell (i := 1) (by simp)
      have s2 := hsx.bx.cell (i := 2) (by simp)
      simp only [List.getElem_cons_succ, List.getElem_cons_zero] at s0 s1 s2
      have x0 := hwx.bx.cell (i := 0) (by rw [HC.out.len]; omega)
      have hx0 : C[0]'(by rw [HC.out.len]; omega) = .int .i64 m.id := by subst hC; rfl
      rw [hx0] at x0
      have HWX := Lib.hid hwx
      have hbv : Below w.heap.size w (boxW wr C) := HBW.out.trans (hbx.mono HBW.out.size)
      have hbv0 : Below W0.heap.size W0 (boxW wr C) := HBL.out.trans (hbx.mono HBL.out.size)
      have HBV := Lib.hid hbv
      have HBV0 := Lib.hid hbv0
      clear hr1 hm hb1 ha1 hq1 htm hC hg1 hgb hst hbx hwx hsx hx0 hbv hbv0 hbw hbel
      by_cases g1 : m.id ≤ last
      · have HE := Lib.hid (show r = false by rw [HRS.out, HAL.out, HSD.out, decide_eq_false (show ¬ last < m.id by omega)]; simp)
        go_wp2_with (first | (refine wpList_load_midG (by rfl) 35 (.tmp 33) rfl b1 (o1 + k * 10) rfl _ _ HG1.out Tryd.underlying35 rfl HC.out.infoL ?_) | (refine wpList_store_row rfl 35 (.tmp 5) (.tmp 34) rfl wr.heap.size C.toArray rfl rfl 35 #[.int .i64 0, .string ⟨#[]⟩, .string ⟨#[]⟩, .string ⟨#[]⟩, .int .i64 0, .int .i64 0, .int .i64 0, .slice none 0 0, .slice none 0 0, .string ⟨#[]⟩] (box_old wr) HC.out.info HC.out.old HC.out.all ?_; rw [box_def]))
        go_ret
        exact ⟨by rw [HE.out] <;> rfl, HBV.out⟩
      by_cases g2 : l < m.id
      · have HE := Lib.hid (show r = false by rw [HRS.out, HAL.out, HSD.out, decide_eq_false (show ¬ m.id ≤ l by omega)]; simp)
        go_wp2_with (first | (refine wpList_load_midG (by rfl) 35 (.tmp 33) rfl b1 (o1 + k * 10) rfl _ _ HG1.out Tryd.underlying35 rfl HC.out.infoL ?_) | (refine wpList_store_row rfl 35 (.tmp 5) (.tmp 34) rfl wr.heap.size C.toArray rfl rfl 35 #[.int .i64 0, .string ⟨#[]⟩, .string ⟨#[]⟩, .string ⟨#[]⟩, .int .i64 0, .int .i64 0, .int .i64 0, .slice none 0 0, .slice none 0 0, .string ⟨#[]⟩] (box_old wr) HC.out.info HC.out.old HC.out.all ?_; rw [box_def]))
        go_ret
        exact ⟨by rw [HE.out] <;> rfl, HBV.out⟩
      have HSE := Lib.hid (show r = (gb && subsB ⟨c, n, l, xs⟩ m.id (xs.drop (k + 1))) by rw [HRS.out, HAL.out, HSD.out, decide_eq_true (show last < m.id by omega), decide_eq_true (show m.id ≤ l by omega), HGB.out]; simp)
      go_wp2_with (first | (refine wpList_load_midG (by rfl) 35 (.tmp 33) rfl b1 (o1 + k * 10) rfl _ _ HG1.out Tryd.underlying35 rfl HC.out.infoL ?_) | (refine wpList_store_row rfl 35 (.tmp 5) (.tmp 34) rfl wr.heap.size C.toArray rfl rfl 35 #[.int .i64 0, .string ⟨#[]⟩, .string ⟨#[]⟩, .string ⟨#[]⟩, .int .i64 0, .int .i64 0, .int .i64 0, .slice none 0 0, .slice none 0 0, .string ⟨#[]⟩] (box_old wr) HC.out.info HC.out.old HC.out.all ?_; rw [box_def]) | (refine wpList_load_midG (by rfl) 35 (.tmp 5) rfl wr.heap.size 0 rfl _ _ HWX.out.range Tryd.underlying35 rfl HC.out.infoL ?_))
      refine (HS.out _ HBV.out).mono ?_
      rintro e w3 ⟨rfl, hb3⟩
      have x3 := (HWX.out.below hb3).bx.cell (i := 0) (by rw [HC.out.len]; omega)
      have x4 := HWX.out.bx.cell (i := 0) (by rw [HC.out.len]; omega)
      rw [x0] at x4
      rw [← Option.some.inj x4] at x3
      have HB3 := Lib.hid (HBV.out.trans (hb3.mono HBV.out.size))
      have HB30 := Lib.hid (HBV0.out.trans (hb3.mono HBV0.out.size))
      clear hb3 x4 x0 s0 s1 s2
      cases gb with
      | false =>
        have HE := Lib.hid (show r = false by rw [HSE.out]; simp)
        go_wp2
        go_ret
        exact ⟨by rw [HE.out] <;> rfl, HB3.out⟩
      | true =>
        have HN := Lib.hid (show subsB ⟨c, n, l, xs⟩ 0 xs = subsB ⟨c, n, l, xs⟩ m.id (xs.drop (k + 1)) by rw [← HRS.out, HSE.out]; simp)
        go_wp2
        go_roundw
        case rel => exact ⟨k + 1, m.id, by omega, by go_num, rfl, HN.out, HB30.out⟩
        case measure => simp [intOf]; omega
    · have q1 : ¬ (k : Int) < (xs.length : Int) := by omega
      have HE := Lib.hid (show r = true by rw [HRS.out, HAL.out, List.drop_of_length_le (by omega)]; rfl)
      go_wp2
      go_ret
      exact ⟨by rw [HE.out] <;> rfl, HBW.out⟩
end Go.Proofs.YtcmkmdghekkkhaaDoor
