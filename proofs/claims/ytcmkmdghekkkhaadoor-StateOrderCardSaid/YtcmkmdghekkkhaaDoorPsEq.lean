/-
  The contracts of slices.Equal of numbers and of messages, and of the program's same and Same (layer state).
-/
import Derived.Test.YtcmkmdghekkkhaaDoorTsSame
import Derived.Handy
set_option linter.unusedVariables false
namespace Go.Proofs.YtcmkmdghekkkhaaDoor
open Go.RowKit Go.Rst Go.Tp Go.Ts
theorem ne_of_len {α : Type} {xs ys : List α} (h : xs.length ≠ ys.length) : xs ≠ ys := fun e => h (by rw [e])
theorem ne_of_at {α : Type} {xs ys : List α} {k : Nat} {h1 : k < xs.length} {h2 : k < ys.length} (h : xs[k] ≠ ys[k]) : xs ≠ ys := fun e => h (by subst e; rfl)

set_option maxRecDepth 100000 in
set_option maxHeartbeats 2000000 in
theorem equalI_any {va vb : Value} {xs ys : List Int} {w : World} (ha : RI w va xs) (hb : RI w vb ys) :
    Calls Tryd.prog 65 #[va, vb] w fun e w' => e = .returned (.bool (decide (xs = ys))) ∧ Below w.heap.size w w' := by
  obtain ⟨A1, k1, rfl, _, h1⟩ := ha.shape
  obtain ⟨A2, k2, rfl, _, h2⟩ := hb.shape
  unfold maxLen at h1 h2
  obtain ⟨r, hr0⟩ : ∃ r, decide (xs = ys) = r := ⟨_, rfl⟩
  rw [hr0]
  have HR0 := Lib.hid hr0
  have HA := Lib.hid ha
  have HB := Lib.hid hb
  clear hr0 ha hb
  by_cases hne : xs.length = ys.length
  case neg =>
    have HE := Lib.hid (show r = false by rw [← HR0.out]; exact decide_eq_false (ne_of_len hne))
    go_enter Tryd.func65, Tryd.ntmps65
    go_wp2
    go_ret
    exact ⟨by rw [HE.out] <;> rfl, Below.refl _ _⟩
  have HL := Lib.hid hne
  have q0 : ((xs.length : Int) != (ys.length : Int)) = false := by rw [hne]; simp
  clear hne
  go_enter Tryd.func65, Tryd.ntmps65
  go_wp2_with fail
  go_loopw [13] (fun i wr => ∃ k : Nat, k ≤ xs.length ∧ i = .int .i64 k ∧ xs.take k = ys.take k ∧ Below w.heap.size w wr) (fun i _ => xs.length - (intOf i).toNat)
  case atStart => exact ⟨0, Nat.zero_le _, rfl, rfl, Below.refl _ _⟩
  case round =>
    obtain ⟨k, hk, rfl, hal, hbel⟩ := hrel
    have HAL := Lib.hid hal
    have HBL := Lib.hid hbel
    clear hbel hal
    by_cases hlt : k < xs.length
    · have hlt2 : k < ys.length := by rw [← HL.out]; exact hlt
      obtain ⟨b1, o1, cs1, hA1, hb1, hc1, hr1⟩ := HA.out.at_ hlt
      obtain ⟨b2, o2, cs2, hA2, hb2, hc2, hr2⟩ := HB.out.at_ hlt2
      subst hA1
      subst hA2
      have hc1 : cs1 = [.int .i64 xs[k]] := hc1
      have hc2 : cs2 = [.int .i64 ys[k]] := hc2
      subst hc1
      subst hc2
      have e1 := hr1 0 (by simp)
      have e2 := hr2 0 (by simp)
      simp only [List.getElem_cons_zero, Nat.mul_one, Nat.add_zero] at e1 e2
      have e1 := (HBL.out.cell (p := ⟨b1, o1 + k, none⟩) hb1).trans e1
      have e2 := (HBL.out.cell (p := ⟨b2, o2 + k, none⟩) hb2).trans e2
      have hl1 : b1 < wr.heap.size := Nat.lt_of_lt_of_le hb1 HBL.out.size
      have hl2 : b2 < wr.heap.size := Nat.lt_of_lt_of_le hb2 HBL.out.size
      have HTS := Lib.hid (take_same hlt hlt2)
      have HNE := Lib.hid (fun h : xs[k] ≠ ys[k] => ne_of_at h)
      obtain ⟨m, hm⟩ : ∃ m, m = xs[k] := ⟨_, rfl⟩
      obtain ⟨n, hn⟩ : ∃ n, n = ys[k] := ⟨_, rfl⟩
      rw [← hm] at e1
      rw [← hn] at e2
      rw [← hm, ← hn] at HTS HNE
      have q1 : (k : Int) < (xs.length : Int) := by omega
      have q2 : (k : Int) < (ys.length : Int) := by omega
      clear hm hn
      go_wp2_with fail
      refine wp_region_held_drew (S := SB [wr]) (by kernel_rfl) (SB.start _) (fun hHeld => ?_)
      refine tkC 0 ?_
      refine tkC 1 ?_
      refine tkC 2 ?_
      refine tkA 3 (v := ?_) ?_ ?_
      rotate_left
      · intro W hSw; have hq := (SB.b0 hSw).cell (p := ⟨b1, o1 + k, none⟩) hl1 |>.trans e1; go_simp; try (with_reducible rfl)
      try simp only [Act.put, zA, zB, zC]
      refine tkC 4 ?_
      refine tkC 5 ?_
      refine tkC 6 ?_
      refine tkA 7 (v := ?_) ?_ ?_
      rotate_left
      · intro W hSw; have hq := (SB.b0 hSw).cell (p := ⟨b2, o2 + k, none⟩) hl2 |>.trans e2; go_simp; try (with_reducible rfl)
      try simp only [Act.put, zA, zB, zC]
      refine tkC 8 ?_
      try simp only [Act.put, zA, zB, zC]
      refine wpAnyH_done (by kernel_rfl) ?_ _
      clear hHeld
      obtain ⟨wd, hwd⟩ : ∃ wd, wd = wr.drew := ⟨_, rfl⟩
      have HBD := Lib.hid (show Below w.heap.size w wd by rw [hwd]; exact HBL.out.drew)
      rw [← hwd]
      clear hwd e1 e2 hr1 hr2
      by_cases he : m = n
      · have HN := Lib.hid (HTS.out.2 ⟨HAL.out, he⟩)
        have hbq : (m != n) = false := by simp [he]
        clear he
        go_wp2
        go_roundw
        case rel => exact ⟨k + 1, by omega, by go_num, HN.out, HBD.out⟩
        case measure => simp [intOf]; omega
      · have HE := Lib.hid (show r = false by rw [← HR0.out]; exact decide_eq_false (HNE.out he))
        have hbq : (m != n) = true := by simp [he]
        clear he
        go_wp2
        go_ret
        exact ⟨by rw [HE.out] <;> rfl, HBD.out⟩
    · have q1 : ¬ (k : Int) < (xs.length : Int) := by omega
      have HE := Lib.hid (show r = true by rw [← HR0.out]; have h := HAL.out; rw [List.take_of_length_le (by omega), List.take_of_length_le (by rw [← HL.out]; omega)] at h; exact decide_eq_true h)
      go_wp2
      go_ret
      exact ⟨by rw [HE.out] <;> rfl, HBL.out⟩

set_option maxRecDepth 100000 in
set_option maxHeartbeats 2000000 in
theorem equalM_any {va vb : Value} {xs ys : List Msg} {w : World} (ha : RM w va xs) (hb : RM w vb ys) :
    Calls Tryd.prog 66 #[va, vb] w fun e w' => e = .returned (.bool (decide (xs = ys))) ∧ Below w.heap.size w w' := by
  obtain ⟨A1, k1, rfl, _, h1⟩ := ha.shape
  obtain ⟨A2, k2, rfl, _, h2⟩ := hb.shape
  unfold maxLen at h1 h2
  obtain ⟨r, hr0⟩ : ∃ r, decide (xs = ys) = r := ⟨_, rfl⟩
  rw [hr0]
  have HR0 := Lib.hid hr0
  have HA := Lib.hid ha
  have HB := Lib.hid hb
  clear hr0 ha hb
  by_cases hne : xs.length = ys.length
  case neg =>
    have HE := Lib.hid (show r = false by rw [← HR0.out]; exact decide_eq_false (ne_of_len hne))
    go_enter Tryd.func66, Tryd.ntmps66
    go_wp2
    go_ret
    exact ⟨by rw [HE.out] <;> rfl, Below.refl _ _⟩
  have HL := Lib.hid hne
  have q0 : ((xs.length : Int) != (ys.length : Int)) = false := by rw [hne]; simp
  clear hne
  go_enter Tryd.func66, Tryd.ntmps66
  go_wp2_with fail
  go_loopw [13] (fun i wr => ∃ k : Nat, k ≤ xs.length ∧ i = .int .i64 k ∧ xs.take k = ys.take k ∧ Below w.heap.size w wr) (fun i _ => xs.length - (intOf i).toNat)
  case atStart => exact ⟨0, Nat.zero_le _, rfl, rfl, Below.refl _ _⟩
  case round =>
    obtain ⟨k, hk, rfl, hal, hbel⟩ := hrel
    have HAL := Lib.hid hal
    have HBL := Lib.hid hbel
    clear hbel hal
    by_cases hlt : k < xs.length
    · have hlt2 : k < ys.length := by rw [← HL.out]; exact hlt
      obtain ⟨b1, o1, hA1, hb1, hr1⟩ := rm_at HA.out hlt
      obtain ⟨b2, o2, hA2, hb2, hr2⟩ := rm_at HB.out hlt2
      subst hA1
      subst hA2
      have hr1 := range_below hr1 hb1 HBL.out
      have hr2 := range_below hr2 hb2 HBL.out
      have hl1 : b1 < wr.heap.size := Nat.lt_of_lt_of_le hb1 HBL.out.size
      have hl2 : b2 < wr.heap.size := Nat.lt_of_lt_of_le hb2 HBL.out.size
      have HTS := Lib.hid (take_same hlt hlt2)
      have HNE := Lib.hid (fun h : xs[k] ≠ ys[k] => ne_of_at h)
      obtain ⟨m, hm⟩ : ∃ m, m = xs[k] := ⟨_, rfl⟩
      obtain ⟨n, hn⟩ : ∃ n, n = ys[k] := ⟨_, rfl⟩
      rw [← hm] at hr1
      rw [← hn] at hr2
      rw [← hm, ← hn] at HTS HNE
      have q1 : (k : Int) < (xs.length : Int) := by omega
      have q2 : (k : Int) < (ys.length : Int) := by omega
      clear hm hn
      go_wp2_with fail
      refine wp_region_held_drew (S := SB [wr]) (by kernel_rfl) (SB.start _) (fun hHeld => ?_)
      refine tkC 0 ?_
      refine tkC 1 ?_
      refine tkC 2 ?_
      refine tkA 3 (v := .agg (msgC m).toArray) (fun W hSw => exec_load_mid 55 (.tmp 18) rfl b1 (o1 + k * 8) rfl _ _ (range_below hr1 hl1 (SB.b0 hSw)) Tryd.underlying55 rfl size57) ?_
      try simp only [Act.put, zA, zB, zC]
      refine tkC 4 ?_
      refine tkC 5 ?_
      refine tkC 6 ?_
      refine tkA 7 (v := .agg (msgC n).toArray) (fun W hSw => exec_load_mid 55 (.tmp 22) rfl b2 (o2 + k * 8) rfl _ _ (range_below hr2 hl2 (SB.b0 hSw)) Tryd.underlying55 rfl size57) ?_
      try simp only [Act.put, zA, zB, zC]
      refine tkA 8 (v := .bool (!decide (m = n))) (fun W hSw => exec_neq_msg (.tmp 19) (.tmp 23) rfl m n rfl rfl) ?_
      try simp only [Act.put, zA, zB, zC]
      refine wpAnyH_done (by kernel_rfl) ?_ _
      clear hHeld
      obtain ⟨wd, hwd⟩ : ∃ wd, wd = wr.drew := ⟨_, rfl⟩
      have HBD := Lib.hid (show Below w.heap.size w wd by rw [hwd]; exact HBL.out.drew)
      rw [← hwd]
      clear hwd hr1 hr2
      by_cases he : m = n
      · have HN := Lib.hid (HTS.out.2 ⟨HAL.out, he⟩)
        have hd : decide (m = n) = true := decide_eq_true he
        rw [hd, Bool.not_true]
        clear hd
        clear he
        go_wp2
        go_roundw
        case rel => exact ⟨k + 1, by omega, by go_num, HN.out, HBD.out⟩
        case measure => simp [intOf]; omega
      · have HE := Lib.hid (show r = false by rw [← HR0.out]; exact decide_eq_false (HNE.out he))
        have hd : decide (m = n) = false := decide_eq_false he
        rw [hd, Bool.not_false]
        clear hd
        clear he
        go_wp2
        go_ret
        exact ⟨by rw [HE.out] <;> rfl, HBD.out⟩
    · have q1 : ¬ (k : Int) < (xs.length : Int) := by omega
      have HE := Lib.hid (show r = true by rw [← HR0.out]; have h := HAL.out; rw [List.take_of_length_le (by omega), List.take_of_length_le (by rw [← HL.out]; omega)] at h; exact decide_eq_true h)
      go_wp2
      go_ret
      exact ⟨by rw [HE.out] <;> rfl, HBL.out⟩
end Go.Proofs.YtcmkmdghekkkhaaDoor
