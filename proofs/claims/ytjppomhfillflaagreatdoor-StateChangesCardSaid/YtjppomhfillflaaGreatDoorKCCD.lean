/-
  The contracts of slices.Equal of numbers and of messages, and of the program's same and Same (layer state).; The program's same, where one of the first fields differs (layer state).; The program's same, where one of the later fields differs (layer state).; The contract of the program's same (layer state).; The contracts of slices.EqualFunc of subscriptions, and of the program's Same (layer state).
-/
import Derived.Handy
import Derived.Test.YtjppomhfillflaaGreatDoorKCCB
set_option linter.unusedVariables false
set_option linter.unusedVariables false
namespace Go.Proofs.YtjppomhfillflaaGreatDoor
open Go.RowKit Go.Rst Go.Tp Go.Ts
theorem ne_of_len {α : Type} {xs ys : List α} (h : xs.length ≠ ys.length) : xs ≠ ys := fun e => h (by rw [e])
theorem ne_of_at {α : Type} {xs ys : List α} {k : Nat} {h1 : k < xs.length} {h2 : k < ys.length} (h : xs[k] ≠ ys[k]) : xs ≠ ys := fun e => h (by subst e; rfl)
set_option maxRecDepth 100000 in
set_option maxHeartbeats 2000000 in
theorem equalI_any {va vb : Value} {xs ys : List Int} {w : World} (ha : RI w va xs) (hb : RI w vb ys) :
    Calls Tryz.prog 39 #[va, vb] w fun e w' => e = .returned (.bool (decide (xs = ys))) ∧ Below w.heap.size w w' := by
  obtain ⟨A1, k1, rfl, _, h1⟩ := ha.shape
  obtain ⟨A2, k2, rfl, _, h2⟩ := hb.shape
  unfold maxLen at h1 h2
  obtain ⟨r, hr0⟩ : ∃ r, decide (xs = ys) = r := ⟨_, rfl⟩
  rw [hr0]
  have HR0 := Lib.hid hr0
  have HA := Lib.hid ha
  have HB := Lib.hid hb
  clear hr0 ha hb
  by_cases hne : xs.length = ys.length
  case neg =>
    have HE := Lib.hid (show r = false by rw [← HR0.out]; exact decide_eq_false (ne_of_len hne))
    go_enter Tryz.func39, Tryz.ntmps39
    go_wp2
    go_ret
    exact ⟨by rw [HE.out] <;> rfl, Below.refl _ _⟩
  have HL := Lib.hid hne
  have q0 : ((xs.length : Int) != (ys.length : Int)) = false := by rw [hne]; simp
  clear hne
  go_enter Tryz.func39, Tryz.ntmps39
  go_wp2_with fail
  go_loopw [13] (fun i wr => ∃ k : Nat, k ≤ xs.length ∧ i = .int .i64 k ∧ xs.take k = ys.take k ∧ Below w.heap.size w wr) (fun i _ => xs.length - (intOf i).toNat)
  case atStart => exact ⟨0, Nat.zero_le _, rfl, rfl, Below.refl _ _⟩
  case round =>
    obtain ⟨k, hk, rfl, hal, hbel⟩ := hrel
    have HAL := Lib.hid hal
    have HBL := Lib.hid hbel
    clear hbel hal
    by_cases hlt : k < xs.length
    · have hlt2 : k < ys.length := by rw [← HL.out]; exact hlt
      obtain ⟨b1, o1, cs1, hA1, hb1, hc1, hr1⟩ := HA.out.at_ hlt
      obtain ⟨b2, o2, cs2, hA2, hb2, hc2, hr2⟩ := HB.out.at_ hlt2
      subst hA1
      subst hA2
      have hc1 : cs1 = [.int .i64 xs[k]] := hc1
      have hc2 : cs2 = [.int .i64 ys[k]] := hc2
      subst hc1
      subst hc2
      have e1 := hr1 0 (by simp)
      have e2 := hr2 0 (by simp)
      simp only [List.getElem_cons_zero, Nat.mul_one, Nat.add_zero] at e1 e2
      have e1 := (HBL.out.cell (p := ⟨b1, o1 + k, none⟩) hb1).trans e1
      have e2 := (HBL.out.cell (p := ⟨b2, o2 + k, none⟩) hb2).trans e2
      have hl1 : b1 < wr.heap.size := Nat.lt_of_lt_of_le hb1 HBL.out.size
      have hl2 : b2 < wr.heap.size := Nat.lt_of_lt_of_le hb2 HBL.out.size
      have HTS := Lib.hid (take_same hlt hlt2)
      have HNE := Lib.hid (fun h : xs[k] ≠ ys[k] => ne_of_at h)
      obtain ⟨m, hm⟩ : ∃ m, m = xs[k] := ⟨_, rfl⟩
      obtain ⟨n, hn⟩ : ∃ n, n = ys[k] := ⟨_, rfl⟩
      rw [← hm] at e1
      rw [← hn] at e2
      rw [← hm, ← hn] at HTS HNE
      have q1 : (k : Int) < (xs.length : Int) := by omega
      have q2 : (k : Int) < (ys.length : Int) := by omega
      clear hm hn
      go_wp2_with fail
      refine wp_region_held_drew (S := SB [wr]) (by kernel_rfl) (SB.start _) (fun hHeld => ?_)
      refine tkC 0 ?_
      refine tkC 1 ?_
      refine tkC 2 ?_
      refine tkA 3 (v := ?_) ?_ ?_
      rotate_left
      · intro W hSw; have hq := (SB.b0 hSw).cell (p := ⟨b1, o1 + k, none⟩) hl1 |>.trans e1; go_simp; try (with_reducible rfl)
      try simp only [Act.put, zA, zB, zC]
      refine tkC 4 ?_
      refine tkC 5 ?_
      refine tkC 6 ?_
      refine tkA 7 (v := ?_) ?_ ?_
      rotate_left
      · intro W hSw; have hq := (SB.b0 hSw).cell (p := ⟨b2, o2 + k, none⟩) hl2 |>.trans e2; go_simp; try (with_reducible rfl)
      try simp only [Act.put, zA, zB, zC]
      refine tkC 8 ?_
      try simp only [Act.put, zA, zB, zC]
      refine wpAnyH_done (by kernel_rfl) ?_ _
      clear hHeld
      obtain ⟨wd, hwd⟩ : ∃ wd, wd = wr.drew := ⟨_, rfl⟩
      have HBD := Lib.hid (show Below w.heap.size w wd by rw [hwd]; exact HBL.out.drew)
      rw [← hwd]
      clear hwd e1 e2 hr1 hr2
      by_cases he : m = n
      · have HN := Lib.hid (HTS.out.2 ⟨HAL.out, he⟩)
        have hbq : (m != n) = false := by simp [he]
        clear he
        go_wp2
        go_roundw
        case rel => exact ⟨k + 1, by omega, by go_num, HN.out, HBD.out⟩
        case measure => simp [intOf]; omega
      · have HE := Lib.hid (show r = false by rw [← HR0.out]; exact decide_eq_false (HNE.out he))
        have hbq : (m != n) = true := by simp [he]
        clear he
        go_wp2
        go_ret
        exact ⟨by rw [HE.out] <;> rfl, HBD.out⟩
    · have q1 : ¬ (k : Int) < (xs.length : Int) := by omega
      have HE := Lib.hid (show r = true by rw [← HR0.out]; have h := HAL.out; rw [List.take_of_length_le (by omega), List.take_of_length_le (by rw [← HL.out]; omega)] at h; exact decide_eq_true h)
      go_wp2
      go_ret
      exact ⟨by rw [HE.out] <;> rfl, HBL.out⟩
set_option maxRecDepth 100000 in
set_option maxHeartbeats 2000000 in
theorem equalM_any {va vb : Value} {xs ys : List Msg} {w : World} (ha : RM w va xs) (hb : RM w vb ys) :
    Calls Tryz.prog 40 #[va, vb] w fun e w' => e = .returned (.bool (decide (xs = ys))) ∧ Below w.heap.size w w' := by
  obtain ⟨A1, k1, rfl, _, h1⟩ := ha.shape
  obtain ⟨A2, k2, rfl, _, h2⟩ := hb.shape
  unfold maxLen at h1 h2
  obtain ⟨r, hr0⟩ : ∃ r, decide (xs = ys) = r := ⟨_, rfl⟩
  rw [hr0]
  have HR0 := Lib.hid hr0
  have HA := Lib.hid ha
  have HB := Lib.hid hb
  clear hr0 ha hb
  by_cases hne : xs.length = ys.length
  case neg =>
    have HE := Lib.hid (show r = false by rw [← HR0.out]; exact decide_eq_false (ne_of_len hne))
    go_enter Tryz.func40, Tryz.ntmps40
    go_wp2
    go_ret
    exact ⟨by rw [HE.out] <;> rfl, Below.refl _ _⟩
  have HL := Lib.hid hne
  have q0 : ((xs.length : Int) != (ys.length : Int)) = false := by rw [hne]; simp
  clear hne
  go_enter Tryz.func40, Tryz.ntmps40
  go_wp2_with fail
  go_loopw [13] (fun i wr => ∃ k : Nat, k ≤ xs.length ∧ i = .int .i64 k ∧ xs.take k = ys.take k ∧ Below w.heap.size w wr) (fun i _ => xs.length - (intOf i).toNat)
  case atStart => exact ⟨0, Nat.zero_le _, rfl, rfl, Below.refl _ _⟩
  case round =>
    obtain ⟨k, hk, rfl, hal, hbel⟩ := hrel
    have HAL := Lib.hid hal
    have HBL := Lib.hid hbel
    clear hbel hal
    by_cases hlt : k < xs.length
    · have hlt2 : k < ys.length := by rw [← HL.out]; exact hlt
      obtain ⟨b1, o1, hA1, hb1, hr1⟩ := rm_at HA.out hlt
      obtain ⟨b2, o2, hA2, hb2, hr2⟩ := rm_at HB.out hlt2
      subst hA1
      subst hA2
      have hr1 := range_below hr1 hb1 HBL.out
      have hr2 := range_below hr2 hb2 HBL.out
      have hl1 : b1 < wr.heap.size := Nat.lt_of_lt_of_le hb1 HBL.out.size
      have hl2 : b2 < wr.heap.size := Nat.lt_of_lt_of_le hb2 HBL.out.size
      have HTS := Lib.hid (take_same hlt hlt2)
      have HNE := Lib.hid (fun h : xs[k] ≠ ys[k] => ne_of_at h)
      obtain ⟨m, hm⟩ : ∃ m, m = xs[k] := ⟨_, rfl⟩
      obtain ⟨n, hn⟩ : ∃ n, n = ys[k] := ⟨_, rfl⟩
      rw [← hm] at hr1
      rw [← hn] at hr2
      rw [← hm, ← hn] at HTS HNE
      have q1 : (k : Int) < (xs.length : Int) := by omega
      have q2 : (k : Int) < (ys.length : Int) := by omega
      clear hm hn
      go_wp2_with fail
      refine wp_region_held_drew (S := SB [wr]) (by kernel_rfl) (SB.start _) (fun hHeld => ?_)
      refine tkC 0 ?_
      refine tkC 1 ?_
      refine tkC 2 ?_
      refine tkA 3 (v := .agg (msgC m).toArray) (fun W hSw => exec_load_mid 38 (.tmp 18) rfl b1 (o1 + k * 8) rfl _ _ (range_below hr1 hl1 (SB.b0 hSw)) Tryz.underlying38 rfl size57) ?_
      try simp only [Act.put, zA, zB, zC]
      refine tkC 4 ?_
      refine tkC 5 ?_
      refine tkC 6 ?_
      refine tkA 7 (v := .agg (msgC n).toArray) (fun W hSw => exec_load_mid 38 (.tmp 22) rfl b2 (o2 + k * 8) rfl _ _ (range_below hr2 hl2 (SB.b0 hSw)) Tryz.underlying38 rfl size57) ?_
      try simp only [Act.put, zA, zB, zC]
      refine tkA 8 (v := .bool (!decide (m = n))) (fun W hSw => exec_neq_msg (.tmp 19) (.tmp 23) rfl m n rfl rfl) ?_
      try simp only [Act.put, zA, zB, zC]
      refine wpAnyH_done (by kernel_rfl) ?_ _
      clear hHeld
      obtain ⟨wd, hwd⟩ : ∃ wd, wd = wr.drew := ⟨_, rfl⟩
      have HBD := Lib.hid (show Below w.heap.size w wd by rw [hwd]; exact HBL.out.drew)
      rw [← hwd]
      clear hwd hr1 hr2
      by_cases he : m = n
      · have HN := Lib.hid (HTS.out.2 ⟨HAL.out, he⟩)
        have hd : decide (m = n) = true := decide_eq_true he
        rw [hd, Bool.not_true]
        clear hd
        clear he
        go_wp2
        go_roundw
        case rel => exact ⟨k + 1, by omega, by go_num, HN.out, HBD.out⟩
        case measure => simp [intOf]; omega
      · have HE := Lib.hid (show r = false by rw [← HR0.out]; exact decide_eq_false (HNE.out he))
        have hd : decide (m = n) = false := decide_eq_false he
        rw [hd, Bool.not_false]
        clear hd
        clear he
        go_wp2
        go_ret
        exact ⟨by rw [HE.out] <;> rfl, HBD.out⟩
    · have q1 : ¬ (k : Int) < (xs.length : Int) := by omega
      have HE := Lib.hid (show r = true by rw [← HR0.out]; have h := HAL.out; rw [List.take_of_length_le (by omega), List.take_of_length_le (by rw [← HL.out]; omega)] at h; exact decide_eq_true h)
      go_wp2
      go_ret
      exact ⟨by rw [HE.out] <;> rfl, HBL.out⟩
end Go.Proofs.YtjppomhfillflaaGreatDoor
set_option linter.unusedVariables false
namespace Go.Proofs.YtjppomhfillflaaGreatDoor
open Go.RowKit Go.Rst Go.Tp Go.Ts
set_option maxRecDepth 100000 in
set_option maxHeartbeats 8000000 in
theorem sameP_a {id lease most floor id2 lease2 most2 floor2 : Int} {name topic want note name2 topic2 want2 note2 : List UInt8} {acks acks2 : List Int} {queue queue2 : List Msg} (A1 A2 Q1 Q2 : Option Addr) (k1 k2 j1 j2 : Nat) (w : World)
    (hno : ¬ (id = id2 ∧ name = name2 ∧ topic = topic2 ∧ want = want2)) :
    Calls Tryz.prog 26 #[.agg #[.int .i64 id, sv name, sv topic, sv want, .int .i64 lease, .int .i64 most, .int .i64 floor, .slice A1 acks.length k1, .slice Q1 queue.length j1, sv note], .agg #[.int .i64 id2, sv name2, sv topic2, sv want2, .int .i64 lease2, .int .i64 most2, .int .i64 floor2, .slice A2 acks2.length k2, .slice Q2 queue2.length j2, sv note2]] w fun e w' => e = .returned (.bool false) ∧ Below w.heap.size w w' := by
  have HBT := Lib.hid (below_two w #[.int .i64 id, sv name, sv topic, sv want, .int .i64 lease, .int .i64 most, .int .i64 floor, .slice A1 acks.length k1, .slice Q1 queue.length j1, sv note] #[.int .i64 id2, sv name2, sv topic2, sv want2, .int .i64 lease2, .int .i64 most2, .int .i64 floor2, .slice A2 acks2.length k2, .slice Q2 queue2.length j2, sv note2] 28 28)
  by_cases hne : id = id2
  case neg =>
    go_enter Tryz.func26, Tryz.ntmps26
    go_wp2
    go_ret
    exact ⟨rfl, HBT.out⟩
  subst hne
  by_cases hne : name = name2
  case neg =>
    go_enter Tryz.func26, Tryz.ntmps26
    go_wp2
    go_ret
    exact ⟨rfl, HBT.out⟩
  subst hne
  by_cases hne : topic = topic2
  case neg =>
    go_enter Tryz.func26, Tryz.ntmps26
    go_wp2
    go_ret
    exact ⟨rfl, HBT.out⟩
  subst hne
  by_cases hne : want = want2
  case neg =>
    go_enter Tryz.func26, Tryz.ntmps26
    go_wp2
    go_ret
    exact ⟨rfl, HBT.out⟩
  subst hne
  exact absurd ⟨rfl, rfl, rfl, rfl⟩ hno
end Go.Proofs.YtjppomhfillflaaGreatDoor
set_option linter.unusedVariables false
namespace Go.Proofs.YtjppomhfillflaaGreatDoor
open Go.RowKit Go.Rst Go.Tp Go.Ts
set_option maxRecDepth 100000 in
set_option maxHeartbeats 8000000 in
theorem sameP_b {id lease most floor lease2 most2 floor2 : Int} {name topic want note note2 : List UInt8} {acks acks2 : List Int} {queue queue2 : List Msg} (A1 A2 Q1 Q2 : Option Addr) (k1 k2 j1 j2 : Nat) (w : World)
    (hno : ¬ (lease = lease2 ∧ most = most2 ∧ floor = floor2 ∧ note = note2)) :
    Calls Tryz.prog 26 #[.agg #[.int .i64 id, sv name, sv topic, sv want, .int .i64 lease, .int .i64 most, .int .i64 floor, .slice A1 acks.length k1, .slice Q1 queue.length j1, sv note], .agg #[.int .i64 id, sv name, sv topic, sv want, .int .i64 lease2, .int .i64 most2, .int .i64 floor2, .slice A2 acks2.length k2, .slice Q2 queue2.length j2, sv note2]] w fun e w' => e = .returned (.bool false) ∧ Below w.heap.size w w' := by
  have HBT := Lib.hid (below_two w #[.int .i64 id, sv name, sv topic, sv want, .int .i64 lease, .int .i64 most, .int .i64 floor, .slice A1 acks.length k1, .slice Q1 queue.length j1, sv note] #[.int .i64 id, sv name, sv topic, sv want, .int .i64 lease2, .int .i64 most2, .int .i64 floor2, .slice A2 acks2.length k2, .slice Q2 queue2.length j2, sv note2] 28 28)
  by_cases hne : lease = lease2
  case neg =>
    go_enter Tryz.func26, Tryz.ntmps26
    go_wp2
    go_ret
    exact ⟨rfl, HBT.out⟩
  subst hne
  by_cases hne : most = most2
  case neg =>
    go_enter Tryz.func26, Tryz.ntmps26
    go_wp2
    go_ret
    exact ⟨rfl, HBT.out⟩
  subst hne
  by_cases hne : floor = floor2
  case neg =>
    go_enter Tryz.func26, Tryz.ntmps26
    go_wp2
    go_ret
    exact ⟨rfl, HBT.out⟩
  subst hne
  by_cases hne : note = note2
  case neg =>
    go_enter Tryz.func26, Tryz.ntmps26
    go_wp2
    go_ret
    exact ⟨rfl, HBT.out⟩
  subst hne
  exact absurd ⟨rfl, rfl, rfl, rfl⟩ hno
end Go.Proofs.YtjppomhfillflaaGreatDoor
set_option linter.unusedVariables false
namespace Go.Proofs.YtjppomhfillflaaGreatDoor
open Go.RowKit Go.Rst Go.Tp Go.Ts
set_option maxRecDepth 100000 in
set_option maxHeartbeats 8000000 in
theorem sameP_any {x y : Sub} {av qv bv rv : Value} {w : World} (ha : RI w av x.acks) (hq : RM w qv x.queue) (hb : RI w bv y.acks) (hr : RM w rv y.queue) :
    Calls Tryz.prog 26 #[.agg (subC x av qv).toArray, .agg (subC y bv rv).toArray] w fun e w' => e = .returned (.bool (decide (x = y))) ∧ Below w.heap.size w w' := by
  obtain ⟨A1, k1, rfl, _, h1⟩ := ha.shape
  obtain ⟨A2, k2, rfl, _, h2⟩ := hb.shape
  obtain ⟨Q1, j1, rfl, _, h3⟩ := hq.shape
  obtain ⟨Q2, j2, rfl, _, h4⟩ := hr.shape
  unfold maxLen at h1 h2 h3 h4
  obtain ⟨id, name, topic, want, lease, most, floor, acks, queue, note⟩ := x
  obtain ⟨id2, name2, topic2, want2, lease2, most2, floor2, acks2, queue2, note2⟩ := y
  simp only [subC] at ha hq hb hr ⊢
  obtain ⟨r, hr0⟩ : ∃ r, decide ((⟨id, name, topic, want, lease, most, floor, acks, queue, note⟩ : Sub) = ⟨id2, name2, topic2, want2, lease2, most2, floor2, acks2, queue2, note2⟩) = r := ⟨_, rfl⟩
  rw [hr0]
  have HR0 := Lib.hid hr0
  clear hr0
  have HA := Lib.hid ha
  have HB := Lib.hid hb
  have HQ := Lib.hid hq
  have HR := Lib.hid hr
  clear ha hb hq hr
  have HBT := Lib.hid (below_two w #[.int .i64 id, sv name, sv topic, sv want, .int .i64 lease, .int .i64 most, .int .i64 floor, .slice A1 acks.length k1, .slice Q1 queue.length j1, sv note] #[.int .i64 id2, sv name2, sv topic2, sv want2, .int .i64 lease2, .int .i64 most2, .int .i64 floor2, .slice A2 acks2.length k2, .slice Q2 queue2.length j2, sv note2] 28 28)
  by_cases hne : id = id2 ∧ name = name2 ∧ topic = topic2 ∧ want = want2
  case neg =>
    have HE := Lib.hid (show r = false by rw [← HR0.out]; exact decide_eq_false fun e => by injection e; exact hne ⟨by assumption, by assumption, by assumption, by assumption⟩)
    rw [HE.out]
    exact sameP_a A1 A2 Q1 Q2 k1 k2 j1 j2 w hne
  obtain ⟨rfl, rfl, rfl, rfl⟩ := hne
  by_cases hne : lease = lease2 ∧ most = most2 ∧ floor = floor2 ∧ note = note2
  case neg =>
    have HE := Lib.hid (show r = false by rw [← HR0.out]; exact decide_eq_false fun e => by injection e; exact hne ⟨by assumption, by assumption, by assumption, by assumption⟩)
    rw [HE.out]
    exact sameP_b A1 A2 Q1 Q2 k1 k2 j1 j2 w hne
  obtain ⟨rfl, rfl, rfl, rfl⟩ := hne
  obtain ⟨W0, hW0⟩ : ∃ W0, W0 = (w.alloc (.cells #[.int .i64 id, sv name, sv topic, sv want, .int .i64 lease, .int .i64 most, .int .i64 floor, .slice A1 acks.length k1, .slice Q1 queue.length j1, sv note] 28)).alloc (.cells #[.int .i64 id, sv name, sv topic, sv want, .int .i64 lease, .int .i64 most, .int .i64 floor, .slice A2 acks2.length k2, .slice Q2 queue2.length j2, sv note] 28) := ⟨_, rfl⟩
  have hx0 : Wh W0 w.heap.size [.int .i64 id, sv name, sv topic, sv want, .int .i64 lease, .int .i64 most, .int .i64 floor, .slice A1 acks.length k1, .slice Q1 queue.length j1, sv note] 28 := by rw [hW0]; exact (Wh.new w _ _).alloc _
  have hy0 : Wh W0 (w.heap.size + 1) [.int .i64 id, sv name, sv topic, sv want, .int .i64 lease, .int .i64 most, .int .i64 floor, .slice A2 acks2.length k2, .slice Q2 queue2.length j2, sv note] 28 := by
    have := Wh.new (w.alloc (.cells #[.int .i64 id, sv name, sv topic, sv want, .int .i64 lease, .int .i64 most, .int .i64 floor, .slice A1 acks.length k1, .slice Q1 queue.length j1, sv note] 28)) [.int .i64 id, sv name, sv topic, sv want, .int .i64 lease, .int .i64 most, .int .i64 floor, .slice A2 acks2.length k2, .slice Q2 queue2.length j2, sv note] 28
    rw [World.size_alloc] at this
    rw [hW0]; exact this
  rw [← hW0] at HBT
  have HX0 := Lib.hid hx0
  have HY0 := Lib.hid hy0
  have HEI := Lib.hid (equalI_any (HA.out.below stays_ci HBT.out) (HB.out.below stays_ci HBT.out))
  have HS0 := Lib.hid (show W0.heap.size = w.heap.size + 2 by rw [hW0]; simp)
  clear hx0 hy0
  by_cases hac : acks = acks2
  case neg =>
    have HE := Lib.hid (show r = false by rw [← HR0.out]; exact decide_eq_false fun e => by injection e; exact hac (by assumption))
    have hda : decide (acks = acks2) = false := decide_eq_false hac
    rw [hda] at HEI
    clear hac hda
    go_enter Tryz.func26, Tryz.ntmps26
    go_wp2_with fail
    rw [← hW0]
    clear hW0
    refine HEI.out.mono ?_
    rintro e w5 ⟨rfl, hb5⟩
    have HB5 := Lib.hid (HBT.out.trans (hb5.mono HBT.out.size))
    clear hb5
    go_wp2
    go_ret
    exact ⟨by rw [HE.out] <;> rfl, HB5.out⟩
  subst hac
  rw [show decide (acks = acks) = true from decide_eq_true rfl] at HEI
  have HE := Lib.hid (show decide (queue = queue2) = r by rw [← HR0.out]; simp)
  go_enter Tryz.func26, Tryz.ntmps26
  go_wp2_with fail
  rw [← hW0]
  clear hW0
  refine HEI.out.mono ?_
  rintro e w5 ⟨rfl, hb5⟩
  have hx5 := HX0.out.below hb5
  have hy5 := HY0.out.below hb5
  have c8 := hx5.bx.cell (i := 8) (by simp)
  have d8 := hy5.bx.cell (i := 8) (by simp)
  simp only [List.getElem_cons_succ, List.getElem_cons_zero] at c8 d8
  have hbt5 := HBT.out.trans (hb5.mono HBT.out.size)
  have HEM := Lib.hid (equalM_any (HQ.out.below stays_cm hbt5) (HR.out.below stays_cm hbt5))
  have HB5 := Lib.hid hbt5
  clear hx5 hy5 hb5 hbt5
  go_wp2_with fail
  refine HEM.out.mono ?_
  rintro e w6 ⟨rfl, hb6⟩
  rw [HE.out]
  have HB6 := Lib.hid (HB5.out.trans (hb6.mono HB5.out.size))
  clear hb6
  go_wp2
  go_ret
  exact ⟨rfl, HB6.out⟩
end Go.Proofs.YtjppomhfillflaaGreatDoor
set_option linter.unusedVariables false
namespace Go.Proofs.YtjppomhfillflaaGreatDoor
open Go.RowKit Go.Rst Go.Tp Go.Ts
abbrev sameVal : Value := .func (.func 26) #[] #[]
set_option maxRecDepth 100000 in
set_option maxHeartbeats 4000000 in
theorem equalF_any {va vb : Value} {xs ys : List Sub} {w : World} (ha : RS w va xs) (hb : RS w vb ys) :
    Calls Tryz.prog 25 #[va, vb, sameVal] w fun e w' => e = .returned (.bool (decide (xs = ys))) ∧ Below w.heap.size w w' := by
  obtain ⟨A1, k1, rfl, _, h1⟩ := ha.shape
  obtain ⟨A2, k2, rfl, _, h2⟩ := hb.shape
  unfold maxLen at h1 h2
  obtain ⟨r, hr0⟩ : ∃ r, decide (xs = ys) = r := ⟨_, rfl⟩
  rw [hr0]
  have HR0 := Lib.hid hr0
  have HA := Lib.hid ha
  have HB := Lib.hid hb
  clear hr0 ha hb
  by_cases hne : xs.length = ys.length
  case neg =>
    have HE := Lib.hid (show r = false by rw [← HR0.out]; exact decide_eq_false (ne_of_len hne))
    go_enter Tryz.func25, Tryz.ntmps25
    go_wp2
    go_ret
    exact ⟨by rw [HE.out] <;> rfl, Below.refl _ _⟩
  have HL := Lib.hid hne
  have q0 : ((xs.length : Int) != (ys.length : Int)) = false := by rw [hne]; simp
  clear hne
  go_enter Tryz.func25, Tryz.ntmps25
  go_wp2_with fail
  go_loopw [17] (fun i wr => ∃ k : Nat, k ≤ xs.length ∧ i = .int .i64 k ∧ xs.take k = ys.take k ∧ Below w.heap.size w wr) (fun i _ => xs.length - (intOf i).toNat)
  case atStart => exact ⟨0, Nat.zero_le _, rfl, rfl, Below.refl _ _⟩
  case round =>
    obtain ⟨k, hk, rfl, hal, hbel⟩ := hrel
    have HAL := Lib.hid hal
    have HBL := Lib.hid hbel
    clear hbel hal
    by_cases hlt : k < xs.length
    · have hlt2 : k < ys.length := by rw [← HL.out]; exact hlt
      obtain ⟨g1, o1, av, qv, rfl, hg1, hrg1, hra1, hrq1⟩ := rs_at HA.out hlt
      obtain ⟨g2, o2, bv, rv, rfl, hg2, hrg2, hra2, hrq2⟩ := rs_at HB.out hlt2
      have hrg1 := range_below hrg1 hg1 HBL.out
      have hrg2 := range_below hrg2 hg2 HBL.out
      have hra1 := hra1.below stays_ci HBL.out
      have hrq1 := hrq1.below stays_cm HBL.out
      have hra2 := hra2.below stays_ci HBL.out
      have hrq2 := hrq2.below stays_cm HBL.out
      have HTS := Lib.hid (take_same hlt hlt2)
      have HNE := Lib.hid (fun h : xs[k] ≠ ys[k] => ne_of_at h)
      obtain ⟨x, hx⟩ : ∃ x, x = xs[k] := ⟨_, rfl⟩
      obtain ⟨y, hy⟩ : ∃ y, y = ys[k] := ⟨_, rfl⟩
      rw [← hx] at hrg1 hra1 hrq1
      rw [← hy] at hrg2 hra2 hrq2
      rw [← hx, ← hy] at HTS HNE
      have hall1 := sub_all x (rl_one hra1) (rl_one hrq1)
      have hall2 := sub_all y (rl_one hra2) (rl_one hrq2)
      obtain ⟨B1, m1, rfl, _, hm1⟩ := hra1.shape
      obtain ⟨B2, m2, rfl, _, hm2⟩ := hra2.shape
      obtain ⟨P1, n1, rfl, _, hn1⟩ := hrq1.shape
      obtain ⟨P2, n2, rfl, _, hn2⟩ := hrq2.shape
      obtain ⟨dd, hdd⟩ : ∃ dd, dd = decide (x = y) := ⟨_, rfl⟩
      have HSM := Lib.hid (fun (W : World) (hW : Below wr.heap.size wr W) => sameP_any (hra1.below stays_ci hW) (hrq1.below stays_cm hW) (hra2.below stays_ci hW) (hrq2.below stays_cm hW))
      rw [← hdd] at HSM
      have HDD := Lib.hid hdd
      have hg1w : g1 < wr.heap.size := Nat.lt_of_lt_of_le hg1 HBL.out.size
      have hg2w : g2 < wr.heap.size := Nat.lt_of_lt_of_le hg2 HBL.out.size
      clear hx hy hdd hra1 hrq1 hra2 hrq2 hm1 hm2 hn1 hn2
      obtain ⟨id, name, topic, want, lease, most, floor, acks, queue, note⟩ := x
      obtain ⟨id2, name2, topic2, want2, lease2, most2, floor2, acks2, queue2, note2⟩ := y
      simp only [subC] at hrg1 hrg2 hall1 hall2 HSM
      have q1 : (k : Int) < (xs.length : Int) := by omega
      have q2 : (k : Int) < (ys.length : Int) := by omega
      obtain ⟨W1, hW1⟩ : ∃ W1, W1 = (wr.alloc (.cells #[.int .i64 0, .string ⟨#[]⟩, .string ⟨#[]⟩, .string ⟨#[]⟩, .int .i64 0, .int .i64 0, .int .i64 0, .slice none 0 0, .slice none 0 0, .string ⟨#[]⟩] 28)).setRow wr.heap.size #[.int .i64 id, sv name, sv topic, sv want, .int .i64 lease, .int .i64 most, .int .i64 floor, .slice B1 acks.length m1, .slice P1 queue.length n1, sv note] := ⟨_, rfl⟩
      have hx1 : Wh W1 wr.heap.size [.int .i64 id, sv name, sv topic, sv want, .int .i64 lease, .int .i64 most, .int .i64 floor, .slice B1 acks.length m1, .slice P1 queue.length n1, sv note] 28 := by rw [hW1]; exact (Wh.new wr [.int .i64 0, .string ⟨#[]⟩, .string ⟨#[]⟩, .string ⟨#[]⟩, .int .i64 0, .int .i64 0, .int .i64 0, .slice none 0 0, .slice none 0 0, .string ⟨#[]⟩] 28).set [.int .i64 id, sv name, sv topic, sv want, .int .i64 lease, .int .i64 most, .int .i64 floor, .slice B1 acks.length m1, .slice P1 queue.length n1, sv note]
      have hb1 : Below wr.heap.size wr W1 := by rw [hW1]; exact below_setRow ((Below.refl _ wr).alloc (Nat.le_refl _) _) (Nat.le_refl _) _
      have hs1 : W1.heap.size = wr.heap.size + 1 := by rw [hW1]; simp
      obtain ⟨W2, hW2⟩ : ∃ W2, W2 = (W1.alloc (.cells #[.int .i64 0, .string ⟨#[]⟩, .string ⟨#[]⟩, .string ⟨#[]⟩, .int .i64 0, .int .i64 0, .int .i64 0, .slice none 0 0, .slice none 0 0, .string ⟨#[]⟩] 28)).setRow W1.heap.size #[.int .i64 id2, sv name2, sv topic2, sv want2, .int .i64 lease2, .int .i64 most2, .int .i64 floor2, .slice B2 acks2.length m2, .slice P2 queue2.length n2, sv note2] := ⟨_, rfl⟩
      have hx2 : Wh W2 W1.heap.size [.int .i64 id2, sv name2, sv topic2, sv want2, .int .i64 lease2, .int .i64 most2, .int .i64 floor2, .slice B2 acks2.length m2, .slice P2 queue2.length n2, sv note2] 28 := by rw [hW2]; exact (Wh.new W1 [.int .i64 0, .string ⟨#[]⟩, .string ⟨#[]⟩, .string ⟨#[]⟩, .int .i64 0, .int .i64 0, .int .i64 0, .slice none 0 0, .slice none 0 0, .string ⟨#[]⟩] 28).set [.int .i64 id2, sv name2, sv topic2, sv want2, .int .i64 lease2, .int .i64 most2, .int .i64 floor2, .slice B2 acks2.length m2, .slice P2 queue2.length n2, sv note2]
      have hb2 : Below W1.heap.size W1 W2 := by rw [hW2]; exact below_setRow ((Below.refl _ W1).alloc (Nat.le_refl _) _) (Nat.le_refl _) _
      have hx12 := hx1.below hb2
      have hb12 := hb1.trans (hb2.mono hb1.size)
      have HN1 := Lib.hid (Wh.new wr [.int .i64 0, .string ⟨#[]⟩, .string ⟨#[]⟩, .string ⟨#[]⟩, .int .i64 0, .int .i64 0, .int .i64 0, .slice none 0 0, .slice none 0 0, .string ⟨#[]⟩] 28)
      have HN2 := Lib.hid (Wh.new W1 [.int .i64 0, .string ⟨#[]⟩, .string ⟨#[]⟩, .string ⟨#[]⟩, .int .i64 0, .int .i64 0, .int .i64 0, .slice none 0 0, .slice none 0 0, .string ⟨#[]⟩] 28)
      rw [hs1] at HN2 hx2 hW2
      have HR1 := Lib.hid hrg1
      have hrg2' := range_below hrg2 hg2w hb1
      have hxr1 := hx12.range
      have hxr2 := hx2.range
      have hn2 := HN2.out
      rw [hW1] at hrg2' hn2
      rw [hW2, hW1] at hxr1 hxr2
      have HR2 := Lib.hid hrg2'
      have HX1 := Lib.hid hxr1
      have HX2 := Lib.hid hxr2
      have HN3 := Lib.hid hn2
      have HA1 := Lib.hid hall1
      have HA2 := Lib.hid hall2
      have HCS := Lib.hid (HSM.out W2 hb12)
      have HB12 := Lib.hid (HBL.out.trans (hb12.mono HBL.out.size))
      have HS1 := Lib.hid hs1
      clear hrg1 hrg2 hrg2' hxr1 hxr2 hn2 HN2 hx1 hb1 hx2 hb2 hx12 hb12 hall1 hall2 HSM hg1w hg2w hs1
      go_wp2_with (first
        | (refine wpList_load_midG (by rfl) 28 (.tmp 20) rfl g1 (o1 + k * 10) rfl _ _ HR1.out Tryz.underlying28 rfl size35 ?_)
        | (refine wpList_store_row rfl 28 (.tmp 8) (.tmp 21) rfl wr.heap.size #[.int .i64 id, sv name, sv topic, sv want, .int .i64 lease, .int .i64 most, .int .i64 floor, .slice B1 acks.length m1, .slice P1 queue.length n1, sv note] rfl rfl 28 #[.int .i64 0, .string ⟨#[]⟩, .string ⟨#[]⟩, .string ⟨#[]⟩, .int .i64 0, .int .i64 0, .int .i64 0, .slice none 0 0, .slice none 0 0, .string ⟨#[]⟩] HN1.out size35 rfl HA1.out ?_)
        | (refine wpList_load_midG (by rfl) 28 (.tmp 24) rfl g2 (o2 + k * 10) rfl _ _ HR2.out Tryz.underlying28 rfl size35 ?_)
        | (refine wpList_store_row rfl 28 (.tmp 9) (.tmp 25) rfl (wr.heap.size + 1) #[.int .i64 id2, sv name2, sv topic2, sv want2, .int .i64 lease2, .int .i64 most2, .int .i64 floor2, .slice B2 acks2.length m2, .slice P2 queue2.length n2, sv note2] rfl rfl 28 #[.int .i64 0, .string ⟨#[]⟩, .string ⟨#[]⟩, .string ⟨#[]⟩, .int .i64 0, .int .i64 0, .int .i64 0, .slice none 0 0, .slice none 0 0, .string ⟨#[]⟩] HN3.out size35 rfl HA2.out ?_)
        | (refine wpList_load_midG (by rfl) 28 (.tmp 8) rfl wr.heap.size 0 rfl _ _ HX1.out Tryz.underlying28 rfl size35 ?_)
        | (refine wpList_load_midG (by rfl) 28 (.tmp 9) rfl (wr.heap.size + 1) 0 rfl _ _ HX2.out Tryz.underlying28 rfl size35 ?_))
      rw [← hW1, ← hW2]
      refine HCS.out.mono ?_
      rintro e w6 ⟨rfl, hb6⟩
      have HB6 := Lib.hid (HB12.out.trans (hb6.mono HB12.out.size))
      clear hb6 hW1 hW2
      cases dd with
      | true =>
        have HN := Lib.hid (HTS.out.2 ⟨HAL.out, of_decide_eq_true HDD.out.symm⟩)
        go_wp2
        go_roundw
        case rel => exact ⟨k + 1, by omega, by go_num, HN.out, HB6.out⟩
        case measure => simp [intOf]; omega
      | false =>
        have HE := Lib.hid (show r = false by rw [← HR0.out]; exact decide_eq_false (HNE.out (of_decide_eq_false HDD.out.symm)))
        go_wp2
        go_ret
        exact ⟨by rw [HE.out] <;> rfl, HB6.out⟩
    · have q1 : ¬ (k : Int) < (xs.length : Int) := by omega
      have HE := Lib.hid (show r = true by rw [← HR0.out]; have h := HAL.out; rw [List.take_of_length_le (by omega), List.take_of_length_le (by rw [← HL.out]; omega)] at h; exact decide_eq_true h)
      go_wp2
      go_ret
      exact ⟨by rw [HE.out] <;> rfl, HBL.out⟩
set_option maxRecDepth 100000 in
set_option maxHeartbeats 4000000 in
theorem sameS_any {c n l c2 n2 l2 : Int} {v v2 : Value} {xs ys : List Sub} {w : World} (ha : RS w v xs) (hb : RS w v2 ys) :
    Calls Tryz.prog 9 #[.agg (stC c n l v).toArray, .agg (stC c2 n2 l2 v2).toArray] w fun e w' => e = .returned (.bool (decide (c = c2 ∧ n = n2 ∧ l = l2 ∧ xs = ys))) ∧ Below w.heap.size w w' := by
  obtain ⟨A1, k1, rfl, _, h1⟩ := ha.shape
  obtain ⟨A2, k2, rfl, _, h2⟩ := hb.shape
  unfold maxLen at h1 h2
  obtain ⟨r, hr0⟩ : ∃ r, decide (c = c2 ∧ n = n2 ∧ l = l2 ∧ xs = ys) = r := ⟨_, rfl⟩
  rw [hr0]
  have HR0 := Lib.hid hr0
  clear hr0
  simp only [stC]
  have HA := Lib.hid ha
  have HB := Lib.hid hb
  clear ha hb
  have HBT := Lib.hid (below_two w #[.int .i64 c, .int .i64 n, .int .i64 l, .slice A1 xs.length k1] #[.int .i64 c2, .int .i64 n2, .int .i64 l2, .slice A2 ys.length k2] 24 24)
  by_cases hne : c = c2
  case neg =>
    have HE := Lib.hid (show r = false by rw [← HR0.out]; exact decide_eq_false fun e => by obtain ⟨e1, e2, e3, e4⟩ := e; exact hne (by first | assumption | (subst_vars; rfl)))
    go_enter Tryz.func9, Tryz.ntmps9
    go_wp2
    go_ret
    exact ⟨by rw [HE.out] <;> rfl, HBT.out⟩
  subst hne
  by_cases hne : n = n2
  case neg =>
    have HE := Lib.hid (show r = false by rw [← HR0.out]; exact decide_eq_false fun e => by obtain ⟨e1, e2, e3, e4⟩ := e; exact hne (by first | assumption | (subst_vars; rfl)))
    go_enter Tryz.func9, Tryz.ntmps9
    go_wp2
    go_ret
    exact ⟨by rw [HE.out] <;> rfl, HBT.out⟩
  subst hne
  by_cases hne : l = l2
  case neg =>
    have HE := Lib.hid (show r = false by rw [← HR0.out]; exact decide_eq_false fun e => by obtain ⟨e1, e2, e3, e4⟩ := e; exact hne (by first | assumption | (subst_vars; rfl)))
    go_enter Tryz.func9, Tryz.ntmps9
    go_wp2
    go_ret
    exact ⟨by rw [HE.out] <;> rfl, HBT.out⟩
  subst hne
  have HE := Lib.hid (show decide (xs = ys) = r by rw [← HR0.out]; simp)
  have HEF := Lib.hid (equalF_any (HA.out.below stays_cs HBT.out) (HB.out.below stays_cs HBT.out))
  rw [HE.out] at HEF
  go_enter Tryz.func9, Tryz.ntmps9
  go_wp2_with fail
  refine HEF.out.mono ?_
  rintro e w5 ⟨rfl, hb5⟩
  have HB5 := Lib.hid (HBT.out.trans (hb5.mono HBT.out.size))
  clear hb5
  go_wp2
  go_ret
  exact ⟨rfl, HB5.out⟩
end Go.Proofs.YtjppomhfillflaaGreatDoor
