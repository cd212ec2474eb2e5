/-
  The contracts of slices.EqualFunc of subscriptions, and of the program's Same (layer state).
-/
import Derived.Test.YtcmkmdghekkkhaaDoorPsSm
set_option linter.unusedVariables false
namespace Go.Proofs.YtcmkmdghekkkhaaDoor
open Go.RowKit Go.Rst Go.Tp Go.Ts

abbrev sameVal : Value := .func (.func 45) #[] #[]
set_option maxRecDepth 100000 in
set_option maxHeartbeats 4000000 in
theorem equalF_any {va vb : Value} {xs ys : List Sub} {w : World} (ha : RS w va xs) (hb : RS w vb ys) :
    Calls Tryd.prog 44 #[va, vb, sameVal] w fun e w' => e = .returned (.bool (decide (xs = ys))) ∧ Below w.heap.size w w' := by
  obtain ⟨A1, k1, rfl, _, h1⟩ := ha.shape
  obtain ⟨A2, k2, rfl, _, h2⟩ := hb.shape
  unfold maxLen at h1 h2
  obtain ⟨r, hr0⟩ : ∃ r, decide (xs = ys) = r := ⟨_, rfl⟩
  rw [hr0]
  have HR0 := Lib.hid hr0
  have HA := Lib.hid ha
  have HB := Lib.hid hb
  clear hr0 ha hb
  by_cases hne : xs.length = ys.length
  case neg =>
    have HE := Lib.hid (show r = false by rw [← HR0.out]; exact decide_eq_false (ne_of_len hne))
    go_enter Tryd.func44, Tryd.ntmps44
    go_wp2
    go_ret
    exact ⟨by rw [HE.out] <;> rfl, Below.refl _ _⟩
  have HL := Lib.hid hne
  have q0 : ((xs.length : Int) != (ys.length : Int)) = false := by rw [hne]; simp
  clear hne
  go_enter Tryd.func44, Tryd.ntmps44
  go_wp2_with fail
  go_loopw [17] (fun i wr => ∃ k : Nat, k ≤ xs.length ∧ i = .int .i64 k ∧ xs.take k = ys.take k ∧ Below w.heap.size w wr) (fun i _ => xs.length - (intOf i).toNat)
  case atStart => exact ⟨0, Nat.zero_le _, rfl, rfl, Below.refl _ _⟩
  case round =>
    obtain ⟨k, hk, rfl, hal, hbel⟩ := hrel
    have HAL := Lib.hid hal
    have HBL := Lib.hid hbel
    clear hbel hal
    by_cases hlt : k < xs.length
    · have hlt2 : k < ys.length := by rw [← HL.out]; exact hlt
      obtain ⟨g1, o1, av, qv, rfl, hg1, hrg1, hra1, hrq1⟩ := rs_at HA.out hlt
      obtain ⟨g2, o2, bv, rv, rfl, hg2, hrg2, hra2, hrq2⟩ := rs_at HB.out hlt2
      have hrg1 := range_below hrg1 hg1 HBL.out
      have hrg2 := range_below hrg2 hg2 HBL.out
      have hra1 := hra1.below stays_ci HBL.out
      have hrq1 := hrq1.below stays_cm HBL.out
      have hra2 := hra2.below stays_ci HBL.out
      have hrq2 := hrq2.below stays_cm HBL.out
      have HTS := Lib.hid (take_same hlt hlt2)
      have HNE := Lib.hid (fun h : xs[k] ≠ ys[k] => ne_of_at h)
      obtain ⟨x, hx⟩ : ∃ x, x = xs[k] := ⟨_, rfl⟩
      obtain ⟨y, hy⟩ : ∃ y, y = ys[k] := ⟨_, rfl⟩
      rw [← hx] at hrg1 hra1 hrq1
      rw [← hy] at hrg2 hra2 hrq2
      rw [← hx, ← hy] at HTS HNE
      have hall1 := sub_all x (rl_one hra1) (rl_one hrq1)
      have hall2 := sub_all y (rl_one hra2) (rl_one hrq2)
      obtain ⟨B1, m1, rfl, _, hm1⟩ := hra1.shape
      obtain ⟨B2, m2, rfl, _, hm2⟩ := hra2.shape
      obtain ⟨P1, n1, rfl, _, hn1⟩ := hrq1.shape
      obtain ⟨P2, n2, rfl, _, hn2⟩ := hrq2.shape
      obtain ⟨dd, hdd⟩ : ∃ dd, dd = decide (x = y) := ⟨_, rfl⟩
      have HSM := Lib.hid (fun (W : World) (hW : Below wr.heap.size wr W) => sameP_any (hra1.below stays_ci hW) (hrq1.below stays_cm hW) (hra2.below stays_ci hW) (hrq2.below stays_cm hW))
      rw [← hdd] at HSM
      have HDD := Lib.hid hdd
      have hg1w : g1 < wr.heap.size := Nat.lt_of_lt_of_le hg1 HBL.out.size
      have hg2w : g2 < wr.heap.size := Nat.lt_of_lt_of_le hg2 HBL.out.size
      clear hx hy hdd hra1 hrq1 hra2 hrq2 hm1 hm2 hn1 hn2
      obtain ⟨id, name, topic, want, lease, most, floor, acks, queue, note⟩ := x
      obtain ⟨id2, name2, topic2, want2, lease2, most2, floor2, acks2, queue2, note2⟩ := y
      simp only [subC] at hrg1 hrg2 hall1 hall2 HSM
      have q1 : (k : Int) < (xs.length : Int) := by omega
      have q2 : (k : Int) < (ys.length : Int) := by omega
      obtain ⟨W1, hW1⟩ : ∃ W1, W1 = (wr.alloc (.cells #[.int .i64 0, .string ⟨#[]⟩, .string ⟨#[]⟩, .string ⟨#[]⟩, .int .i64 0, .int .i64 0, .int .i64 0, .slice none 0 0, .slice none 0 0, .string ⟨#[]⟩] 35)).setRow wr.heap.size #[.int .i64 id, sv name, sv topic, sv want, .int .i64 lease, .int .i64 most, .int .i64 floor, .slice B1 acks.length m1, .slice P1 queue.length n1, sv note] := ⟨_, rfl⟩
      have hx1 : Wh W1 wr.heap.size [.int .i64 id, sv name, sv topic, sv want, .int .i64 lease, .int .i64 most, .int .i64 floor, .slice B1 acks.length m1, .slice P1 queue.length n1, sv note] 35 := by rw [hW1]; exact (Wh.new wr [.int .i64 0, .string ⟨#[]⟩, .string ⟨#[]⟩, .string ⟨#[]⟩, .int .i64 0, .int .i64 0, .int .i64 0, .slice none 0 0, .slice none 0 0, .string ⟨#[]⟩] 35).set [.int .i64 id, sv name, sv topic, sv want, .int .i64 lease, .int .i64 most, .int .i64 floor, .slice B1 acks.length m1, .slice P1 queue.length n1, sv note]
      have hb1 : Below wr.heap.size wr W1 := by rw [hW1]; exact below_setRow ((Below.refl _ wr).alloc (Nat.le_refl _) _) (Nat.le_refl _) _
      have hs1 : W1.heap.size = wr.heap.size + 1 := by rw [hW1]; simp
      obtain ⟨W2, hW2⟩ : ∃ W2, W2 = (W1.alloc (.cells #[.int .i64 0, .string ⟨#[]⟩, .string ⟨#[]⟩, .string ⟨#[]⟩, .int .i64 0, .int .i64 0, .int .i64 0, .slice none 0 0, .slice none 0 0, .string ⟨#[]⟩] 35)).setRow W1.heap.size #[.int .i64 id2, sv name2, sv topic2, sv want2, .int .i64 lease2, .int .i64 most2, .int .i64 floor2, .slice B2 acks2.length m2, .slice P2 queue2.length n2, sv note2] := ⟨_, rfl⟩
      have hx2 : Wh W2 W1.heap.size [.int .i64 id2, sv name2, sv topic2, sv want2, .int .i64 lease2, .int .i64 most2, .int .i64 floor2, .slice B2 acks2.length m2, .slice P2 queue2.length n2, sv note2] 35 := by rw [hW2]; exact (Wh.new W1 [.int .i64 0, .string ⟨#[]⟩, .string ⟨#[]⟩, .string ⟨#[]⟩, .int .i64 0, .int .i64 0, .int .i64 0, .slice none 0 0, .slice none 0 0, .string ⟨#[]⟩] 35).set [.int .i64 id2, sv name2, sv topic2, sv want2, .int .i64 lease2, .int .i64 most2, .int .i64 floor2, .slice B2 acks2.length m2, .slice P2 queue2.length n2, sv note2]
      have hb2 : Below W1.heap.size W1 W2 := by rw [hW2]; exact below_setRow ((Below.refl _ W1).alloc (Nat.le_refl _) _) (Nat.le_refl _) _
      have hx12 := hx1.below hb2
      have hb12 := hb1.trans (hb2.mono hb1.size)
      have HN1 := Lib.hid (Wh.new wr [.int .i64 0, .string ⟨#[]⟩, .string ⟨#[]⟩, .string ⟨#[]⟩, .int .i64 0, .int .i64 0, .int .i64 0, .slice none 0 0, .slice none 0 0, .string ⟨#[]⟩] 35)
      have HN2 := Lib.hid (Wh.new W1 [.int .i64 0, .string ⟨#[]⟩, .string ⟨#[]⟩, .string ⟨#[]⟩, .int .i64 0, .int .i64 0, .int .i64 0, .slice none 0 0, .slice none 0 0, .string ⟨#[]⟩] 35)
      rw [hs1] at HN2 hx2 hW2
      have HR1 := Lib.hid hrg1
      have hrg2' := range_below hrg2 hg2w hb1
      have hxr1 := hx12.range
      have hxr2 := hx2.range
      have hn2 := HN2.out
      rw [hW1] at hrg2' hn2
      rw [hW2, hW1] at hxr1 hxr2
      have HR2 := Lib.hid hrg2'
      have HX1 := Lib.hid hxr1
      have HX2 := Lib.hid hxr2
      have HN3 := Lib.hid hn2
      have HA1 := Lib.hid hall1
      have HA2 := Lib.hid hall2
      have HCS := Lib.hid (HSM.out W2 hb12)
      have HB12 := Lib.hid (HBL.out.trans (hb12.mono HBL.out.size))
      have HS1 := Lib.hid hs1
      clear hrg1 hrg2 hrg2' hxr1 hxr2 hn2 HN2 hx1 hb1 hx2 hb2 hx12 hb12 hall1 hall2 HSM hg1w hg2w hs1
      go_wp2_with (first
        | (refine wpList_load_midG (by rfl) 35 (.tmp 20) rfl g1 (o1 + k * 10) rfl _ _ HR1.out Tryd.underlying35 rfl size35 ?_)
        | (refine wpList_store_row rfl 35 (.tmp 8) (.tmp 21) rfl wr.heap.size #[.int .i64 id, sv name, sv topic, sv want, .int .i64 lease, .int .i64 most, .int .i64 floor, .slice B1 acks.length m1, .slice P1 queue.length n1, sv note] rfl rfl 35 #[.int .i64 0, .string ⟨#[]⟩, .string ⟨#[]⟩, .string ⟨#[]⟩, .int .i64 0, .int .i64 0, .int .i64 0, .slice none 0 0, .slice none 0 0, .string ⟨#[]⟩] HN1.out size35 rfl HA1.out ?_)
        | (refine wpList_load_midG (by rfl) 35 (.tmp 24) rfl g2 (o2 + k * 10) rfl _ _ HR2.out Tryd.underlying35 rfl size35 ?_)
        | (refine wpList_store_row rfl 35 (.tmp 9) (.tmp 25) rfl (wr.heap.size + 1) #[.int .i64 id2, sv name2, sv topic2, sv want2, .int .i64 lease2, .int .i64 most2, .int .i64 floor2, .slice B2 acks2.length m2, .slice P2 queue2.length n2, sv note2] rfl rfl 35 #[.int .i64 0, .string ⟨#[]⟩, .string ⟨#[]⟩, .string ⟨#[]⟩, .int .i64 0, .int .i64 0, .int .i64 0, .slice none 0 0, .slice none 0 0, .string ⟨#[]⟩] HN3.out size35 rfl HA2.out ?_)
        | (refine wpList_load_midG (by rfl) 35 (.tmp 8) rfl wr.heap.size 0 rfl _ _ HX1.out Tryd.underlying35 rfl size35 ?_)
        | (refine wpList_load_midG (by rfl) 35 (.tmp 9) rfl (wr.heap.size + 1) 0 rfl _ _ HX2.out Tryd.underlying35 rfl size35 ?_))
      rw [← hW1, ← hW2]
      refine HCS.out.mono ?_
      rintro e w6 ⟨rfl, hb6⟩
      have HB6 := Lib.hid (HB12.out.trans (hb6.mono HB12.out.size))
      clear hb6 hW1 hW2
      cases dd with
      | true =>
        have HN := Lib.hid (HTS.out.2 ⟨HAL.out, of_decide_eq_true HDD.out.symm⟩)
        go_wp2
        go_roundw
        case rel => exact ⟨k + 1, by omega, by go_num, HN.out, HB6.out⟩
        case measure => simp [intOf]; omega
      | false =>
        have HE := Lib.hid (show r = false by rw [← HR0.out]; exact decide_eq_false (HNE.out (of_decide_eq_false HDD.out.symm)))
        go_wp2
        go_ret
        exact ⟨by rw [HE.out] <;> rfl, HB6.out⟩
    · have q1 : ¬ (k : Int) < (xs.length : Int) := by omega
      have HE := Lib.hid (show r = true by rw [← HR0.out]; have h := HAL.out; rw [List.take_of_length_le (by omega), List.take_of_length_le (by rw [← HL.out]; omega)] at h; exact decide_eq_true h)
      go_wp2
      go_ret
      exact ⟨by rw [HE.out] <;> rfl, HBL.out⟩
set_option maxRecDepth 100000 in
set_option maxHeartbeats 4000000 in
theorem sameS_any {c n l c2 n2 l2 : Int} {v v2 : Value} {xs ys : List Sub} {w : World} (ha : RS w v xs) (hb : RS w v2 ys) :
    Calls Tryd.prog 22 #[.agg (stC c n l v).toArray, .agg (stC c2 n2 l2 v2).toArray] w fun e w' => e = .returned (.bool (decide (c = c2 ∧ n = n2 ∧ l = l2 ∧ xs = ys))) ∧ Below w.heap.size w w' := by
  obtain ⟨A1, k1, rfl, _, h1⟩ := ha.shape
  obtain ⟨A2, k2, rfl, _, h2⟩ := hb.shape
  unfold maxLen at h1 h2
  obtain ⟨r, hr0⟩ : ∃ r, decide (c = c2 ∧ n = n2 ∧ l = l2 ∧ xs = ys) = r := ⟨_, rfl⟩
  rw [hr0]
  have HR0 := Lib.hid hr0
  clear hr0
  simp only [stC]
  have HA := Lib.hid ha
  have HB := Lib.hid hb
  clear ha hb
  have HBT := Lib.hid (below_two w #[.int .i64 c, .int .i64 n, .int .i64 l, .slice A1 xs.length k1] #[.int .i64 c2, .int .i64 n2, .int .i64 l2, .slice A2 ys.length k2] 24 24)
  by_cases hne : c = c2
  case neg =>
    have HE := Lib.hid (show r = false by rw [← HR0.out]; exact decide_eq_false fun e => by obtain ⟨e1, e2, e3, e4⟩ := e; exact hne (by first | assumption | (subst_vars; rfl)))
    go_enter Tryd.func22, Tryd.ntmps22
    go_wp2
    go_ret
    exact ⟨by rw [HE.out] <;> rfl, HBT.out⟩
  subst hne
  by_cases hne : n = n2
  case neg =>
    have HE := Lib.hid (show r = false by rw [← HR0.out]; exact decide_eq_false fun e => by obtain ⟨e1, e2, e3, e4⟩ := e; exact hne (by first | assumption | (subst_vars; rfl)))
    go_enter Tryd.func22, Tryd.ntmps22
    go_wp2
    go_ret
    exact ⟨by rw [HE.out] <;> rfl, HBT.out⟩
  subst hne
  by_cases hne : l = l2
  case neg =>
    have HE := Lib.hid (show r = false by rw [← HR0.out]; exact decide_eq_false fun e => by obtain ⟨e1, e2, e3, e4⟩ := e; exact hne (by first | assumption | (subst_vars; rfl)))
    go_enter Tryd.func22, Tryd.ntmps22
    go_wp2
    go_ret
    exact ⟨by rw [HE.out] <;> rfl, HBT.out⟩
  subst hne
  have HE := Lib.hid (show decide (xs = ys) = r by rw [← HR0.out]; simp)
  have HEF := Lib.hid (equalF_any (HA.out.below stays_cs HBT.out) (HB.out.below stays_cs HBT.out))
  rw [HE.out] at HEF
  go_enter Tryd.func22, Tryd.ntmps22
  go_wp2_with fail
  refine HEF.out.mono ?_
  rintro e w5 ⟨rfl, hb5⟩
  have HB5 := Lib.hid (HBT.out.trans (hb5.mono HBT.out.size))
  clear hb5
  go_wp2
  go_ret
  exact ⟨rfl, HB5.out⟩
end Go.Proofs.YtcmkmdghekkkhaaDoor
