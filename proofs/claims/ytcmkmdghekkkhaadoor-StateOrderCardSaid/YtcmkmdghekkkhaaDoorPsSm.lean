/-
  The contract of the program's same (layer state).
-/
import Derived.Test.YtcmkmdghekkkhaaDoorPsSmA
import Derived.Test.YtcmkmdghekkkhaaDoorPsSmB
set_option linter.unusedVariables false
namespace Go.Proofs.YtcmkmdghekkkhaaDoor
open Go.RowKit Go.Rst Go.Tp Go.Ts

set_option maxRecDepth 100000 in
set_option maxHeartbeats 8000000 in
theorem sameP_any {x y : Sub} {av qv bv rv : Value} {w : World} (ha : RI w av x.acks) (hq : RM w qv x.queue) (hb : RI w bv y.acks) (hr : RM w rv y.queue) :
    Calls Tryd.prog 45 #[.agg (subC x av qv).toArray, .agg (subC y bv rv).toArray] w fun e w' => e = .returned (.bool (decide (x = y))) ∧ Below w.heap.size w w' := by
  obtain ⟨A1, k1, rfl, _, h1⟩ := ha.shape
  obtain ⟨A2, k2, rfl, _, h2⟩ := hb.shape
  obtain ⟨Q1, j1, rfl, _, h3⟩ := hq.shape
  obtain ⟨Q2, j2, rfl, _, h4⟩ := hr.shape
  unfold maxLen at h1 h2 h3 h4
  obtain ⟨id, name, topic, want, lease, most, floor, acks, queue, note⟩ := x
  obtain ⟨id2, name2, topic2, want2, lease2, most2, floor2, acks2, queue2, note2⟩ := y
  simp only [subC] at ha hq hb hr ⊢
  obtain ⟨r, hr0⟩ : ∃ r, decide ((⟨id, name, topic, want, lease, most, floor, acks, queue, note⟩ : Sub) = ⟨id2, name2, topic2, want2, lease2, most2, floor2, acks2, queue2, note2⟩) = r := ⟨_, rfl⟩
  rw [hr0]
  have HR0 := Lib.hid hr0
  clear hr0
  have HA := Lib.hid ha
  have HB := Lib.hid hb
  have HQ := Lib.hid hq
  have HR := Lib.hid hr
  clear ha hb hq hr
  have HBT := Lib.hid (below_two w #[.int .i64 id, sv name, sv topic, sv want, .int .i64 lease, .int .i64 most, .int .i64 floor, .slice A1 acks.length k1, .slice Q1 queue.length j1, sv note] #[.int .i64 id2, sv name2, sv topic2, sv want2, .int .i64 lease2, .int .i64 most2, .int .i64 floor2, .slice A2 acks2.length k2, .slice Q2 queue2.length j2, sv note2] 35 35)
  by_cases hne : id = id2 ∧ name = name2 ∧ topic = topic2 ∧ want = want2
  case neg =>
    have HE := Lib.hid (show r = false by rw [← HR0.out]; exact decide_eq_false fun e => by injection e; exact hne ⟨by assumption, by assumption, by assumption, by assumption⟩)
    rw [HE.out]
    exact sameP_a A1 A2 Q1 Q2 k1 k2 j1 j2 w hne
  obtain ⟨rfl, rfl, rfl, rfl⟩ := hne
  by_cases hne : lease = lease2 ∧ most = most2 ∧ floor = floor2 ∧ note = note2
  case neg =>
    have HE := Lib.hid (show r = false by rw [← HR0.out]; exact decide_eq_false fun e => by injection e; exact hne ⟨by assumption, by assumption, by assumption, by assumption⟩)
    rw [HE.out]
    exact sameP_b A1 A2 Q1 Q2 k1 k2 j1 j2 w hne
  obtain ⟨rfl, rfl, rfl, rfl⟩ := hne
  obtain ⟨W0, hW0⟩ : ∃ W0, W0 = (w.alloc (.cells #[.int .i64 id, sv name, sv topic, sv want, .int .i64 lease, .int .i64 most, .int .i64 floor, .slice A1 acks.length k1, .slice Q1 queue.length j1, sv note] 35)).alloc (.cells #[.int .i64 id, sv name, sv topic, sv want, .int .i64 lease, .int .i64 most, .int .i64 floor, .slice A2 acks2.length k2, .slice Q2 queue2.length j2, sv note] 35) := ⟨_, rfl⟩
  have hx0 : Wh W0 w.heap.size [.int .i64 id, sv name, sv topic, sv want, .int .i64 lease, .int .i64 most, .int .i64 floor, .slice A1 acks.length k1, .slice Q1 queue.length j1, sv note] 35 := by rw [hW0]; exact (Wh.new w _ _).alloc _
  have hy0 : Wh W0 (w.heap.size + 1) [.int .i64 id, sv name, sv topic, sv want, .int .i64 lease, .int .i64 most, .int .i64 floor, .slice A2 acks2.length k2, .slice Q2 queue2.length j2, sv note] 35 := by
    have := Wh.new (w.alloc (.cells #[.int .i64 id, sv name, sv topic, sv want, .int .i64 lease, .int .i64 most, .int .i64 floor, .slice A1 acks.length k1, .slice Q1 queue.length j1, sv note] 35)) [.int .i64 id, sv name, sv topic, sv want, .int .i64 lease, .int .i64 most, .int .i64 floor, .slice A2 acks2.length k2, .slice Q2 queue2.length j2, sv note] 35
    rw [World.size_alloc] at this
    rw [hW0]; exact this
  rw [← hW0] at HBT
  have HX0 := Lib.hid hx0
  have HY0 := Lib.hid hy0
  have HEI := Lib.hid (equalI_any (HA.out.below stays_ci HBT.out) (HB.out.below stays_ci HBT.out))
  have HS0 := Lib.hid (show W0.heap.size = w.heap.size + 2 by rw [hW0]; simp)
  clear hx0 hy0
  by_cases hac : acks = acks2
  case neg =>
    have HE := Lib.hid (show r = false by rw [← HR0.out]; exact decide_eq_false fun e => by injection e; exact hac (by assumption))
    have hda : decide (acks = acks2) = false := decide_eq_false hac
    rw [hda] at HEI
    clear hac hda
    go_enter Tryd.func45, Tryd.ntmps45
    go_wp2_with fail
    rw [← hW0]
    clear hW0
    refine HEI.out.mono ?_
    rintro e w5 ⟨rfl, hb5⟩
    have HB5 := Lib.hid (HBT.out.trans (hb5.mono HBT.out.size))
    clear hb5
    go_wp2
    go_ret
    exact ⟨by rw [HE.out] <;> rfl, HB5.out⟩
  subst hac
  rw [show decide (acks = acks) = true from decide_eq_true rfl] at HEI
  have HE := Lib.hid (show decide (queue = queue2) = r by rw [← HR0.out]; simp)
  go_enter Tryd.func45, Tryd.ntmps45
  go_wp2_with fail
  rw [← hW0]
  clear hW0
  refine HEI.out.mono ?_
  rintro e w5 ⟨rfl, hb5⟩
  have hx5 := HX0.out.below hb5
  have hy5 := HY0.out.below hb5
  have c8 := hx5.bx.cell (i := 8) (by simp)
  have d8 := hy5.bx.cell (i := 8) (by simp)
  simp only [List.getElem_cons_succ, List.getElem_cons_zero] at c8 d8
  have hbt5 := HBT.out.trans (hb5.mono HBT.out.size)
  have HEM := Lib.hid (equalM_any (HQ.out.below stays_cm hbt5) (HR.out.below stays_cm hbt5))
  have HB5 := Lib.hid hbt5
  clear hx5 hy5 hb5 hbt5
  go_wp2_with fail
  refine HEM.out.mono ?_
  rintro e w6 ⟨rfl, hb6⟩
  rw [HE.out]
  have HB6 := Lib.hid (HB5.out.trans (hb6.mono HB5.out.size))
  clear hb6
  go_wp2
  go_ret
  exact ⟨rfl, HB6.out⟩
end Go.Proofs.YtcmkmdghekkkhaaDoor
