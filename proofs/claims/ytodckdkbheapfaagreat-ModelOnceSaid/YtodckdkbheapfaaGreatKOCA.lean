/-
  The contract of the program's message (layer state).; The contracts of the program's acks and queue (layer state).; The contract of the program's Good (layer state).
-/
import Derived.Test.YtodckdkbheapfaaGreatKOI
import Derived.Test.YtodckdkbheapfaaGreatKOBD
import Derived.Test.YtodckdkbheapfaaGreatKOBJ
set_option linter.unusedVariables false
set_option linter.unusedVariables false
set_option linter.unusedSimpArgs false
namespace Go.Proofs.YtodckdkbheapfaaGreat
open Go.RowKit Go.Rst Go.Tp Go.Ts
set_option maxRecDepth 100000 in
set_option maxHeartbeats 8000000 in
theorem messageP_any (m : Msg) (x : Sub) (av qv : Value) (ha : av.oneCell' = true) (hq : qv.oneCell' = true) (clock : Int) (hti : m.til ≤ 9223372036854775807) (hl1 : 1 ≤ x.lease) (hl2 : x.lease ≤ 1000) (hm1 : 1 ≤ x.most) (hm2 : x.most ≤ 9) (hc1 : 0 ≤ clock) (hc2 : clock ≤ 1152921504606846976) (w : World) :
    Calls Tryz.prog 151 #[.agg (msgC m).toArray, .agg (subC x av qv).toArray, .int .i64 clock] w fun e w' => e = .returned (.bool (msgB m x.lease x.most clock)) ∧ Below w.heap.size w w' := by
  obtain ⟨seq, body, attr, tries, til, dead, why, prio⟩ := m
  obtain ⟨xid, name, topic, want, lease, most, floor, acks, queue, note⟩ := x
  simp only at hti hl1 hl2 hm1 hm2
  generalize hr0 : msgB ⟨seq, body, attr, tries, til, dead, why, prio⟩ lease most clock = r
  have hwl : w64 (clock + lease) = clock + lease := by unfold w64 RowKit.wrap64; omega
  unfold msgB at hr0
  simp only [hwl] at hr0
  have HR := Lib.hid hr0
  clear hr0 hwl
  simp only [msgC, subC]
  obtain ⟨W0, hW0⟩ : ∃ W0, W0 = (w.alloc (.cells #[.int .i64 seq, sv body, sv attr, .int .i64 tries, .int .i64 til, .bool dead, sv why, .int .i64 prio] 45)).alloc (.cells #[.int .i64 xid, sv name, sv topic, sv want, .int .i64 lease, .int .i64 most, .int .i64 floor, av, qv, sv note] 30) := ⟨_, rfl⟩
  have hm0 : Wh W0 w.heap.size [.int .i64 seq, sv body, sv attr, .int .i64 tries, .int .i64 til, .bool dead, sv why, .int .i64 prio] 45 := by rw [hW0]; exact (Wh.new w _ _).alloc _
  have hx0 : Wh W0 (w.heap.size + 1) [.int .i64 xid, sv name, sv topic, sv want, .int .i64 lease, .int .i64 most, .int .i64 floor, av, qv, sv note] 30 := by
    have := Wh.new (w.alloc (.cells #[.int .i64 seq, sv body, sv attr, .int .i64 tries, .int .i64 til, .bool dead, sv why, .int .i64 prio] 45)) [.int .i64 xid, sv name, sv topic, sv want, .int .i64 lease, .int .i64 most, .int .i64 floor, av, qv, sv note] 30
    rw [World.size_alloc] at this
    rw [hW0]; exact this
  have hb0 : Below w.heap.size w W0 := by rw [hW0]; exact below_two w _ _ _ _
  have HM0 := Lib.hid hm0
  have HX0 := Lib.hid hx0
  have HB0 := Lib.hid hb0
  clear hm0 hx0 hb0
  by_cases h60 : 60 < body.length
  · have HE := Lib.hid (show r = false by rw [← HR.out]; simp [h60])
    have q1 : (60 : Int) < (body.length : Int) := by omega
    go_enter Tryz.func151, Tryz.ntmps151
    go_wp2
    rw [← hW0]
    go_ret
    exact ⟨by rw [HE.out] <;> rfl, HB0.out⟩
  have q1 : ¬ (60 : Int) < (body.length : Int) := by omega
  have HAT := Lib.hid (fun W => attrsP_any attr W)
  obtain ⟨ab, hab⟩ : ∃ ab, ab = attrsB attr := ⟨_, rfl⟩
  rw [← hab] at HAT HR
  clear hab
  go_enter Tryz.func151, Tryz.ntmps151
  go_wp2_with fail
  rw [← hW0]
  clear hW0
  refine (HAT.out _).mono ?_
  rintro e w3 ⟨rfl, hb3⟩
  have hm3 := HM0.out.below hb3
  have hx3 := HX0.out.below hb3
  have HB3 := Lib.hid (HB0.out.trans (hb3.mono HB0.out.size))
  have c3 := hm3.bx.cell (i := 3) (by simp)
  have c4 := hm3.bx.cell (i := 4) (by simp)
  have c5 := hm3.bx.cell (i := 5) (by simp)
  have c6 := hm3.bx.cell (i := 6) (by simp)
  have c7 := hm3.bx.cell (i := 7) (by simp)
  have d4 := hx3.bx.cell (i := 4) (by simp)
  have d5 := hx3.bx.cell (i := 5) (by simp)
  simp only [List.getElem_cons_succ, List.getElem_cons_zero] at c3 c4 c5 c6 c7 d4 d5
  clear hb3 hm3 hx3 HAT HM0 HX0 HB0
  cases ab with
  | false =>
    have HE := Lib.hid (show r = false by rw [← HR.out]; simp)
    clear HR
    go_wp2
    go_ret
    exact ⟨by rw [HE.out] <;> rfl, HB3.out⟩
  | true =>
    by_cases hpr : 0 ≤ prio ∧ prio ≤ 9
    case neg =>
      have HE := Lib.hid (show r = false by
        rw [← HR.out]
        by_cases h : 0 ≤ prio
        · have : 9 < prio := by omega
          simp [this]
        · have : prio < 0 := by omega
          simp [this])
      have HW := Lib.hid (within_is prio 0 9 false (by
        by_cases h : 0 ≤ prio
        · have : ¬ prio ≤ 9 := by omega
          simp [this]
        · simp [h]) w3)
      clear HR hpr
      go_wp2_with fail
      refine HW.out.mono ?_
      rintro e w5 ⟨rfl, hw5⟩
      subst w5
      go_wp2
      go_ret
      exact ⟨by rw [HE.out] <;> rfl, HB3.out⟩
    obtain ⟨hp1, hp2⟩ := hpr
    have HW := Lib.hid (within_is prio 0 9 true (by simp [hp1, hp2]) w3)
    have HR2 := Lib.hid (show (if dead = true then decide (til = 0) && (decide (why = [110, 97, 99, 107]) || decide (why = [116, 105, 109, 101])) && decide (tries = most) else if why ≠ [] then false else if til = 0 then decide (0 ≤ tries) && decide (tries < most) else decide (1 ≤ tries) && decide (tries ≤ most) && decide (clock < til) && decide (til ≤ clock + lease)) = r by
      rw [← HR.out]
      have a1 : ¬ prio < 0 := by omega
      have a2 : ¬ 9 < prio := by omega
      simp only [h60, a1, a2, decide_false, Bool.not_true, Bool.or_false, Bool.false_eq_true, if_false]
      try rfl)
    clear HR hp1 hp2
    cases dead with
    | true =>
      simp only [if_true] at HR2
      by_cases ht0 : til = 0
      case neg =>
        have HE := Lib.hid (show r = false by rw [← HR2.out]; simp [ht0])
        have q2 : (til == 0) = false := by simp [ht0]
        clear HR2 ht0
        go_wp2_with fail
        refine HW.out.mono ?_
        rintro e w5 ⟨rfl, hw5⟩
        subst w5
        go_wp2
        go_ret
        exact ⟨by rw [HE.out] <;> rfl, HB3.out⟩
      subst ht0
      by_cases hy : why = [110, 97, 99, 107]
      · have q3 : (why == [110, 97, 99, 107]) = true := by simp [hy]
        have HE := Lib.hid (show r = decide (tries = most) by rw [← HR2.out]; simp [hy])
        clear HR2 hy
        by_cases htm : tries = most
        · have q4 : (tries == most) = true := by simp [htm]
          have HE := Lib.hid (show r = true by rw [HE.out]; simp [htm])
          clear htm
          go_wp2_with fail
          refine HW.out.mono ?_
          rintro e w5 ⟨rfl, hw5⟩
          subst w5
          go_wp2
          go_ret
          exact ⟨by rw [HE.out] <;> simp [q4], HB3.out⟩
        · have q4 : (tries == most) = false := by simp [htm]
          have HE := Lib.hid (show r = false by rw [HE.out]; simp [htm])
          clear htm
          go_wp2_with fail
          refine HW.out.mono ?_
          rintro e w5 ⟨rfl, hw5⟩
          subst w5
          go_wp2
          go_ret
          exact ⟨by rw [HE.out] <;> simp [q4], HB3.out⟩
      · have q3 : (why == [110, 97, 99, 107]) = false := by simp [hy]
        by_cases hy2 : why = [116, 105, 109, 101]
        · have q5 : (why == [116, 105, 109, 101]) = true := by simp [hy2]
          have HE := Lib.hid (show r = decide (tries = most) by rw [← HR2.out]; simp [hy2])
          clear HR2 hy hy2
          by_cases htm : tries = most
          · have q4 : (tries == most) = true := by simp [htm]
            have HE := Lib.hid (show r = true by rw [HE.out]; simp [htm])
            clear htm
            go_wp2_with fail
            refine HW.out.mono ?_
            rintro e w5 ⟨rfl, hw5⟩
            subst w5
            go_wp2
            go_ret
            exact ⟨by rw [HE.out] <;> simp [q4], HB3.out⟩
          · have q4 : (tries == most) = false := by simp [htm]
            have HE := Lib.hid (show r = false by rw [HE.out]; simp [htm])
            clear htm
            go_wp2_with fail
            refine HW.out.mono ?_
            rintro e w5 ⟨rfl, hw5⟩
            subst w5
            go_wp2
            go_ret
            exact ⟨by rw [HE.out] <;> simp [q4], HB3.out⟩
        · have q5 : (why == [116, 105, 109, 101]) = false := by simp [hy2]
          have HE := Lib.hid (show r = false by rw [← HR2.out]; simp [hy, hy2])
          clear HR2 hy hy2
          go_wp2_with fail
          refine HW.out.mono ?_
          rintro e w5 ⟨rfl, hw5⟩
          subst w5
          go_wp2
          go_ret
          exact ⟨by rw [HE.out] <;> rfl, HB3.out⟩
    | false =>
      simp only [Bool.false_eq_true, if_false] at HR2
      by_cases hy : why = []
      case neg =>
        have q3 : (why != []) = true := by simp [hy]
        have q33 : (why == []) = false := by simp [hy]
        have HE := Lib.hid (show r = false by rw [← HR2.out]; simp [hy])
        clear HR2 hy
        go_wp2_with fail
        refine HW.out.mono ?_
        rintro e w5 ⟨rfl, hw5⟩
        subst w5
        go_wp2
        go_ret
        exact ⟨by rw [HE.out] <;> rfl, HB3.out⟩
      have q3 : (why != []) = false := by simp [hy]
      have q33 : (why == []) = true := by simp [hy]
      have HR3 := Lib.hid (show (if til = 0 then decide (0 ≤ tries) && decide (tries < most) else decide (1 ≤ tries) && decide (tries ≤ most) && decide (clock < til) && decide (til ≤ clock + lease)) = r by rw [← HR2.out]; simp [hy])
      clear HR2 hy
      by_cases ht : 0 < til
      · have HR4 := Lib.hid (show (decide (1 ≤ tries) && decide (tries ≤ most) && (decide (clock < til) && decide (til ≤ clock + lease))) = r by
          rw [← HR3.out, if_neg (show ¬ til = 0 by omega), Bool.and_assoc (decide (1 ≤ tries) && decide (tries ≤ most))])
        clear HR3
        obtain ⟨b1, hb1⟩ : ∃ b1, (decide (1 ≤ tries) && decide (tries ≤ most)) = b1 := ⟨_, rfl⟩
        obtain ⟨b2, hb2⟩ : ∃ b2, (decide (clock < til) && decide (til ≤ clock + lease)) = b2 := ⟨_, rfl⟩
        have HW2 := Lib.hid (within_is tries 1 most b1 hb1 w3)
        have HLE := Lib.hid (leased_any til clock lease hti hc1 hc2 hl1 hl2 b2 hb2 w3)
        rw [hb1, hb2] at HR4
        clear hb1 hb2
        have HEB := Lib.hid HR4.out.symm
        clear HR4
        cases b1 with
        | true =>
          have HE := Lib.hid (show r = b2 by rw [HEB.out]; rfl)
          clear HEB
          go_wp2_with fail
          refine HW.out.mono ?_
          rintro e w5 ⟨rfl, hw5⟩
          subst w5
          go_wp2_with fail
          refine HW2.out.mono ?_
          rintro e w5 ⟨rfl, hw5⟩
          subst w5
          go_wp2_with fail
          refine HLE.out.mono ?_
          rintro e w5 ⟨rfl, hw5⟩
          subst w5
          go_wp2
          go_ret
          exact ⟨by rw [HE.out] <;> rfl, HB3.out⟩
        | false =>
          have HE := Lib.hid (show r = false by rw [HEB.out]; rfl)
          clear HEB
          go_wp2_with fail
          refine HW.out.mono ?_
          rintro e w5 ⟨rfl, hw5⟩
          subst w5
          go_wp2_with fail
          refine HW2.out.mono ?_
          rintro e w5 ⟨rfl, hw5⟩
          subst w5
          go_wp2
          go_ret
          exact ⟨by rw [HE.out] <;> rfl, HB3.out⟩
      · by_cases ht0 : til = 0
        case neg =>
          have HE := Lib.hid (show r = false by rw [← HR3.out, if_neg ht0, decide_eq_false (show ¬ clock < til by omega)]; simp)
          have q4 : (til == 0) = false := by simp [ht0]
          clear HR3 ht0
          go_wp2_with fail
          refine HW.out.mono ?_
          rintro e w5 ⟨rfl, hw5⟩
          subst w5
          go_wp2
          go_ret
          exact ⟨by rw [HE.out] <;> rfl, HB3.out⟩
        subst ht0
        obtain ⟨b1, hb1⟩ : ∃ b1, (decide (0 ≤ tries) && decide (tries ≤ most - 1)) = b1 := ⟨_, rfl⟩
        have HE := Lib.hid (show r = b1 by
          rw [← HR3.out, if_pos rfl, ← hb1]
          congr 1
          exact decide_eq_decide.2 ⟨fun h => by omega, fun h => by omega⟩)
        have HW2 := Lib.hid (within_is tries 0 (most - 1) b1 hb1 w3)
        have q5 : IntKind.i64.wrap (most - 1) = most - 1 := by rw [IntKind.wrap_i64]; omega
        clear HR3 hb1
        go_wp2_with fail
        refine HW.out.mono ?_
        rintro e w5 ⟨rfl, hw5⟩
        subst w5
        go_wp2_with fail
        refine HW2.out.mono ?_
        rintro e w5 ⟨rfl, hw5⟩
        subst w5
        go_wp2
        go_ret
        exact ⟨by rw [HE.out] <;> rfl, HB3.out⟩
end Go.Proofs.YtodckdkbheapfaaGreat
set_option linter.unusedVariables false
set_option linter.unusedSimpArgs false
namespace Go.Proofs.YtodckdkbheapfaaGreat
open Go.RowKit Go.Rst Go.Tp Go.Ts
set_option maxRecDepth 100000 in
set_option maxHeartbeats 2000000 in
theorem acksP_any (x : Sub) (av qv : Value) (next : Int) (w : World) (ha : Go.Ts.RI w av x.acks) (hq : ∃ A c, qv = .slice A x.queue.length c) :
    Calls Tryz.prog 127 #[.agg (subC x av qv).toArray, .int .i64 next] w fun e w' => e = .returned (.bool (decide (x.acks.length ≤ 20) && ackB next x.floor x.acks)) ∧ Below w.heap.size w w' := by
  obtain ⟨Aa, ka, rfl, hka, ham⟩ := ha.shape
  obtain ⟨Aq, kq, rfl⟩ := hq
  unfold maxLen at ham
  obtain ⟨xid, name, topic, want, lease, most, floor, acks, queue, note⟩ := x
  simp only [subC] at ha ⊢
  have hb0 := (Below.refl w.heap.size w).alloc (Nat.le_refl _) (Obj.cells #[.int .i64 xid, sv name, sv topic, sv want, .int .i64 lease, .int .i64 most, .int .i64 floor, .slice Aa acks.length ka, .slice Aq queue.length kq, sv note] 30)
  obtain ⟨W0, hW0⟩ : ∃ W0, W0 = w.alloc (.cells #[.int .i64 xid, sv name, sv topic, sv want, .int .i64 lease, .int .i64 most, .int .i64 floor, .slice Aa acks.length ka, .slice Aq queue.length kq, sv note] 30) := ⟨_, rfl⟩
  rw [← hW0] at hb0
  have HB0 := Lib.hid hb0
  have HRI := Lib.hid (rising_any (.slice Aa acks.length ka) acks floor next W0 (ha.below stays_ci hb0))
  generalize hr : (decide (acks.length ≤ 20) && ackB next floor acks) = r
  have HR := Lib.hid hr
  clear hb0 ha hr
  by_cases h20 : acks.length ≤ 20
  · have q1 : (acks.length : Int) ≤ 20 := by omega
    have HE := Lib.hid (show ackB next floor acks = r by rw [← HR.out]; simp [h20])
    rw [HE.out] at HRI
    clear h20
    go_enter Tryz.func127, Tryz.ntmps127
    go_wp2_with fail
    rw [← hW0]
    clear hW0
    refine HRI.out.mono ?_
    rintro e w5 ⟨rfl, hw5⟩
    subst w5
    go_wp2
    go_ret
    exact ⟨rfl, HB0.out⟩
  · have q1 : ¬ (acks.length : Int) ≤ 20 := by omega
    have HE := Lib.hid (show r = false by rw [← HR.out]; simp [h20])
    clear h20
    go_enter Tryz.func127, Tryz.ntmps127
    go_wp2
    rw [← hW0]
    go_ret
    exact ⟨by rw [HE.out] <;> rfl, HB0.out⟩
set_option maxRecDepth 100000 in
set_option maxHeartbeats 8000000 in
theorem queueP_any (x : Sub) (av qv : Value) (clock next : Int) (w : World) (ha : Go.Ts.RI w av x.acks) (hq : RM w qv x.queue) (hti : ∀ m ∈ x.queue, m.til ≤ 9223372036854775807) (hl1 : 1 ≤ x.lease) (hl2 : x.lease ≤ 1000) (hm1 : 1 ≤ x.most) (hm2 : x.most ≤ 9) (hc1 : 0 ≤ clock) (hc2 : clock ≤ 1152921504606846976) :
    Calls Tryz.prog 128 #[.agg (subC x av qv).toArray, .int .i64 clock, .int .i64 next] w fun e w' => e = .returned (.bool (decide (x.queue.length ≤ 30) && queB x clock next x.floor x.queue)) ∧ Below w.heap.size w w' := by
  obtain ⟨Aa, ka, rfl, hka, ham⟩ := ha.shape
  obtain ⟨Aq, kq, rfl, hkq, hqm⟩ := hq.shape
  unfold maxLen at ham hqm
  rw [que_split]
  obtain ⟨xx, hxx⟩ : ∃ xx, xx = x := ⟨_, rfl⟩
  have HMS := Lib.hid (fun (m : Msg) (hm : m.til ≤ 9223372036854775807) (W : World) => messageP_any m x (.slice Aa x.acks.length ka) (.slice Aq x.queue.length kq) rfl rfl clock hm hl1 hl2 hm1 hm2 hc1 hc2 W)
  rw [show x.queue.all (okM x clock) = x.queue.all (okM xx clock) by rw [hxx]]
  have HOK := Lib.hid (fun m : Msg => show okM xx clock m = (!(x.acks.contains m.seq) && msgB m x.lease x.most clock) by rw [hxx]; rfl)
  generalize okM xx clock = okf at HOK ⊢
  clear hxx
  clear xx
  obtain ⟨xid, name, topic, want, lease, most, floor, acks, queue, note⟩ := x
  simp only [subC] at ha hq hti HMS HOK ⊢
  obtain ⟨W0, hW0⟩ : ∃ W0, W0 = w.alloc (.cells #[.int .i64 xid, sv name, sv topic, sv want, .int .i64 lease, .int .i64 most, .int .i64 floor, .slice Aa acks.length ka, .slice Aq queue.length kq, sv note] 30) := ⟨_, rfl⟩
  have hb0 : Below w.heap.size w W0 := by rw [hW0]; exact (Below.refl w.heap.size w).alloc (Nat.le_refl _) _
  have hx0 : Wh W0 w.heap.size [.int .i64 xid, sv name, sv topic, sv want, .int .i64 lease, .int .i64 most, .int .i64 floor, .slice Aa acks.length ka, .slice Aq queue.length kq, sv note] 30 := by rw [hW0]; exact Wh.new w _ _
  have HB0 := Lib.hid hb0
  have HX0 := Lib.hid hx0
  have HA := Lib.hid ha
  have HQ := Lib.hid hq
  have HTI := Lib.hid hti
  clear hb0 hx0 ha hq hti hl1 hl2 hm1 hm2 hc1 hc2
  generalize hr : (decide (queue.length ≤ 30) && (queue.all okf && ackB next floor (queue.map (·.seq)))) = r
  have HR := Lib.hid hr
  clear hr
  by_cases h30 : 30 < queue.length
  · have HE := Lib.hid (show r = false by rw [← HR.out]; simp [show ¬ queue.length ≤ 30 by omega])
    have q1 : (30 : Int) < (queue.length : Int) := by omega
    clear h30
    go_enter Tryz.func128, Tryz.ntmps128
    go_wp2
    rw [← hW0]
    go_ret
    exact ⟨by rw [HE.out] <;> rfl, HB0.out⟩
  have q1 : ¬ (30 : Int) < (queue.length : Int) := by omega
  have h30' : queue.length ≤ 30 := by omega
  have HR2 := Lib.hid (show (queue.all okf && ackB next floor (queue.map (·.seq))) = r by rw [← HR.out]; simp [h30'])
  clear HR h30
  go_enter Tryz.func128, Tryz.ntmps128
  go_wp2_with fail
  rw [← hW0]
  clear hW0
  go_loopw [7, 17] (fun lv i wr => ∃ k : Nat, k ≤ queue.length ∧ i = .int .i64 k ∧ OI W0.heap.size wr lv ((queue.take k).map (·.seq)) ∧ (queue.take k).all okf = true ∧ Below W0.heap.size W0 wr) (fun _ i _ => queue.length - (intOf i).toNat)
  case atStart => exact ⟨0, Nat.zero_le _, rfl, OI.nil_ _ _, rfl, Below.refl _ _⟩
  case round =>
    obtain ⟨k, hk, rfl, hos, hall, hbel⟩ := hrel
    have hmt : ((queue.take k).map (·.seq)).length ≤ 30 := by simp; omega
    obtain ⟨ys, hys⟩ : ∃ ys, ys = (queue.take k).map (·.seq) := ⟨_, rfl⟩
    rw [← hys] at hos hmt
    have HYS := Lib.hid hys
    obtain ⟨A2, c2, rfl, hc2⟩ := own_shape hos
    have HOS := Lib.hid hos
    have HAL := Lib.hid hall
    have HBW := Lib.hid hbel
    have HBT := Lib.hid (HB0.out.trans (hbel.mono HB0.out.size))
    clear hys
    clear hos hall hbel
    by_cases hlt : k < queue.length
    · have q2 : (k : Int) < (queue.length : Int) := by omega
      obtain ⟨b, off, hAq, hbq, hrg0⟩ := rm_at HQ.out hlt
      subst hAq
      have hrg := range_below hrg0 hbq HBT.out
      have htk := all_take (p := okf) hlt
      rw [HAL.out, Bool.true_and] at htk
      have hno := all_not (p := okf) hlt
      have hsq : (queue.take (k + 1)).map (·.seq) = ys ++ [queue[k].seq] := by rw [HYS.out, List.take_succ_eq_append_getElem hlt, List.map_append]; rfl
      have htm := HTI.out queue[k] (List.getElem_mem hlt)
      obtain ⟨m, hm⟩ : ∃ m, m = queue[k] := ⟨_, rfl⟩
      rw [← hm] at hrg htk hno hsq htm
      have hok := HOK.out m
      have HM := Lib.hid (fun W => HMS.out m htm W)
      clear hm hrg0
      obtain ⟨seq, body, attr, tries, til, dead, why, prio⟩ := m
      simp only [msgC] at hrg HM hok
      have HRG := Lib.hid hrg
      have HTK := Lib.hid htk
      have HNO := Lib.hid hno
      have HSQ := Lib.hid hsq
      have HNW := Lib.hid (Wh.new wr [.int .i64 0, .string ⟨#[]⟩, .string ⟨#[]⟩, .int .i64 0, .int .i64 0, .bool false, .string ⟨#[]⟩, .int .i64 0] 45)
      obtain ⟨W5, hW5⟩ : ∃ W5, W5 = (wr.alloc (.cells #[.int .i64 0, .string ⟨#[]⟩, .string ⟨#[]⟩, .int .i64 0, .int .i64 0, .bool false, .string ⟨#[]⟩, .int .i64 0] 45)).setRow wr.heap.size #[.int .i64 seq, sv body, sv attr, .int .i64 tries, .int .i64 til, .bool dead, sv why, .int .i64 prio] := ⟨_, rfl⟩
      have hm5 : Wh W5 wr.heap.size [.int .i64 seq, sv body, sv attr, .int .i64 tries, .int .i64 til, .bool dead, sv why, .int .i64 prio] 45 := by rw [hW5]; exact HNW.out.set [.int .i64 seq, sv body, sv attr, .int .i64 tries, .int .i64 til, .bool dead, sv why, .int .i64 prio]
      have hb5 : Below wr.heap.size wr W5 := by rw [hW5]; exact below_setRow ((Below.refl _ wr).alloc (Nat.le_refl _) _) (Nat.le_refl _) _
      have hx5 := (HX0.out.below HBW.out).below hb5
      have hc7 := hx5.bx.cell (i := 7) (by simp)
      have hd0 := hm5.bx.cell (i := 0) (by simp)
      simp only [List.getElem_cons_succ, List.getElem_cons_zero] at hc7 hd0
      rw [hW5] at hc7 hd0
      have HCT := Lib.hid (containsI_any (.slice Aa acks.length ka) acks seq W5 (HA.out.below stays_ci (HBT.out.trans (hb5.mono HBT.out.size))))
      have HM5 := Lib.hid hm5.range
      have HMW := Lib.hid hm5
      have HX5 := Lib.hid hx5.range
      have HB5 := Lib.hid hb5
      have hone : (#[.int .i64 seq, sv body, sv attr, .int .i64 tries, .int .i64 til, .bool dead, sv why, .int .i64 prio] : Array Value).all (·.oneCell') = true := by simp [Value.oneCell']
      have HON := Lib.hid hone
      obtain ⟨cb, hcb⟩ : ∃ cb, cb = acks.contains seq := ⟨_, rfl⟩
      obtain ⟨mb, hmb⟩ : ∃ mb, mb = msgB ⟨seq, body, attr, tries, til, dead, why, prio⟩ lease most clock := ⟨_, rfl⟩
      rw [← hcb] at HCT hok
      rw [← hmb] at HM hok
      have HKO := Lib.hid hok
      clear hm5 hx5 hb5 hrg htk hno hsq hone hcb hmb hok htm
      go_wp2_with (first
        | (refine wpList_load_midG (by rfl) 45 (.tmp 19) rfl b (off + k * 8) rfl _ _ HRG.out Tryz.underlying45 rfl size57 ?_)
        | (refine wpList_store_row rfl 45 (.tmp 9) (.tmp 20) rfl wr.heap.size #[.int .i64 seq, sv body, sv attr, .int .i64 tries, .int .i64 til, .bool dead, sv why, .int .i64 prio] rfl rfl 45 #[.int .i64 0, .string ⟨#[]⟩, .string ⟨#[]⟩, .int .i64 0, .int .i64 0, .bool false, .string ⟨#[]⟩, .int .i64 0] HNW.out size57 rfl HON.out ?_))
      rw [← hW5]
      clear hW5 hc7 hd0 HNW
      refine HCT.out.mono ?_
      rintro e w5 ⟨rfl, hw5⟩
      subst w5
      cases cb with
      | true =>
        have HF := Lib.hid (show r = false by rw [← HR2.out, HNO.out (by rw [HKO.out]; rfl)]; rfl)
        have HBE := Lib.hid (HBT.out.trans (HB5.out.mono HBT.out.size))
        go_wp2
        go_ret
        exact ⟨by rw [HF.out] <;> rfl, HBE.out⟩
      | false =>
        go_wp2_with (first
          | (refine wpList_load_midG (by rfl) 45 (.tmp 9) rfl wr.heap.size 0 rfl _ _ HM5.out Tryz.underlying45 rfl size57 ?_)
          | (refine wpList_load_midG (by rfl) 30 (.tmp 3) rfl w.heap.size 0 rfl _ _ HX5.out Tryz.underlying30 rfl size35 ?_))
        refine (HM.out _).mono ?_
        rintro e w6 ⟨rfl, hb6⟩
        have HB6 := Lib.hid (HBW.out.trans ((HB5.out.trans (hb6.mono HB5.out.size)).mono HBW.out.size))
        have hd06 := (HMW.out.below hb6).bx.cell (i := 0) (by simp)
        simp only [List.getElem_cons_succ, List.getElem_cons_zero] at hd06
        have hos6 : OI W0.heap.size w6 (.slice A2 ys.length c2) ys := own_below HOS.out (HB5.out.trans (hb6.mono HB5.out.size))
        clear hb6
        cases mb with
        | false =>
          have HF := Lib.hid (show r = false by rw [← HR2.out, HNO.out (by rw [HKO.out]; rfl)]; rfl)
          have HBE := Lib.hid (HB0.out.trans (HB6.out.mono HB0.out.size))
          clear hd06 hos6
          go_wp2
          go_ret
          exact ⟨by rw [HF.out] <;> rfl, HBE.out⟩
        | true =>
          have HTK2 := Lib.hid (show (queue.take (k + 1)).all okf = true by rw [HTK.out, HKO.out]; rfl)
          have HOY := Lib.hid (show w6.ownsRow W0.heap.size 3 1 (.slice A2 ys.length c2) ys.length (ys.map iv) from hos6)
          have HSR := Lib.hid (fun (u : World) => src_cells (P := Tryz.prog) u rfl Tryz.underlying27 3 [.int .i64 seq] (fun u hu => by simp at hu; subst hu; rfl))
          clear hos6
          go_wp2_with (at_builtin; refine wpList_own rfl (.tmp 33) (.tmp 36) 27 27 rfl W0.heap.size 3 _ 1 8 Tryz.underlying27 infoNum rfl rfl (HOY.out.alloc _) rfl (HSR.out w6) (HB6.out.alloc HB6.out.size _) (Nat.le_refl _) ?_ ?_ ?_ ?_)
          · unfold maxLen; omega
          · omega
          · have := HB6.out.size; (first | omega | (simp; omega))
          · intro v8 w8 hown8 hbel8 _
            have hos8 : OI W0.heap.size w8 v8 (ys ++ [seq]) := by unfold OI; rw [List.length_append, List.map_append]; exact hown8
            obtain ⟨A8, c8, rfl, _⟩ := own_shape hown8
            have HO8 := Lib.hid hos8
            have HB8 := Lib.hid hbel8
            clear hown8 hbel8 hos8
            go_wp2
            go_roundw
            case rel => exact ⟨k + 1, by omega, by go_num, by rw [HSQ.out]; simpa using HO8.out, HTK2.out, HB8.out⟩
            case measure => simp [intOf]; omega
    · have q2 : ¬ (k : Int) < (queue.length : Int) := by omega
      have hke : queue.take k = queue := List.take_of_length_le (by omega)
      have HAL2 := HAL.out
      rw [hke] at HAL2
      have HF := Lib.hid (show ackB next floor (queue.map (·.seq)) = r by rw [← HR2.out, HAL2]; rfl)
      have hye : ys = queue.map (·.seq) := by rw [HYS.out, hke]
      have HF2 := Lib.hid (show ackB next floor ys = r by rw [hye]; exact HF.out)
      have HRI := Lib.hid (rising_any _ ys floor next wr (OI.rl HOS.out))
      rw [HF2.out] at HRI
      have hxw := HX0.out.below HBW.out
      have hc6 := hxw.bx.cell (i := 6) (by simp)
      simp only [List.getElem_cons_succ, List.getElem_cons_zero] at hc6
      clear hke HAL2 hxw hye
      go_wp2_with fail
      refine HRI.out.mono ?_
      rintro e w5 ⟨rfl, hw5⟩
      subst w5
      go_wp2
      go_ret
      exact ⟨rfl, HBT.out⟩
end Go.Proofs.YtodckdkbheapfaaGreat
set_option linter.unusedVariables false
set_option linter.unusedSimpArgs false
namespace Go.Proofs.YtodckdkbheapfaaGreat
open Go.RowKit Go.Rst Go.Tp Go.Ts
set_option maxRecDepth 100000 in
set_option maxHeartbeats 8000000 in
theorem goodP_any (x : Sub) (av qv : Value) (clock next : Int) (w : World) (ha : Go.Ts.RI w av x.acks) (hq : RM w qv x.queue) (hti : ∀ m ∈ x.queue, m.til ≤ 9223372036854775807) (hc1 : 0 ≤ clock) (hc2 : clock ≤ 1152921504606846976) :
    Calls Tryz.prog 96 #[.agg (subC x av qv).toArray, .int .i64 clock, .int .i64 next] w fun e w' => e = .returned (.bool (goodB x clock next)) ∧ Below w.heap.size w w' := by
  obtain ⟨Aa, ka, rfl, hka, ham⟩ := ha.shape
  obtain ⟨Aq, kq, rfl, hkq, hqm⟩ := hq.shape
  unfold maxLen at ham hqm
  rw [good_split]
  have HAK := Lib.hid (fun W (hW : Below w.heap.size w W) => acksP_any x (.slice Aa x.acks.length ka) (.slice Aq x.queue.length kq) next W (ha.below stays_ci hW) ⟨_, _, rfl⟩)
  have HQU := Lib.hid (fun W (hW : Below w.heap.size w W) h1 h2 h3 h4 => queueP_any x (.slice Aa x.acks.length ka) (.slice Aq x.queue.length kq) clock next W (ha.below stays_ci hW) (hq.below stays_cm hW) hti h1 h2 h3 h4 hc1 hc2)
  have HNA := Lib.hid (fun W => nameP_any x.name W)
  have HPA := Lib.hid (fun W => patP_any x.topic W)
  have HAT := Lib.hid (fun W => attrsP_any x.want W)
  generalize hbq : (decide (x.queue.length ≤ 30) && queB x clock next x.floor x.queue) = bq at HQU ⊢
  generalize hbk : (decide (x.acks.length ≤ 20) && ackB next x.floor x.acks) = bk at HAK ⊢
  generalize hbn : nameB x.name = bn at HNA ⊢
  generalize hbp : patB x.topic = bp at HPA ⊢
  generalize hba : attrsB x.want = ba at HAT ⊢
  clear hbq hbk hbn hbp hba ha hq hti hc1 hc2
  obtain ⟨xid, name, topic, want, lease, most, floor, acks, queue, note⟩ := x
  simp only [subC] at HAK HQU HNA HPA HAT ⊢
  obtain ⟨b1, hb1⟩ : ∃ b1, (decide (1 ≤ xid) && decide (xid ≤ 1073741824)) = b1 := ⟨_, rfl⟩
  obtain ⟨bl, hbl⟩ : ∃ bl, (decide (1 ≤ lease) && decide (lease ≤ 1000)) = bl := ⟨_, rfl⟩
  obtain ⟨bm, hbm⟩ : ∃ bm, (decide (1 ≤ most) && decide (most ≤ 9)) = bm := ⟨_, rfl⟩
  have HW1 := Lib.hid (fun W => within_is xid 1 1073741824 b1 hb1 W)
  have HWL := Lib.hid (fun W => within_is lease 1 1000 bl hbl W)
  have HWM := Lib.hid (fun W => within_is most 1 9 bm hbm W)
  have HBL := Lib.hid (fun h : bl = true => show 1 ≤ lease ∧ lease ≤ 1000 by rw [h] at hbl; simpa using hbl)
  have HBM := Lib.hid (fun h : bm = true => show 1 ≤ most ∧ most ≤ 9 by rw [h] at hbm; simpa using hbm)
  rw [hb1, hbl, hbm]
  obtain ⟨r, hr⟩ : ∃ r, r = (b1 && (bn && (bp && (ba && (bl && (bm && (decide (note.length ≤ 30) && (decide (0 ≤ floor) && (decide (floor < next) && (bk && bq)))))))))) := ⟨_, rfl⟩
  rw [← hr]
  have HR := Lib.hid hr
  obtain ⟨W0, hW0⟩ : ∃ W0, W0 = w.alloc (.cells #[.int .i64 xid, sv name, sv topic, sv want, .int .i64 lease, .int .i64 most, .int .i64 floor, .slice Aa acks.length ka, .slice Aq queue.length kq, sv note] 30) := ⟨_, rfl⟩
  have hb0 : Below w.heap.size w W0 := by rw [hW0]; exact (Below.refl w.heap.size w).alloc (Nat.le_refl _) _
  have hx0 : Wh W0 w.heap.size [.int .i64 xid, sv name, sv topic, sv want, .int .i64 lease, .int .i64 most, .int .i64 floor, .slice Aa acks.length ka, .slice Aq queue.length kq, sv note] 30 := by rw [hW0]; exact Wh.new w _ _
  have HB0 := Lib.hid hb0
  have HX0 := Lib.hid hx0
  clear hb1 hbl hbm hr
  go_enter Tryz.func96, Tryz.ntmps96
  go_wp2_with fail
  rw [← hW0]
  clear hW0
  refine (HW1.out _).mono ?_
  rintro e w5 ⟨rfl, hw5⟩
  subst w5
  have c1 := hx0.bx.cell (i := 1) (by simp)
  simp only [List.getElem_cons_succ, List.getElem_cons_zero] at c1
  clear hb0 hx0
  cases b1 with
    | false =>
      have HE := Lib.hid (show r = false by rw [HR.out]; simp)
      go_wp2
      go_ret
      exact ⟨by rw [HE.out] <;> rfl, HB0.out⟩
    | true =>
      go_wp2_with fail
      refine (HNA.out _).mono ?_
      rintro e w2 ⟨rfl, hb2⟩
      have HB2 := Lib.hid (HB0.out.trans (hb2.mono HB0.out.size))
      have HX2 := Lib.hid (HX0.out.below hb2)
      clear hb2 c1
      cases bn with
        | false =>
          have HE := Lib.hid (show r = false by rw [HR.out]; simp)
          go_wp2
          go_ret
          exact ⟨by rw [HE.out] <;> rfl, HB2.out⟩
        | true =>
          have c2 := (HX2.out.bx.cell (i := 2) (by simp))
          simp only [List.getElem_cons_succ, List.getElem_cons_zero] at c2
          go_wp2_with fail
          refine (HPA.out _).mono ?_
          rintro e w3 ⟨rfl, hb3⟩
          have HB3 := Lib.hid (HB2.out.trans (hb3.mono HB2.out.size))
          have HX3 := Lib.hid (HX2.out.below hb3)
          clear hb3 c2
          cases bp with
            | false =>
              have HE := Lib.hid (show r = false by rw [HR.out]; simp)
              go_wp2
              go_ret
              exact ⟨by rw [HE.out] <;> rfl, HB3.out⟩
            | true =>
              have c3 := (HX3.out.bx.cell (i := 3) (by simp))
              simp only [List.getElem_cons_succ, List.getElem_cons_zero] at c3
              go_wp2_with fail
              refine (HAT.out _).mono ?_
              rintro e w4 ⟨rfl, hb4⟩
              have HB4 := Lib.hid (HB3.out.trans (hb4.mono HB3.out.size))
              have HX4 := Lib.hid (HX3.out.below hb4)
              clear hb4 c3
              cases ba with
                | false =>
                  have HE := Lib.hid (show r = false by rw [HR.out]; simp)
                  go_wp2
                  go_ret
                  exact ⟨by rw [HE.out] <;> rfl, HB4.out⟩
                | true =>
                  have hx_ := HX4.out
                  have c4 := hx_.bx.cell (i := 4) (by simp)
                  simp only [List.getElem_cons_succ, List.getElem_cons_zero] at c4
                  clear hx_
                  go_wp2_with fail
                  refine (HWL.out _).mono ?_
                  rintro e w5 ⟨rfl, hw5⟩
                  subst w5
                  clear c4
                  cases bl with
                    | false =>
                      have HE := Lib.hid (show r = false by rw [HR.out]; simp)
                      go_wp2
                      go_ret
                      exact ⟨by rw [HE.out] <;> rfl, HB4.out⟩
                    | true =>
                      have hx_ := HX4.out
                      have c5 := hx_.bx.cell (i := 5) (by simp)
                      simp only [List.getElem_cons_succ, List.getElem_cons_zero] at c5
                      clear hx_
                      go_wp2_with fail
                      refine (HWM.out _).mono ?_
                      rintro e w5 ⟨rfl, hw5⟩
                      subst w5
                      cases bm with
                        | false =>
                          have HE := Lib.hid (show r = false by rw [HR.out]; simp)
                          go_wp2
                          go_ret
                          exact ⟨by rw [HE.out] <;> rfl, HB4.out⟩
                        | true =>
                          have hx_ := HX4.out
                          have c6 := hx_.bx.cell (i := 6) (by simp)
                          have c9 := hx_.bx.cell (i := 9) (by simp)
                          simp only [List.getElem_cons_succ, List.getElem_cons_zero] at c6 c9
                          clear hx_
                          by_cases q7 : note.length ≤ 30
                          case neg =>
                            have q77 : ¬ (note.length : Int) ≤ 30 := by omega
                            have HE := Lib.hid (show r = false by rw [HR.out]; simp [q7])
                            go_wp2
                            go_ret
                            exact ⟨by rw [HE.out] <;> rfl, HB4.out⟩
                          have q77 : (note.length : Int) ≤ 30 := by omega
                          by_cases q8 : 0 ≤ floor
                          case neg =>
                            have HE := Lib.hid (show r = false by rw [HR.out]; simp [q8])
                            go_wp2
                            go_ret
                            exact ⟨by rw [HE.out] <;> rfl, HB4.out⟩
                          by_cases q9 : floor < next
                          case neg =>
                            have HE := Lib.hid (show r = false by rw [HR.out]; simp [q9])
                            go_wp2
                            go_ret
                            exact ⟨by rw [HE.out] <;> rfl, HB4.out⟩
                          have HRG := Lib.hid (HX4.out.range)
                          go_wp2_with (refine wpList_load_midG (by rfl) 30 (.tmp 3) rfl w.heap.size 0 rfl _ _ HRG.out Tryz.underlying30 rfl size35 ?_)
                          refine (HAK.out _ HB4.out).mono ?_
                          rintro e w5 ⟨rfl, hb5⟩
                          have HB5 := Lib.hid (HB4.out.trans (hb5.mono HB4.out.size))
                          have HX5 := Lib.hid (HX4.out.below hb5)
                          clear hb5 HRG
                          cases bk with
                            | false =>
                              have HE := Lib.hid (show r = false by rw [HR.out]; simp)
                              go_wp2
                              go_ret
                              exact ⟨by rw [HE.out] <;> rfl, HB5.out⟩
                            | true =>
                              have HRG := Lib.hid (HX5.out.range)
                              go_wp2_with (refine wpList_load_midG (by rfl) 30 (.tmp 3) rfl w.heap.size 0 rfl _ _ HRG.out Tryz.underlying30 rfl size35 ?_)
                              refine (HQU.out _ HB5.out (HBL.out (by first | rfl | trivial)).1 (HBL.out (by first | rfl | trivial)).2 (HBM.out (by first | rfl | trivial)).1 (HBM.out (by first | rfl | trivial)).2).mono ?_
                              rintro e w6 ⟨rfl, hb6⟩
                              have HB6 := Lib.hid (HB5.out.trans (hb6.mono HB5.out.size))
                              have HE := Lib.hid (show r = bq by rw [HR.out, decide_eq_true q7, decide_eq_true q8, decide_eq_true q9]; simp)
                              clear hb6
                              go_wp2
                              go_ret
                              exact ⟨by rw [HE.out] <;> rfl, HB6.out⟩
end Go.Proofs.YtodckdkbheapfaaGreat
