/-
  The contract of the document's own message (layer state).
-/
import Derived.Test.YtcmkmdghekkkhaaDoorTsHas
import Derived.Test.YtcmkmdghekkkhaaDoorTpAttrs
set_option linter.unusedVariables false
namespace Go.Proofs.YtcmkmdghekkkhaaDoor
open Go.RowKit Go.Rst Go.Tp Go.Ts
theorem w64_eq (n : Int) : w64 n = wrap64 n := rfl
theorem below_two (w : World) (a b : Array Value) (t u : TypeId) : Below w.heap.size w ((w.alloc (.cells a t)).alloc (.cells b u)) := ((Below.refl _ w).alloc (Nat.le_refl _) _).alloc (by simp) _
/-- The cells of a message and of a subscription in boxes, behind a call. -/
theorem boxes_at {w w1 : World} {a b : List Value} {t u : TypeId} (hb : Below ((w.alloc (.cells a.toArray t)).alloc (.cells b.toArray u)).heap.size ((w.alloc (.cells a.toArray t)).alloc (.cells b.toArray u)) w1) :
    (∀ i (h : i < a.length), w1.cell? ⟨w.heap.size, i, none⟩ = some a[i]) ∧ (∀ i (h : i < b.length), w1.cell? ⟨w.heap.size + 1, i, none⟩ = some b[i]) := by
  refine ⟨fun i hi => ?_, fun i hi => ?_⟩
  · rw [hb.cell (p := ⟨w.heap.size, i, none⟩) (by simp; omega), cell_of_row _ w.heap.size i a.toArray t (0, 0) ((Below.heap_alloc _ _ _ (by simp)).trans (heap_alloc_new w _))]
    simp [hi]
  · have h2 := heap_alloc_new (w.alloc (.cells a.toArray t)) (.cells b.toArray u)
    rw [World.size_alloc] at h2
    rw [hb.cell (p := ⟨w.heap.size + 1, i, none⟩) (by simp), cell_of_row _ (w.heap.size + 1) i b.toArray u (0, 0) h2]
    simp [hi]
set_option maxRecDepth 100000 in
set_option maxHeartbeats 4000000 in
theorem message_any (m : Msg) (x : Sub) (av qv : Value) (ha : av.oneCell' = true) (hq : qv.oneCell' = true) (clock : Int) (hl : m.attr.length ≤ 1000000) (w : World) : Calls Tryd.prog 51 #[.agg (msgC m).toArray, .agg (subC x av qv).toArray, .int .i64 clock] w fun e w' => e = .returned (.bool (msgB m x.lease x.most clock)) ∧ Below w.heap.size w w' := by
  have boxes : ∀ {w1 : World}, Below ((w.alloc (.cells (msgC m).toArray 55)).alloc (.cells (subC x av qv).toArray 35)).heap.size ((w.alloc (.cells (msgC m).toArray 55)).alloc (.cells (subC x av qv).toArray 35)) w1 →
      w1.cell? ⟨w.heap.size, 3, none⟩ = some (.int .i64 m.tries) ∧ w1.cell? ⟨w.heap.size, 4, none⟩ = some (.int .i64 m.til) ∧ w1.cell? ⟨w.heap.size, 5, none⟩ = some (.bool m.dead) ∧ w1.cell? ⟨w.heap.size, 6, none⟩ = some (sv m.why) ∧ w1.cell? ⟨w.heap.size, 7, none⟩ = some (.int .i64 m.prio) ∧
      w1.cell? ⟨w.heap.size + 1, 4, none⟩ = some (.int .i64 x.lease) ∧ w1.cell? ⟨w.heap.size + 1, 5, none⟩ = some (.int .i64 x.most) := fun hb =>
    let ⟨h1, h2⟩ := boxes_at hb
    ⟨h1 3 (by simp [msgC]), h1 4 (by simp [msgC]), h1 5 (by simp [msgC]), h1 6 (by simp [msgC]), h1 7 (by simp [msgC]), h2 4 (by simp [subC]), h2 5 (by simp [subC])⟩
  have hat := attrs_any m.attr hl ((w.alloc (.cells (msgC m).toArray 55)).alloc (.cells (subC x av qv).toArray 35))
  generalize hr : msgB m x.lease x.most clock = r
  have HR := Lib.hid hr
  clear hr
  obtain ⟨seq, body, attr, tries, til, dead, why, prio⟩ := m
  obtain ⟨id, name, topic, want, lease, most, floor, acks, queue, note⟩ := x
  simp only [msgC, subC] at HR hat boxes hl ⊢
  go_enter Tryd.func51, Tryd.ntmps51
  by_cases b1 : 60 < body.length
  · have q1 : (60 : Int) < (body.length : Int) := by omega
    clear hat boxes
    have HE := Lib.hid (show r = false by rw [← HR.out]; simp [msgB, b1])
    clear HR
    go_wp2
    go_ret
    exact ⟨by rw [HE.out]; rfl, below_two w _ _ _ _⟩
  have q1 : ¬ (60 : Int) < (body.length : Int) := by omega
  cases hab : attrsB attr with
  | false =>
    rw [hab] at hat
    have HAT := Lib.hid hat
    clear hat
    have HE := Lib.hid (show r = false by rw [← HR.out]; simp [msgB, b1, hab])
    clear HR
    go_wp2_with fail
    go_at_call 73
    refine HAT.out.mono ?_
    rintro e w1 ⟨rfl, hb1⟩
    have hf := boxes hb1
    obtain ⟨c3, c4, c5, c6, c7, d4, d5⟩ := hf
    have HB := Lib.hid ((below_two w _ _ _ _).trans (hb1.mono (by simp; omega)))
    clear hb1
    go_wp2
    go_ret
    exact ⟨by rw [HE.out]; rfl, HB.out⟩
  | true =>
  rw [hab] at hat
  have HAT := Lib.hid hat
  clear hat
  by_cases b2 : prio < 0
  · skip
    have HE := Lib.hid (show r = false by rw [← HR.out]; simp [msgB, b1, hab, b2])
    clear HR
    go_wp2_with fail
    go_at_call 73
    refine HAT.out.mono ?_
    rintro e w1 ⟨rfl, hb1⟩
    have hf := boxes hb1
    obtain ⟨c3, c4, c5, c6, c7, d4, d5⟩ := hf
    have HB := Lib.hid ((below_two w _ _ _ _).trans (hb1.mono (by simp; omega)))
    clear hb1
    go_wp2
    go_ret
    exact ⟨by rw [HE.out]; rfl, HB.out⟩
  by_cases b3 : 9 < prio
  · skip
    have HE := Lib.hid (show r = false by rw [← HR.out]; simp [msgB, b1, hab, b2, b3])
    clear HR
    go_wp2_with fail
    go_at_call 73
    refine HAT.out.mono ?_
    rintro e w1 ⟨rfl, hb1⟩
    have hf := boxes hb1
    obtain ⟨c3, c4, c5, c6, c7, d4, d5⟩ := hf
    have HB := Lib.hid ((below_two w _ _ _ _).trans (hb1.mono (by simp; omega)))
    clear hb1
    go_wp2
    go_ret
    exact ⟨by rw [HE.out]; rfl, HB.out⟩
  cases dead with
  | true =>
    by_cases b4 : til = 0
    · have q4 : (til == 0) = true := by rw [b4]; rfl
      by_cases b5 : why = [110, 97, 99, 107]
      · have q5 : (why == [110, 97, 99, 107]) = true := by rw [b5]; rfl
        by_cases b7 : tries = most
        · have q7 : (tries == most) = true := by rw [b7]; simp
          have HE := Lib.hid (show r = true by rw [← HR.out]; simp [msgB, b1, hab, b2, b3, b4, b5, b7])
          clear HR b4 b5 b7
          go_wp2_with fail
          go_at_call 73
          refine HAT.out.mono ?_
          rintro e w1 ⟨rfl, hb1⟩
          have hf := boxes hb1
          obtain ⟨c3, c4, c5, c6, c7, d4, d5⟩ := hf
          have HB := Lib.hid ((below_two w _ _ _ _).trans (hb1.mono (by simp; omega)))
          clear hb1
          go_wp2
          go_ret
          exact ⟨by rw [HE.out]; rfl, HB.out⟩
        · have q7 : (tries == most) = false := by simpa using b7
          have HE := Lib.hid (show r = false by rw [← HR.out]; simp [msgB, b1, hab, b2, b3, b4, b5, b7])
          clear HR b4 b5
          go_wp2_with fail
          go_at_call 73
          refine HAT.out.mono ?_
          rintro e w1 ⟨rfl, hb1⟩
          have hf := boxes hb1
          obtain ⟨c3, c4, c5, c6, c7, d4, d5⟩ := hf
          have HB := Lib.hid ((below_two w _ _ _ _).trans (hb1.mono (by simp; omega)))
          clear hb1
          go_wp2
          go_ret
          exact ⟨by rw [HE.out]; rfl, HB.out⟩
      · have q5 : (why == [110, 97, 99, 107]) = false := by simpa using b5
        by_cases b6 : why = [116, 105, 109, 101]
        · have q6 : (why == [116, 105, 109, 101]) = true := by rw [b6]; rfl
          by_cases b7 : tries = most
          · have q7 : (tries == most) = true := by rw [b7]; simp
            have HE := Lib.hid (show r = true by rw [← HR.out]; simp [msgB, b1, hab, b2, b3, b4, b6, b7])
            clear HR b4 b6 b7
            go_wp2_with fail
            go_at_call 73
            refine HAT.out.mono ?_
            rintro e w1 ⟨rfl, hb1⟩
            have hf := boxes hb1
            obtain ⟨c3, c4, c5, c6, c7, d4, d5⟩ := hf
            have HB := Lib.hid ((below_two w _ _ _ _).trans (hb1.mono (by simp; omega)))
            clear hb1
            go_wp2
            go_ret
            exact ⟨by rw [HE.out]; rfl, HB.out⟩
          · have q7 : (tries == most) = false := by simpa using b7
            have HE := Lib.hid (show r = false by rw [← HR.out]; simp [msgB, b1, hab, b2, b3, b4, b6, b7])
            clear HR b4 b6
            go_wp2_with fail
            go_at_call 73
            refine HAT.out.mono ?_
            rintro e w1 ⟨rfl, hb1⟩
            have hf := boxes hb1
            obtain ⟨c3, c4, c5, c6, c7, d4, d5⟩ := hf
            have HB := Lib.hid ((below_two w _ _ _ _).trans (hb1.mono (by simp; omega)))
            clear hb1
            go_wp2
            go_ret
            exact ⟨by rw [HE.out]; rfl, HB.out⟩
        · have q6 : (why == [116, 105, 109, 101]) = false := by simpa using b6
          have HE := Lib.hid (show r = false by rw [← HR.out]; simp [msgB, b1, hab, b2, b3, b4, b5, b6])
          clear HR b4
          go_wp2_with fail
          go_at_call 73
          refine HAT.out.mono ?_
          rintro e w1 ⟨rfl, hb1⟩
          have hf := boxes hb1
          obtain ⟨c3, c4, c5, c6, c7, d4, d5⟩ := hf
          have HB := Lib.hid ((below_two w _ _ _ _).trans (hb1.mono (by simp; omega)))
          clear hb1
          go_wp2
          go_ret
          exact ⟨by rw [HE.out]; rfl, HB.out⟩
    · have q4 : (til == 0) = false := by simpa using b4
      have HE := Lib.hid (show r = false by rw [← HR.out]; simp [msgB, b1, hab, b2, b3, b4])
      clear HR
      go_wp2_with fail
      go_at_call 73
      refine HAT.out.mono ?_
      rintro e w1 ⟨rfl, hb1⟩
      have hf := boxes hb1
      obtain ⟨c3, c4, c5, c6, c7, d4, d5⟩ := hf
      have HB := Lib.hid ((below_two w _ _ _ _).trans (hb1.mono (by simp; omega)))
      clear hb1
      go_wp2
      go_ret
      exact ⟨by rw [HE.out]; rfl, HB.out⟩
  | false =>
    by_cases b5 : why = []
    · have q5 : (why == []) = true := by rw [b5]; rfl
      by_cases b4 : til = 0
      · have q4 : (til == 0) = true := by rw [b4]; rfl
        by_cases b6 : 0 ≤ tries
        · by_cases b7 : tries < most
          · have q7 : decide (tries < most) = true := decide_eq_true b7
            have HE := Lib.hid (show r = true by rw [← HR.out]; simp [msgB, b1, hab, b2, b3, b5, b4, b6, b7])
            clear HR b5 b4 b7
            go_wp2_with fail
            go_at_call 73
            refine HAT.out.mono ?_
            rintro e w1 ⟨rfl, hb1⟩
            have hf := boxes hb1
            obtain ⟨c3, c4, c5, c6, c7, d4, d5⟩ := hf
            have HB := Lib.hid ((below_two w _ _ _ _).trans (hb1.mono (by simp; omega)))
            clear hb1
            go_wp2
            go_ret
            exact ⟨by rw [HE.out]; rfl, HB.out⟩
          · have q7 : decide (tries < most) = false := decide_eq_false b7
            have HE := Lib.hid (show r = false by rw [← HR.out]; simp [msgB, b1, hab, b2, b3, b5, b4, b6, b7])
            clear HR b5 b4 b7
            go_wp2_with fail
            go_at_call 73
            refine HAT.out.mono ?_
            rintro e w1 ⟨rfl, hb1⟩
            have hf := boxes hb1
            obtain ⟨c3, c4, c5, c6, c7, d4, d5⟩ := hf
            have HB := Lib.hid ((below_two w _ _ _ _).trans (hb1.mono (by simp; omega)))
            clear hb1
            go_wp2
            go_ret
            exact ⟨by rw [HE.out]; rfl, HB.out⟩
        · skip
          have HE := Lib.hid (show r = false by rw [← HR.out]; simp [msgB, b1, hab, b2, b3, b5, b4, b6])
          clear HR b5 b4
          go_wp2_with fail
          go_at_call 73
          refine HAT.out.mono ?_
          rintro e w1 ⟨rfl, hb1⟩
          have hf := boxes hb1
          obtain ⟨c3, c4, c5, c6, c7, d4, d5⟩ := hf
          have HB := Lib.hid ((below_two w _ _ _ _).trans (hb1.mono (by simp; omega)))
          clear hb1
          go_wp2
          go_ret
          exact ⟨by rw [HE.out]; rfl, HB.out⟩
      · have q4 : (til == 0) = false := by simpa using b4
        by_cases b6 : 1 ≤ tries
        · by_cases b7 : tries ≤ most
          · by_cases b8 : clock < til
            · by_cases b9 : til ≤ wrap64 (clock + lease)
              · have q9 : decide (til ≤ wrap64 (clock + lease)) = true := decide_eq_true b9
                have HE := Lib.hid (show r = true by rw [← HR.out]; simp [msgB, b1, hab, b2, b3, b5, b4, b6, b7, b8, w64_eq, b9])
                clear HR b5 b9
                go_wp2_with fail
                go_at_call 73
                refine HAT.out.mono ?_
                rintro e w1 ⟨rfl, hb1⟩
                have hf := boxes hb1
                obtain ⟨c3, c4, c5, c6, c7, d4, d5⟩ := hf
                have HB := Lib.hid ((below_two w _ _ _ _).trans (hb1.mono (by simp; omega)))
                clear hb1
                go_wp2
                go_ret
                exact ⟨by rw [HE.out]; rfl, HB.out⟩
              · have q9 : decide (til ≤ wrap64 (clock + lease)) = false := decide_eq_false b9
                have HE := Lib.hid (show r = false by rw [← HR.out]; simp [msgB, b1, hab, b2, b3, b5, b4, b6, b7, b8, w64_eq, b9])
                clear HR b5 b9
                go_wp2_with fail
                go_at_call 73
                refine HAT.out.mono ?_
                rintro e w1 ⟨rfl, hb1⟩
                have hf := boxes hb1
                obtain ⟨c3, c4, c5, c6, c7, d4, d5⟩ := hf
                have HB := Lib.hid ((below_two w _ _ _ _).trans (hb1.mono (by simp; omega)))
                clear hb1
                go_wp2
                go_ret
                exact ⟨by rw [HE.out]; rfl, HB.out⟩
            · skip
              have HE := Lib.hid (show r = false by rw [← HR.out]; simp [msgB, b1, hab, b2, b3, b5, b4, b6, b7, b8])
              clear HR b5
              go_wp2_with fail
              go_at_call 73
              refine HAT.out.mono ?_
              rintro e w1 ⟨rfl, hb1⟩
              have hf := boxes hb1
              obtain ⟨c3, c4, c5, c6, c7, d4, d5⟩ := hf
              have HB := Lib.hid ((below_two w _ _ _ _).trans (hb1.mono (by simp; omega)))
              clear hb1
              go_wp2
              go_ret
              exact ⟨by rw [HE.out]; rfl, HB.out⟩
          · skip
            have HE := Lib.hid (show r = false by rw [← HR.out]; simp [msgB, b1, hab, b2, b3, b5, b4, b6, b7])
            clear HR b5
            go_wp2_with fail
            go_at_call 73
            refine HAT.out.mono ?_
            rintro e w1 ⟨rfl, hb1⟩
            have hf := boxes hb1
            obtain ⟨c3, c4, c5, c6, c7, d4, d5⟩ := hf
            have HB := Lib.hid ((below_two w _ _ _ _).trans (hb1.mono (by simp; omega)))
            clear hb1
            go_wp2
            go_ret
            exact ⟨by rw [HE.out]; rfl, HB.out⟩
        · skip
          have HE := Lib.hid (show r = false by rw [← HR.out]; simp [msgB, b1, hab, b2, b3, b5, b4, b6])
          clear HR b5
          go_wp2_with fail
          go_at_call 73
          refine HAT.out.mono ?_
          rintro e w1 ⟨rfl, hb1⟩
          have hf := boxes hb1
          obtain ⟨c3, c4, c5, c6, c7, d4, d5⟩ := hf
          have HB := Lib.hid ((below_two w _ _ _ _).trans (hb1.mono (by simp; omega)))
          clear hb1
          go_wp2
          go_ret
          exact ⟨by rw [HE.out]; rfl, HB.out⟩
    · have q5 : (why == []) = false := by simpa using b5
      have HE := Lib.hid (show r = false by rw [← HR.out]; simp [msgB, b1, hab, b2, b3, b5])
      clear HR
      go_wp2_with fail
      go_at_call 73
      refine HAT.out.mono ?_
      rintro e w1 ⟨rfl, hb1⟩
      have hf := boxes hb1
      obtain ⟨c3, c4, c5, c6, c7, d4, d5⟩ := hf
      have HB := Lib.hid ((below_two w _ _ _ _).trans (hb1.mono (by simp; omega)))
      clear hb1
      go_wp2
      go_ret
      exact ⟨by rw [HE.out]; rfl, HB.out⟩
end Go.Proofs.YtcmkmdghekkkhaaDoor
