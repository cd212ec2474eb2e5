/-
  The contract of the document's own message (layer state).; The contract of the document's own fields (layer state).; The contracts of the statements' own g and text (layer state).
-/
import Derived.Test.YtcmkmdghekkkhaaDoorKRH
import Derived.Test.YtcmkmdghekkkhaaDoorKRJ
set_option linter.unusedVariables false
set_option linter.unusedVariables false
namespace Go.Proofs.YtcmkmdghekkkhaaDoor
open Go.RowKit Go.Rst Go.Tp Go.Ts
theorem w64_eq (n : Int) : w64 n = wrap64 n := rfl
theorem below_two (w : World) (a b : Array Value) (t u : TypeId) : Below w.heap.size w ((w.alloc (.cells a t)).alloc (.cells b u)) := ((Below.refl _ w).alloc (Nat.le_refl _) _).alloc (by simp) _
theorem boxes_at {w w1 : World} {a b : List Value} {t u : TypeId} (hb : Below ((w.alloc (.cells a.toArray t)).alloc (.cells b.toArray u)).heap.size ((w.alloc (.cells a.toArray t)).alloc (.cells b.toArray u)) w1) :
    (∀ i (h : i < a.length), w1.cell? ⟨w.heap.size, i, none⟩ = some a[i]) ∧ (∀ i (h : i < b.length), w1.cell? ⟨w.heap.size + 1, i, none⟩ = some b[i]) := by
  refine ⟨fun i hi => ?_, fun i hi => ?_⟩
  · rw [hb.cell (p := ⟨w.heap.size, i, none⟩) (by simp; omega), cell_of_row _ w.heap.size i a.toArray t (0, 0) ((Below.heap_alloc _ _ _ (by simp)).trans (heap_alloc_new w _))]
    simp [hi]
  · have h2 := heap_alloc_new (w.alloc (.cells a.toArray t)) (.cells b.toArray u)
    rw [World.size_alloc] at h2
    rw [hb.cell (p := ⟨w.heap.size + 1, i, none⟩) (by simp), cell_of_row _ (w.heap.size + 1) i b.toArray u (0, 0) h2]
    simp [hi]
set_option maxRecDepth 100000 in
set_option maxHeartbeats 4000000 in
theorem message_any (m : Msg) (x : Sub) (av qv : Value) (ha : av.oneCell' = true) (hq : qv.oneCell' = true) (clock : Int) (hl : m.attr.length ≤ 1000000) (w : World) : Calls Tryd.prog 51 #[.agg (msgC m).toArray, .agg (subC x av qv).toArray, .int .i64 clock] w fun e w' => e = .returned (.bool (msgB m x.lease x.most clock)) ∧ Below w.heap.size w w' := by
  have boxes : ∀ {w1 : World}, Below ((w.alloc (.cells (msgC m).toArray 55)).alloc (.cells (subC x av qv).toArray 35)).heap.size ((w.alloc (.cells (msgC m).toArray 55)).alloc (.cells (subC x av qv).toArray 35)) w1 →
      w1.cell? ⟨w.heap.size, 3, none⟩ = some (.int .i64 m.tries) ∧ w1.cell? ⟨w.heap.size, 4, none⟩ = some (.int .i64 m.til) ∧ w1.cell? ⟨w.heap.size, 5, none⟩ = some (.bool m.dead) ∧ w1.cell? ⟨w.heap.size, 6, none⟩ = some (sv m.why) ∧ w1.cell? ⟨w.heap.size, 7, none⟩ = some (.int .i64 m.prio) ∧
      w1.cell? ⟨w.heap.size + 1, 4, none⟩ = some (.int .i64 x.lease) ∧ w1.cell? ⟨w.heap.size + 1, 5, none⟩ = some (.int .i64 x.most) := fun hb =>
    let ⟨h1, h2⟩ := boxes_at hb
    ⟨h1 3 (by simp [msgC]), h1 4 (by simp [msgC]), h1 5 (by simp [msgC]), h1 6 (by simp [msgC]), h1 7 (by simp [msgC]), h2 4 (by simp [subC]), h2 5 (by simp [subC])⟩
  have hat := attrs_any m.attr hl ((w.alloc (.cells (msgC m).toArray 55)).alloc (.cells (subC x av qv).toArray 35))
  generalize hr : msgB m x.lease x.most clock = r
  have HR := Lib.hid hr
  clear hr
  obtain ⟨seq, body, attr, tries, til, dead, why, prio⟩ := m
  obtain ⟨id, name, topic, want, lease, most, floor, acks, queue, note⟩ := x
  simp only [msgC, subC] at HR hat boxes hl ⊢
  go_enter Tryd.func51, Tryd.ntmps51
  by_cases b1 : 60 < body.length
  · have q1 : (60 : Int) < (body.length : Int) := by omega
    clear hat boxes
    have HE := Lib.hid (show r = false by rw [← HR.out]; simp [msgB, b1])
    clear HR
    go_wp2
    go_ret
    exact ⟨by rw [HE.out]; rfl, below_two w _ _ _ _⟩
  have q1 : ¬ (60 : Int) < (body.length : Int) := by omega
  cases hab : attrsB attr with
  | false =>
    rw [hab] at hat
    have HAT := Lib.hid hat
    clear hat
    have HE := Lib.hid (show r = false by rw [← HR.out]; simp [msgB, b1, hab])
    clear HR
    go_wp2_with fail
    go_at_call 73
    refine HAT.out.mono ?_
    rintro e w1 ⟨rfl, hb1⟩
    have hf := boxes hb1
    obtain ⟨c3, c4, c5, c6, c7, d4, d5⟩ := hf
    have HB := Lib.hid ((below_two w _ _ _ _).trans (hb1.mono (by simp; omega)))
    clear hb1
    go_wp2
    go_ret
    exact ⟨by rw [HE.out]; rfl, HB.out⟩
  | true =>
  rw [hab] at hat
  have HAT := Lib.hid hat
  clear hat
  by_cases b2 : prio < 0
  · skip
    have HE := Lib.hid (show r = false by rw [← HR.out]; simp [msgB, b1, hab, b2])
    clear HR
    go_wp2_with fail
    go_at_call 73
    refine HAT.out.mono ?_
    rintro e w1 ⟨rfl, hb1⟩
    have hf := boxes hb1
    obtain ⟨c3, c4, c5, c6, c7, d4, d5⟩ := hf
    have HB := Lib.hid ((below_two w _ _ _ _).trans (hb1.mono (by simp; omega)))
    clear hb1
    go_wp2
    go_ret
    exact ⟨by rw [HE.out]; rfl, HB.out⟩
  by_cases b3 : 9 < prio
  · skip
    have HE := Lib.hid (show r = false by rw [← HR.out]; simp [msgB, b1, hab, b2, b3])
    clear HR
    go_wp2_with fail
    go_at_call 73
    refine HAT.out.mono ?_
    rintro e w1 ⟨rfl, hb1⟩
    have hf := boxes hb1
    obtain ⟨c3, c4, c5, c6, c7, d4, d5⟩ := hf
    have HB := Lib.hid ((below_two w _ _ _ _).trans (hb1.mono (by simp; omega)))
    clear hb1
    go_wp2
    go_ret
    exact ⟨by rw [HE.out]; rfl, HB.out⟩
  cases dead with
  | true =>
    by_cases b4 : til = 0
    · have q4 : (til == 0) = true := by rw [b4]; rfl
      by_cases b5 : why = [110, 97, 99, 107]
      · have q5 : (why == [110, 97, 99, 107]) = true := by rw [b5]; rfl
        by_cases b7 : tries = most
        · have q7 : (tries == most) = true := by rw [b7]; simp
          have HE := Lib.hid (show r = true by rw [← HR.out]; simp [msgB, b1, hab, b2, b3, b4, b5, b7])
          clear HR b4 b5 b7
          go_wp2_with fail
          go_at_call 73
          refine HAT.out.mono ?_
          rintro e w1 ⟨rfl, hb1⟩
          have hf := boxes hb1
          obtain ⟨c3, c4, c5, c6, c7, d4, d5⟩ := hf
          have HB := Lib.hid ((below_two w _ _ _ _).trans (hb1.mono (by simp; omega)))
          clear hb1
          go_wp2
          go_ret
          exact ⟨by rw [HE.out]; rfl, HB.out⟩
        · have q7 : (tries == most) = false := by simpa using b7
          have HE := Lib.hid (show r = false by rw [← HR.out]; simp [msgB, b1, hab, b2, b3, b4, b5, b7])
          clear HR b4 b5
          go_wp2_with fail
          go_at_call 73
          refine HAT.out.mono ?_
          rintro e w1 ⟨rfl, hb1⟩
          have hf := boxes hb1
          obtain ⟨c3, c4, c5, c6, c7, d4, d5⟩ := hf
          have HB := Lib.hid ((below_two w _ _ _ _).trans (hb1.mono (by simp; omega)))
          clear hb1
          go_wp2
          go_ret
          exact ⟨by rw [HE.out]; rfl, HB.out⟩
      · have q5 : (why == [110, 97, 99, 107]) = false := by simpa using b5
        by_cases b6 : why = [116, 105, 109, 101]
        · have q6 : (why == [116, 105, 109, 101]) = true := by rw [b6]; rfl
          by_cases b7 : tries = most
          · have q7 : (tries == most) = true := by rw [b7]; simp
            have HE := Lib.hid (show r = true by rw [← HR.out]; simp [msgB, b1, hab, b2, b3, b4, b6, b7])
            clear HR b4 b6 b7
            go_wp2_with fail
            go_at_call 73
            refine HAT.out.mono ?_
            rintro e w1 ⟨rfl, hb1⟩
            have hf := boxes hb1
            obtain ⟨c3, c4, c5, c6, c7, d4, d5⟩ := hf
            have HB := Lib.hid ((below_two w _ _ _ _).trans (hb1.mono (by simp; omega)))
            clear hb1
            go_wp2
            go_ret
            exact ⟨by rw [HE.out]; rfl, HB.out⟩
          · have q7 : (tries == most) = false := by simpa using b7
            have HE := Lib.hid (show r = false by rw [← HR.out]; simp [msgB, b1, hab, b2, b3, b4, b6, b7])
            clear HR b4 b6
            go_wp2_with fail
            go_at_call 73
            refine HAT.out.mono ?_
            rintro e w1 ⟨rfl, hb1⟩
            have hf := boxes hb1
            obtain ⟨c3, c4, c5, c6, c7, d4, d5⟩ := hf
            have HB := Lib.hid ((below_two w _ _ _ _).trans (hb1.mono (by simp; omega)))
            clear hb1
            go_wp2
            go_ret
            exact ⟨by rw [HE.out]; rfl, HB.out⟩
        · have q6 : (why == [116, 105, 109, 101]) = false := by simpa using b6
          have HE := Lib.hid (show r = false by rw [← HR.out]; simp [msgB, b1, hab, b2, b3, b4, b5, b6])
          clear HR b4
          go_wp2_with fail
          go_at_call 73
          refine HAT.out.mono ?_
          rintro e w1 ⟨rfl, hb1⟩
          have hf := boxes hb1
          obtain ⟨c3, c4, c5, c6, c7, d4, d5⟩ := hf
          have HB := Lib.hid ((below_two w _ _ _ _).trans (hb1.mono (by simp; omega)))
          clear hb1
          go_wp2
          go_ret
          exact ⟨by rw [HE.out]; rfl, HB.out⟩
    · have q4 : (til == 0) = false := by simpa using b4
      have HE := Lib.hid (show r = false by rw [← HR.out]; simp [msgB, b1, hab, b2, b3, b4])
      clear HR
      go_wp2_with fail
      go_at_call 73
      refine HAT.out.mono ?_
      rintro e w1 ⟨rfl, hb1⟩
      have hf := boxes hb1
      obtain ⟨c3, c4, c5, c6, c7, d4, d5⟩ := hf
      have HB := Lib.hid ((below_two w _ _ _ _).trans (hb1.mono (by simp; omega)))
      clear hb1
      go_wp2
      go_ret
      exact ⟨by rw [HE.out]; rfl, HB.out⟩
  | false =>
    by_cases b5 : why = []
    · have q5 : (why == []) = true := by rw [b5]; rfl
      by_cases b4 : til = 0
      · have q4 : (til == 0) = true := by rw [b4]; rfl
        by_cases b6 : 0 ≤ tries
        · by_cases b7 : tries < most
          · have q7 : decide (tries < most) = true := decide_eq_true b7
            have HE := Lib.hid (show r = true by rw [← HR.out]; simp [msgB, b1, hab, b2, b3, b5, b4, b6, b7])
            clear HR b5 b4 b7
            go_wp2_with fail
            go_at_call 73
            refine HAT.out.mono ?_
            rintro e w1 ⟨rfl, hb1⟩
            have hf := boxes hb1
            obtain ⟨c3, c4, c5, c6, c7, d4, d5⟩ := hf
            have HB := Lib.hid ((below_two w _ _ _ _).trans (hb1.mono (by simp; omega)))
            clear hb1
            go_wp2
            go_ret
            exact ⟨by rw [HE.out]; rfl, HB.out⟩
          · have q7 : decide (tries < most) = false := decide_eq_false b7
            have HE := Lib.hid (show r = false by rw [← HR.out]; simp [msgB, b1, hab, b2, b3, b5, b4, b6, b7])
            clear HR b5 b4 b7
            go_wp2_with fail
            go_at_call 73
            refine HAT.out.mono ?_
            rintro e w1 ⟨rfl, hb1⟩
            have hf := boxes hb1
            obtain ⟨c3, c4, c5, c6, c7, d4, d5⟩ := hf
            have HB := Lib.hid ((below_two w _ _ _ _).trans (hb1.mono (by simp; omega)))
            clear hb1
            go_wp2
            go_ret
            exact ⟨by rw [HE.out]; rfl, HB.out⟩
        · skip
          have HE := Lib.hid (show r = false by rw [← HR.out]; simp [msgB, b1, hab, b2, b3, b5, b4, b6])
          clear HR b5 b4
          go_wp2_with fail
          go_at_call 73
          refine HAT.out.mono ?_
          rintro e w1 ⟨rfl, hb1⟩
          have hf := boxes hb1
          obtain ⟨c3, c4, c5, c6, c7, d4, d5⟩ := hf
          have HB := Lib.hid ((below_two w _ _ _ _).trans (hb1.mono (by simp; omega)))
          clear hb1
          go_wp2
          go_ret
          exact ⟨by rw [HE.out]; rfl, HB.out⟩
      · have q4 : (til == 0) = false := by simpa using b4
        by_cases b6 : 1 ≤ tries
        · by_cases b7 : tries ≤ most
          · by_cases b8 : clock < til
            · by_cases b9 : til ≤ wrap64 (clock + lease)
              · have q9 : decide (til ≤ wrap64 (clock + lease)) = true := decide_eq_true b9
                have HE := Lib.hid (show r = true by rw [← HR.out]; simp [msgB, b1, hab, b2, b3, b5, b4, b6, b7, b8, w64_eq, b9])
                clear HR b5 b9
                go_wp2_with fail
                go_at_call 73
                refine HAT.out.mono ?_
                rintro e w1 ⟨rfl, hb1⟩
                have hf := boxes hb1
                obtain ⟨c3, c4, c5, c6, c7, d4, d5⟩ := hf
                have HB := Lib.hid ((below_two w _ _ _ _).trans (hb1.mono (by simp; omega)))
                clear hb1
                go_wp2
                go_ret
                exact ⟨by rw [HE.out]; rfl, HB.out⟩
              · have q9 : decide (til ≤ wrap64 (clock + lease)) = false := decide_eq_false b9
                have HE := Lib.hid (show r = false by rw [← HR.out]; simp [msgB, b1, hab, b2, b3, b5, b4, b6, b7, b8, w64_eq, b9])
                clear HR b5 b9
                go_wp2_with fail
                go_at_call 73
                refine HAT.out.mono ?_
                rintro e w1 ⟨rfl, hb1⟩
                have hf := boxes hb1
                obtain ⟨c3, c4, c5, c6, c7, d4, d5⟩ := hf
                have HB := Lib.hid ((below_two w _ _ _ _).trans (hb1.mono (by simp; omega)))
                clear hb1
                go_wp2
                go_ret
                exact ⟨by rw [HE.out]; rfl, HB.out⟩
            · skip
              have HE := Lib.hid (show r = false by rw [← HR.out]; simp [msgB, b1, hab, b2, b3, b5, b4, b6, b7, b8])
              clear HR b5
              go_wp2_with fail
              go_at_call 73
              refine HAT.out.mono ?_
              rintro e w1 ⟨rfl, hb1⟩
              have hf := boxes hb1
              obtain ⟨c3, c4, c5, c6, c7, d4, d5⟩ := hf
              have HB := Lib.hid ((below_two w _ _ _ _).trans (hb1.mono (by simp; omega)))
              clear hb1
              go_wp2
              go_ret
              exact ⟨by rw [HE.out]; rfl, HB.out⟩
          · skip
            have HE := Lib.hid (show r = false by rw [← HR.out]; simp [msgB, b1, hab, b2, b3, b5, b4, b6, b7])
            clear HR b5
            go_wp2_with fail
            go_at_call 73
            refine HAT.out.mono ?_
            rintro e w1 ⟨rfl, hb1⟩
            have hf := boxes hb1
            obtain ⟨c3, c4, c5, c6, c7, d4, d5⟩ := hf
            have HB := Lib.hid ((below_two w _ _ _ _).trans (hb1.mono (by simp; omega)))
            clear hb1
            go_wp2
            go_ret
            exact ⟨by rw [HE.out]; rfl, HB.out⟩
        · skip
          have HE := Lib.hid (show r = false by rw [← HR.out]; simp [msgB, b1, hab, b2, b3, b5, b4, b6])
          clear HR b5
          go_wp2_with fail
          go_at_call 73
          refine HAT.out.mono ?_
          rintro e w1 ⟨rfl, hb1⟩
          have hf := boxes hb1
          obtain ⟨c3, c4, c5, c6, c7, d4, d5⟩ := hf
          have HB := Lib.hid ((below_two w _ _ _ _).trans (hb1.mono (by simp; omega)))
          clear hb1
          go_wp2
          go_ret
          exact ⟨by rw [HE.out]; rfl, HB.out⟩
    · have q5 : (why == []) = false := by simpa using b5
      have HE := Lib.hid (show r = false by rw [← HR.out]; simp [msgB, b1, hab, b2, b3, b5])
      clear HR
      go_wp2_with fail
      go_at_call 73
      refine HAT.out.mono ?_
      rintro e w1 ⟨rfl, hb1⟩
      have hf := boxes hb1
      obtain ⟨c3, c4, c5, c6, c7, d4, d5⟩ := hf
      have HB := Lib.hid ((below_two w _ _ _ _).trans (hb1.mono (by simp; omega)))
      clear hb1
      go_wp2
      go_ret
      exact ⟨by rw [HE.out]; rfl, HB.out⟩
end Go.Proofs.YtcmkmdghekkkhaaDoor
set_option linter.unusedVariables false
set_option linter.unusedSimpArgs false
namespace Go.Proofs.YtcmkmdghekkkhaaDoor
open Go.RowKit Go.Rst Go.Tp Go.Ts
structure BX (w : World) (g : Nat) (cs : List Value) : Prop where
  lt : g < w.heap.size
  at_ : ∀ i (h : i < cs.length), w.cell? ⟨g, i, none⟩ = some cs[i]
theorem BX.below {w w' : World} {g : Nat} {cs : List Value} (h : BX w g cs) (hb : Below w.heap.size w w') : BX w' g cs := ⟨Nat.lt_of_lt_of_le h.lt hb.size, fun i hi => (hb.cell (p := ⟨g, i, none⟩) h.lt).trans (h.at_ i hi)⟩
theorem BX.cell {w : World} {g : Nat} {cs : List Value} (h : BX w g cs) {i : Nat} (hi : i < cs.length) : w.cell? ⟨g, i, none⟩ = some cs[i] := h.at_ i hi
theorem BX.new (w : World) (cs : List Value) (t : TypeId) : BX (w.alloc (.cells cs.toArray t)) w.heap.size cs :=
  ⟨by simp, fun i hi => by rw [cell_of_row _ w.heap.size i cs.toArray t (0, 0) (heap_alloc_new w _)]; simp [hi]⟩
set_option maxRecDepth 100000 in
set_option maxHeartbeats 4000000 in
theorem fields_any (x : Sub) (av qv : Value) (ha : ∃ A c, av = .slice A x.acks.length c) (hq : ∃ A c, qv = .slice A x.queue.length c) (next : Int) (hn : x.name.length ≤ 140737488351232) (ht : x.topic.length ≤ 1000000) (hwt : x.want.length ≤ 1000000) (w : World) :
    Calls Tryd.prog 49 #[.agg (subC x av qv).toArray, .int .i64 next] w fun e w' => e = .returned (.bool (fieldsB x next)) ∧ Below w.heap.size w w' := by
  have HX0 := Lib.hid (BX.new w (subC x av qv) 35)
  have HB0 := Lib.hid ((Below.refl _ w).alloc (Nat.le_refl _) (.cells (subC x av qv).toArray 35))
  have hnm := nameS_any x.name hn
  have hpt := pat_any x.topic ht
  have hat := attrs_any x.want hwt
  obtain ⟨A, ca, rfl⟩ := ha
  obtain ⟨Q, cq, rfl⟩ := hq
  generalize hr : fieldsB x next = r
  have HR := Lib.hid hr
  clear hr
  obtain ⟨id, name, topic, want, lease, most, floor, acks, queue, note⟩ := x
  simp only [subC] at HX0 HB0 hnm hpt hat HR ⊢
  go_enter Tryd.func49, Tryd.ntmps49
  by_cases b1 : id < 1
  · clear hnm hpt hat
    have HE := Lib.hid (show r = false by rw [← HR.out]; simp [fieldsB, show ¬ 1 ≤ id by omega])
    clear HR
    go_wp2
    go_ret
    exact ⟨by rw [HE.out]; rfl, HB0.out⟩
  by_cases b2 : 1073741824 < id
  · clear hnm hpt hat
    have HE := Lib.hid (show r = false by rw [← HR.out]; simp [fieldsB, show ¬ id ≤ 1073741824 by omega])
    clear HR
    go_wp2
    go_ret
    exact ⟨by rw [HE.out]; rfl, HB0.out⟩
  cases hab : nameB name with
  | false =>
    rw [hab] at hnm
    have HN := Lib.hid hnm
    clear hnm hpt hat
    go_wp2_with fail
    go_at_call 71
    refine (HN.out _).mono ?_
    rintro e w1 ⟨rfl, hb1⟩
    have HX1 := Lib.hid (HX0.out.below hb1)
    have HB1 := Lib.hid (HB0.out.trans (hb1.mono HB0.out.size))
    clear hb1
    have c2 := HX1.out.cell (i := 2) (by simp [subC])
    simp only [subC, List.getElem_cons_succ, List.getElem_cons_zero] at c2
    have HE := Lib.hid (show r = false by rw [← HR.out]; simp [fieldsB, b1, b2, hab])
    clear HR
    go_wp2
    go_ret
    exact ⟨by rw [HE.out]; rfl, HB1.out⟩
  | true =>
  rw [hab] at hnm
  have HN := Lib.hid hnm
  clear hnm
  go_wp2_with fail
  go_at_call 71
  refine (HN.out _).mono ?_
  rintro e w1 ⟨rfl, hb1⟩
  have HX1 := Lib.hid (HX0.out.below hb1)
  have HB1 := Lib.hid (HB0.out.trans (hb1.mono HB0.out.size))
  clear hb1
  have c2 := HX1.out.cell (i := 2) (by simp [subC])
  simp only [subC, List.getElem_cons_succ, List.getElem_cons_zero] at c2
  cases hpb : patB topic with
  | false =>
    rw [hpb] at hpt
    have HP := Lib.hid hpt
    clear hpt hat
    go_wp2_with fail
    go_at_call 72
    refine (HP.out _).mono ?_
    rintro e w2 ⟨rfl, hb2⟩
    have HX2 := Lib.hid (HX1.out.below hb2)
    have HB2 := Lib.hid (HB1.out.trans (hb2.mono HB1.out.size))
    clear hb2
    clear c2
    have c3 := HX2.out.cell (i := 3) (by simp [subC])
    simp only [subC, List.getElem_cons_succ, List.getElem_cons_zero] at c3
    have HE := Lib.hid (show r = false by rw [← HR.out]; simp [fieldsB, b1, b2, hab, hpb])
    clear HR
    go_wp2
    go_ret
    exact ⟨by rw [HE.out]; rfl, HB2.out⟩
  | true =>
  rw [hpb] at hpt
  have HP := Lib.hid hpt
  clear hpt
  go_wp2_with fail
  go_at_call 72
  refine (HP.out _).mono ?_
  rintro e w2 ⟨rfl, hb2⟩
  have HX2 := Lib.hid (HX1.out.below hb2)
  have HB2 := Lib.hid (HB1.out.trans (hb2.mono HB1.out.size))
  clear hb2
  clear c2
  have c3 := HX2.out.cell (i := 3) (by simp [subC])
  simp only [subC, List.getElem_cons_succ, List.getElem_cons_zero] at c3
  cases hwb : attrsB want with
  | false =>
    rw [hwb] at hat
    have HA := Lib.hid hat
    clear hat
    go_wp2_with fail
    go_at_call 73
    refine (HA.out _).mono ?_
    rintro e w3 ⟨rfl, hb3⟩
    have HX3 := Lib.hid (HX2.out.below hb3)
    have HB3 := Lib.hid (HB2.out.trans (hb3.mono HB2.out.size))
    clear hb3
    clear c3
    have c4 := HX3.out.cell (i := 4) (by simp [subC])
    simp only [subC, List.getElem_cons_succ, List.getElem_cons_zero] at c4
    have c5 := HX3.out.cell (i := 5) (by simp [subC])
    simp only [subC, List.getElem_cons_succ, List.getElem_cons_zero] at c5
    have c6 := HX3.out.cell (i := 6) (by simp [subC])
    simp only [subC, List.getElem_cons_succ, List.getElem_cons_zero] at c6
    have c7 := HX3.out.cell (i := 7) (by simp [subC])
    simp only [subC, List.getElem_cons_succ, List.getElem_cons_zero] at c7
    have c8 := HX3.out.cell (i := 8) (by simp [subC])
    simp only [subC, List.getElem_cons_succ, List.getElem_cons_zero] at c8
    have c9 := HX3.out.cell (i := 9) (by simp [subC])
    simp only [subC, List.getElem_cons_succ, List.getElem_cons_zero] at c9
    have HE := Lib.hid (show r = false by rw [← HR.out]; simp [fieldsB, b1, b2, hab, hpb, hwb])
    clear HR
    go_wp2
    go_ret
    exact ⟨by rw [HE.out]; rfl, HB3.out⟩
  | true =>
  rw [hwb] at hat
  have HA := Lib.hid hat
  clear hat
  go_wp2_with fail
  go_at_call 73
  refine (HA.out _).mono ?_
  rintro e w3 ⟨rfl, hb3⟩
  have HX3 := Lib.hid (HX2.out.below hb3)
  have HB3 := Lib.hid (HB2.out.trans (hb3.mono HB2.out.size))
  clear hb3
  clear c3
  have c4 := HX3.out.cell (i := 4) (by simp [subC])
  simp only [subC, List.getElem_cons_succ, List.getElem_cons_zero] at c4
  have c5 := HX3.out.cell (i := 5) (by simp [subC])
  simp only [subC, List.getElem_cons_succ, List.getElem_cons_zero] at c5
  have c6 := HX3.out.cell (i := 6) (by simp [subC])
  simp only [subC, List.getElem_cons_succ, List.getElem_cons_zero] at c6
  have c7 := HX3.out.cell (i := 7) (by simp [subC])
  simp only [subC, List.getElem_cons_succ, List.getElem_cons_zero] at c7
  have c8 := HX3.out.cell (i := 8) (by simp [subC])
  simp only [subC, List.getElem_cons_succ, List.getElem_cons_zero] at c8
  have c9 := HX3.out.cell (i := 9) (by simp [subC])
  simp only [subC, List.getElem_cons_succ, List.getElem_cons_zero] at c9
  by_cases d1 : 1 ≤ lease
  rotate_left
  · skip
    have HE := Lib.hid (show r = false by rw [← HR.out]; simp [fieldsB, b1, b2, hab, hpb, hwb, d1])
    clear HR
    go_wp2
    go_ret
    exact ⟨by rw [HE.out]; rfl, HB3.out⟩
  by_cases d2 : lease ≤ 1000
  rotate_left
  · skip
    have HE := Lib.hid (show r = false by rw [← HR.out]; simp [fieldsB, b1, b2, hab, hpb, hwb, d1, d2])
    clear HR
    go_wp2
    go_ret
    exact ⟨by rw [HE.out]; rfl, HB3.out⟩
  by_cases d3 : 1 ≤ most
  rotate_left
  · skip
    have HE := Lib.hid (show r = false by rw [← HR.out]; simp [fieldsB, b1, b2, hab, hpb, hwb, d1, d2, d3])
    clear HR
    go_wp2
    go_ret
    exact ⟨by rw [HE.out]; rfl, HB3.out⟩
  by_cases d4 : most ≤ 9
  rotate_left
  · skip
    have HE := Lib.hid (show r = false by rw [← HR.out]; simp [fieldsB, b1, b2, hab, hpb, hwb, d1, d2, d3, d4])
    clear HR
    go_wp2
    go_ret
    exact ⟨by rw [HE.out]; rfl, HB3.out⟩
  by_cases d5 : 0 ≤ floor
  rotate_left
  · skip
    have HE := Lib.hid (show r = false by rw [← HR.out]; simp [fieldsB, b1, b2, hab, hpb, hwb, d1, d2, d3, d4, d5])
    clear HR
    go_wp2
    go_ret
    exact ⟨by rw [HE.out]; rfl, HB3.out⟩
  by_cases d6 : floor < next
  rotate_left
  · skip
    have HE := Lib.hid (show r = false by rw [← HR.out]; simp [fieldsB, b1, b2, hab, hpb, hwb, d1, d2, d3, d4, d5, d6])
    clear HR
    go_wp2
    go_ret
    exact ⟨by rw [HE.out]; rfl, HB3.out⟩
  by_cases d7 : acks.length ≤ 20
  rotate_left
  · have qd7 : ¬ (acks.length : Int) ≤ 20 := by omega
    have HE := Lib.hid (show r = false by rw [← HR.out]; simp [fieldsB, b1, b2, hab, hpb, hwb, d1, d2, d3, d4, d5, d6, d7])
    clear HR
    go_wp2
    go_ret
    exact ⟨by rw [HE.out]; rfl, HB3.out⟩
  have qd7 : (acks.length : Int) ≤ 20 := by omega
  by_cases d8 : note.length ≤ 30
  rotate_left
  · have qd8 : ¬ (note.length : Int) ≤ 30 := by omega
    have HE := Lib.hid (show r = false by rw [← HR.out]; simp [fieldsB, b1, b2, hab, hpb, hwb, d1, d2, d3, d4, d5, d6, d7, d8])
    clear HR
    go_wp2
    go_ret
    exact ⟨by rw [HE.out]; rfl, HB3.out⟩
  have qd8 : (note.length : Int) ≤ 30 := by omega
  by_cases d9 : queue.length ≤ 30
  · have qd9 : decide ((queue.length : Int) ≤ 30) = true := decide_eq_true (by omega)
    have HE := Lib.hid (show r = true by rw [← HR.out]; simp [fieldsB, b1, b2, hab, hpb, hwb, d1, d2, d3, d4, d5, d6, d7, d8, d9])
    clear HR
    go_wp2
    go_ret
    exact ⟨by rw [HE.out]; rfl, HB3.out⟩
  · have qd9 : decide ((queue.length : Int) ≤ 30) = false := decide_eq_false (by omega)
    have HE := Lib.hid (show r = false by rw [← HR.out]; simp [fieldsB, b1, b2, hab, hpb, hwb, d1, d2, d3, d4, d5, d6, d7, d8, d9])
    clear HR
    go_wp2
    go_ret
    exact ⟨by rw [HE.out]; rfl, HB3.out⟩
end Go.Proofs.YtcmkmdghekkkhaaDoor
set_option linter.unusedVariables false
namespace Go.Ts
def gN (l : List UInt8) (i : Nat) : Nat := ((l[i]?).getD 0).toNat
theorem gN_lt (l : List UInt8) (i : Nat) : gN l i < 256 := UInt8.toNat_lt _
def txtB (k i : Nat) : UInt8 := UInt8.ofNat (97 + (i + k) % 26)
def txt (k m : Nat) : List UInt8 := (List.range m).map (txtB k)
theorem txt_succ (k m : Nat) : txt k (m + 1) = txt k m ++ [txtB k m] := by simp [txt, List.range_succ]
theorem txt_len (k m : Nat) : (txt k m).length = m := by simp [txt]
theorem txtB_nat (k i : Nat) : (txtB k i).toNat = 97 + (i + k) % 26 := by
  unfold txtB
  rw [UInt8.toNat_ofNat']
  omega
end Go.Ts
namespace Go.Proofs.YtcmkmdghekkkhaaDoor
open Go.RowKit Go.Rst Go.Tp Go.Ts
set_option maxRecDepth 100000 in
theorem one_lit (w : World) (z : UInt8) : RB (w.alloc (.cells #[.int .u8 z.toNat] 5)) (.slice (some ⟨w.heap.size, 0, none⟩) 1 1) [z] := RB.lit w 5 (0, 0) [z] _ rfl 1 rfl (by decide)
set_option maxRecDepth 100000 in
theorem gN_any {cv : Value} {l : List UInt8} {w : World} (i : Nat) (h : RB w cv l) : Calls Tryd.prog 26 #[cv, .int .i64 i] w fun e w' => e = .returned (.int .i64 (gN l i)) ∧ w' = w := by
  have HV := Lib.hid h
  obtain ⟨A, c, rfl, _, hcm, _⟩ := id h
  clear h
  obtain ⟨r, hr⟩ : ∃ r, gN l i = r := ⟨_, rfl⟩
  rw [hr]
  by_cases hlt : i < l.length
  · obtain ⟨b, off, rfl, hb, hcell⟩ := rb_cell HV.out hlt
    unfold bv at hcell
    have hgr : l[i].toNat = r := by rw [← hr]; simp [gN, hlt]
    rw [hgr] at hcell
    have hrb : r < 256 := by rw [← hr]; exact gN_lt _ _
    have HR := Lib.hid hr
    clear hr hgr
    have q1 : (i : Int) < (l.length : Int) := by omega
    go_enter Tryd.func26, Tryd.ntmps26
    go_wp2
    go_ret
    exact ⟨rfl, rfl⟩
  · have hgr : r = 0 := by rw [← hr]; simp [gN, hlt]
    subst hgr
    have q1 : ¬ (i : Int) < (l.length : Int) := by omega
    clear hr
    go_enter Tryd.func26, Tryd.ntmps26
    go_wp2
    go_ret
    exact ⟨rfl, rfl⟩
set_option maxRecDepth 100000 in
set_option maxHeartbeats 4000000 in
theorem text_any (k most : Nat) (hk : k ≤ 100000) (hm : most ≤ 100000) (w : World) : Calls Tryd.prog 30 #[.int .i64 k, .int .i64 most] w fun e w' => e = .returned (sv (txt k (k % (most + 1)))) ∧ Below w.heap.size w w' := by
  obtain ⟨m, hm0⟩ : ∃ m, m = k % (most + 1) := ⟨_, rfl⟩
  have hml : m ≤ most := by have := Nat.mod_lt k (show most + 1 > 0 by omega); omega
  have e1 : (k : Int).tmod ((most : Int) + 1) = (m : Int) := by rw [hm0, Int.tmod_eq_emod_of_nonneg (by omega)]; simp
  have e2 : (k : Int) % ((most : Int) + 1) = (m : Int) := by rw [hm0]; simp
  rw [← hm0]
  clear hm0
  go_enter Tryd.func30, Tryd.ntmps30
  go_wp2_with fail
  go_loopw [5, 6] (fun s i wr => ∃ (j : Nat), j ≤ m ∧ i = .int .i64 j ∧ s = sv (txt k j) ∧ Below w.heap.size w wr) (fun _ i _ => m - (intOf i).toNat)
  case atStart => exact ⟨0, Nat.zero_le _, rfl, rfl, Below.refl _ _⟩
  case round =>
    obtain ⟨j, hj, rfl, rfl, hbel⟩ := hrel
    have HBl := Lib.hid hbel
    clear hbel
    have htl := txt_len k j
    by_cases hlt : j < m
    · have q1 : (j : Int) < (m : Int) := by omega
      have htn := txtB_nat k j
      have HTS := Lib.hid (txt_succ k j)
      obtain ⟨d, hd⟩ : ∃ d, d = (j + k) % 26 := ⟨_, rfl⟩
      have hd26 : d < 26 := by omega
      obtain ⟨z, hz⟩ : ∃ z, z = txtB k j := ⟨_, rfl⟩
      rw [← hz] at htn HTS
      rw [← hd] at htn
      have e3 : ((j : Int) + (k : Int)).tmod 26 = (d : Int) := by rw [Int.tmod_eq_emod_of_nonneg (by omega), hd]; omega
      have e4 : ((j : Int) + (k : Int)) % 26 = (d : Int) := by rw [hd]; omega
      have e5 : IntKind.u8.wrap (d : Int) = (d : Int) := by rw [IntKind.wrap_u8]; omega
      have e6 : IntKind.u8.wrap (97 + (d : Int)) = (z.toNat : Int) := by rw [htn, IntKind.wrap_u8]; omega
      have e7 : (97 + (d : Int)) % 256 = (z.toNat : Int) := by rw [htn]; omega
      obtain ⟨s, hs⟩ : ∃ s, s = txt k j := ⟨_, rfl⟩
      rw [← hs] at htl HTS ⊢
      have hct := ext_cat s [z]
      have hsl : s.length ≤ 100000 := by omega
      have hq := str22 (one_lit wr z)
      clear hd hz hs htn
      have HE := Lib.hid htl
      clear htl
      go_wp2
      go_roundw
      case rel => exact ⟨j + 1, by omega, by go_num, by rw [HTS.out], HBl.out.alloc HBl.out.size _⟩
      case measure => simp [intOf]; omega
    · have q1 : ¬ (j : Int) < (m : Int) := by omega
      have hjm : j = m := by omega
      have HJ := Lib.hid hjm
      clear hjm
      go_wp2
      go_ret
      exact ⟨by rw [HJ.out]; rfl, HBl.out⟩
end Go.Proofs.YtcmkmdghekkkhaaDoor
