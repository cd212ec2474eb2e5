/-
  The contract of the document's own fields (layer state).
-/
import Derived.Test.YtcmkmdghekkkhaaDoorTsMsg
import Derived.Test.YtcmkmdghekkkhaaDoorTpPat
set_option linter.unusedVariables false
set_option linter.unusedSimpArgs false
namespace Go.Proofs.YtcmkmdghekkkhaaDoor
open Go.RowKit Go.Rst Go.Tp Go.Ts
/-- A block that holds some cells. -/
structure BX (w : World) (g : Nat) (cs : List Value) : Prop where
  lt : g < w.heap.size
  at_ : ∀ i (h : i < cs.length), w.cell? ⟨g, i, none⟩ = some cs[i]
theorem BX.below {w w' : World} {g : Nat} {cs : List Value} (h : BX w g cs) (hb : Below w.heap.size w w') : BX w' g cs := ⟨Nat.lt_of_lt_of_le h.lt hb.size, fun i hi => (hb.cell (p := ⟨g, i, none⟩) h.lt).trans (h.at_ i hi)⟩
theorem BX.cell {w : World} {g : Nat} {cs : List Value} (h : BX w g cs) {i : Nat} (hi : i < cs.length) : w.cell? ⟨g, i, none⟩ = some cs[i] := h.at_ i hi
theorem BX.new (w : World) (cs : List Value) (t : TypeId) : BX (w.alloc (.cells cs.toArray t)) w.heap.size cs :=
  ⟨by simp, fun i hi => by rw [cell_of_row _ w.heap.size i cs.toArray t (0, 0) (heap_alloc_new w _)]; simp [hi]⟩
set_option maxRecDepth 100000 in
set_option maxHeartbeats 4000000 in
theorem fields_any (x : Sub) (av qv : Value) (ha : ∃ A c, av = .slice A x.acks.length c) (hq : ∃ A c, qv = .slice A x.queue.length c) (next : Int) (hn : x.name.length ≤ 140737488351232) (ht : x.topic.length ≤ 1000000) (hwt : x.want.length ≤ 1000000) (w : World) :
    Calls Tryd.prog 49 #[.agg (subC x av qv).toArray, .int .i64 next] w fun e w' => e = .returned (.bool (fieldsB x next)) ∧ Below w.heap.size w w' := by
  have HX0 := Lib.hid (BX.new w (subC x av qv) 35)
  have HB0 := Lib.hid ((Below.refl _ w).alloc (Nat.le_refl _) (.cells (subC x av qv).toArray 35))
  have hnm := nameS_any x.name hn
  have hpt := pat_any x.topic ht
  have hat := attrs_any x.want hwt
  obtain ⟨A, ca, rfl⟩ := ha
  obtain ⟨Q, cq, rfl⟩ := hq
  generalize hr : fieldsB x next = r
  have HR := Lib.hid hr
  clear hr
  obtain ⟨id, name, topic, want, lease, most, floor, acks, queue, note⟩ := x
  simp only [subC] at HX0 HB0 hnm hpt hat HR ⊢
  go_enter Tryd.func49, Tryd.ntmps49
  by_cases b1 : id < 1
  · clear hnm hpt hat
    have HE := Lib.hid (show r = false by rw [← HR.out]; simp [fieldsB, show ¬ 1 ≤ id by omega])
    clear HR
    go_wp2
    go_ret
    exact ⟨by rw [HE.out]; rfl, HB0.out⟩
  by_cases b2 : 1073741824 < id
  · clear hnm hpt hat
    have HE := Lib.hid (show r = false by rw [← HR.out]; simp [fieldsB, show ¬ id ≤ 1073741824 by omega])
    clear HR
    go_wp2
    go_ret
    exact ⟨by rw [HE.out]; rfl, HB0.out⟩
  cases hab : nameB name with
  | false =>
    rw [hab] at hnm
    have HN := Lib.hid hnm
    clear hnm hpt hat
    go_wp2_with fail
    go_at_call 71
    refine (HN.out _).mono ?_
    rintro e w1 ⟨rfl, hb1⟩
    have HX1 := Lib.hid (HX0.out.below hb1)
    have HB1 := Lib.hid (HB0.out.trans (hb1.mono HB0.out.size))
    clear hb1
    have c2 := HX1.out.cell (i := 2) (by simp [subC])
    simp only [subC, List.getElem_cons_succ, List.getElem_cons_zero] at c2
    have HE := Lib.hid (show r = false by rw [← HR.out]; simp [fieldsB, b1, b2, hab])
    clear HR
    go_wp2
    go_ret
    exact ⟨by rw [HE.out]; rfl, HB1.out⟩
  | true =>
  rw [hab] at hnm
  have HN := Lib.hid hnm
  clear hnm
  go_wp2_with fail
  go_at_call 71
  refine (HN.out _).mono ?_
  rintro e w1 ⟨rfl, hb1⟩
  have HX1 := Lib.hid (HX0.out.below hb1)
  have HB1 := Lib.hid (HB0.out.trans (hb1.mono HB0.out.size))
  clear hb1
  have c2 := HX1.out.cell (i := 2) (by simp [subC])
  simp only [subC, List.getElem_cons_succ, List.getElem_cons_zero] at c2
  cases hpb : patB topic with
  | false =>
    rw [hpb] at hpt
    have HP := Lib.hid hpt
    clear hpt hat
    go_wp2_with fail
    go_at_call 72
    refine (HP.out _).mono ?_
    rintro e w2 ⟨rfl, hb2⟩
    have HX2 := Lib.hid (HX1.out.below hb2)
    have HB2 := Lib.hid (HB1.out.trans (hb2.mono HB1.out.size))
    clear hb2
    clear c2
    have c3 := HX2.out.cell (i := 3) (by simp [subC])
    simp only [subC, List.getElem_cons_succ, List.getElem_cons_zero] at c3
    have HE := Lib.hid (show r = false by rw [← HR.out]; simp [fieldsB, b1, b2, hab, hpb])
    clear HR
    go_wp2
    go_ret
    exact ⟨by rw [HE.out]; rfl, HB2.out⟩
  | true =>
  rw [hpb] at hpt
  have HP := Lib.hid hpt
  clear hpt
  go_wp2_with fail
  go_at_call 72
  refine (HP.out _).mono ?_
  rintro e w2 ⟨rfl, hb2⟩
  have HX2 := Lib.hid (HX1.out.below hb2)
  have HB2 := Lib.hid (HB1.out.trans (hb2.mono HB1.out.size))
  clear hb2
  clear c2
  have c3 := HX2.out.cell (i := 3) (by simp [subC])
  simp only [subC, List.getElem_cons_succ, List.getElem_cons_zero] at c3
  cases hwb : attrsB want with
  | false =>
    rw [hwb] at hat
    have HA := Lib.hid hat
    clear hat
    go_wp2_with fail
    go_at_call 73
    refine (HA.out _).mono ?_
    rintro e w3 ⟨rfl, hb3⟩
    have HX3 := Lib.hid (HX2.out.below hb3)
    have HB3 := Lib.hid (HB2.out.trans (hb3.mono HB2.out.size))
    clear hb3
    clear c3
    have c4 := HX3.out.cell (i := 4) (by simp [subC])
    simp only [subC, List.getElem_cons_succ, List.getElem_cons_zero] at c4
    have c5 := HX3.out.cell (i := 5) (by simp [subC])
    simp only [subC, List.getElem_cons_succ, List.getElem_cons_zero] at c5
    have c6 := HX3.out.cell (i := 6) (by simp [subC])
    simp only [subC, List.getElem_cons_succ, List.getElem_cons_zero] at c6
    have c7 := HX3.out.cell (i := 7) (by simp [subC])
    simp only [subC, List.getElem_cons_succ, List.getElem_cons_zero] at c7
    have c8 := HX3.out.cell (i := 8) (by simp [subC])
    simp only [subC, List.getElem_cons_succ, List.getElem_cons_zero] at c8
    have c9 := HX3.out.cell (i := 9) (by simp [subC])
    simp only [subC, List.getElem_cons_succ, List.getElem_cons_zero] at c9
    have HE := Lib.hid (show r = false by rw [← HR.out]; simp [fieldsB, b1, b2, hab, hpb, hwb])
    clear HR
    go_wp2
    go_ret
    exact ⟨by rw [HE.out]; rfl, HB3.out⟩
  | true =>
  rw [hwb] at hat
  have HA := Lib.hid hat
  clear hat
  go_wp2_with fail
  go_at_call 73
  refine (HA.out _).mono ?_
  rintro e w3 ⟨rfl, hb3⟩
  have HX3 := Lib.hid (HX2.out.below hb3)
  have HB3 := Lib.hid (HB2.out.trans (hb3.mono HB2.out.size))
  clear hb3
  clear c3
  have c4 := HX3.out.cell (i := 4) (by simp [subC])
  simp only [subC, List.getElem_cons_succ, List.getElem_cons_zero] at c4
  have c5 := HX3.out.cell (i := 5) (by simp [subC])
  simp only [subC, List.getElem_cons_succ, List.getElem_cons_zero] at c5
  have c6 := HX3.out.cell (i := 6) (by simp [subC])
  simp only [subC, List.getElem_cons_succ, List.getElem_cons_zero] at c6
  have c7 := HX3.out.cell (i := 7) (by simp [subC])
  simp only [subC, List.getElem_cons_succ, List.getElem_cons_zero] at c7
  have c8 := HX3.out.cell (i := 8) (by simp [subC])
  simp only [subC, List.getElem_cons_succ, List.getElem_cons_zero] at c8
  have c9 := HX3.out.cell (i := 9) (by simp [subC])
  simp only [subC, List.getElem_cons_succ, List.getElem_cons_zero] at c9
  by_cases d1 : 1 ≤ lease
  rotate_left
  · skip
    have HE := Lib.hid (show r = false by rw [← HR.out]; simp [fieldsB, b1, b2, hab, hpb, hwb, d1])
    clear HR
    go_wp2
    go_ret
    exact ⟨by rw [HE.out]; rfl, HB3.out⟩
  by_cases d2 : lease ≤ 1000
  rotate_left
  · skip
    have HE := Lib.hid (show r = false by rw [← HR.out]; simp [fieldsB, b1, b2, hab, hpb, hwb, d1, d2])
    clear HR
    go_wp2
    go_ret
    exact ⟨by rw [HE.out]; rfl, HB3.out⟩
  by_cases d3 : 1 ≤ most
  rotate_left
  · skip
    have HE := Lib.hid (show r = false by rw [← HR.out]; simp [fieldsB, b1, b2, hab, hpb, hwb, d1, d2, d3])
    clear HR
    go_wp2
    go_ret
    exact ⟨by rw [HE.out]; rfl, HB3.out⟩
  by_cases d4 : most ≤ 9
  rotate_left
  · skip
    have HE := Lib.hid (show r = false by rw [← HR.out]; simp [fieldsB, b1, b2, hab, hpb, hwb, d1, d2, d3, d4])
    clear HR
    go_wp2
    go_ret
    exact ⟨by rw [HE.out]; rfl, HB3.out⟩
  by_cases d5 : 0 ≤ floor
  rotate_left
  · skip
    have HE := Lib.hid (show r = false by rw [← HR.out]; simp [fieldsB, b1, b2, hab, hpb, hwb, d1, d2, d3, d4, d5])
    clear HR
    go_wp2
    go_ret
    exact ⟨by rw [HE.out]; rfl, HB3.out⟩
  by_cases d6 : floor < next
  rotate_left
  · skip
    have HE := Lib.hid (show r = false by rw [← HR.out]; simp [fieldsB, b1, b2, hab, hpb, hwb, d1, d2, d3, d4, d5, d6])
    clear HR
    go_wp2
    go_ret
    exact ⟨by rw [HE.out]; rfl, HB3.out⟩
  by_cases d7 : acks.length ≤ 20
  rotate_left
  · have qd7 : ¬ (acks.length : Int) ≤ 20 := by omega
    have HE := Lib.hid (show r = false by rw [← HR.out]; simp [fieldsB, b1, b2, hab, hpb, hwb, d1, d2, d3, d4, d5, d6, d7])
    clear HR
    go_wp2
    go_ret
    exact ⟨by rw [HE.out]; rfl, HB3.out⟩
  have qd7 : (acks.length : Int) ≤ 20 := by omega
  by_cases d8 : note.length ≤ 30
  rotate_left
  · have qd8 : ¬ (note.length : Int) ≤ 30 := by omega
    have HE := Lib.hid (show r = false by rw [← HR.out]; simp [fieldsB, b1, b2, hab, hpb, hwb, d1, d2, d3, d4, d5, d6, d7, d8])
    clear HR
    go_wp2
    go_ret
    exact ⟨by rw [HE.out]; rfl, HB3.out⟩
  have qd8 : (note.length : Int) ≤ 30 := by omega
  by_cases d9 : queue.length ≤ 30
  · have qd9 : decide ((queue.length : Int) ≤ 30) = true := decide_eq_true (by omega)
    have HE := Lib.hid (show r = true by rw [← HR.out]; simp [fieldsB, b1, b2, hab, hpb, hwb, d1, d2, d3, d4, d5, d6, d7, d8, d9])
    clear HR
    go_wp2
    go_ret
    exact ⟨by rw [HE.out]; rfl, HB3.out⟩
  · have qd9 : decide ((queue.length : Int) ≤ 30) = false := decide_eq_false (by omega)
    have HE := Lib.hid (show r = false by rw [← HR.out]; simp [fieldsB, b1, b2, hab, hpb, hwb, d1, d2, d3, d4, d5, d6, d7, d8, d9])
    clear HR
    go_wp2
    go_ret
    exact ⟨by rw [HE.out]; rfl, HB3.out⟩
end Go.Proofs.YtcmkmdghekkkhaaDoor
