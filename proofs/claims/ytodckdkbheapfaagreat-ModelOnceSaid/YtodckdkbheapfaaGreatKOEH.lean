/-
  The contracts of the document's own SameMessages (layer state): a struct compared.; The contract of the document's own SameSub (layer state).; The contract of the document's own Same (layer state).
-/
import Derived.Laws.StructEq
import Derived.Test.YtodckdkbheapfaaGreatKOI
set_option linter.unusedVariables false
set_option linter.unusedVariables false
namespace Go.Proofs.YtodckdkbheapfaaGreat
open Go.RowKit Go.Rst Go.Tp Go.Ts
set_option maxRecDepth 100000 in
theorem neq_msg (m n : Msg) (W : World) : (binOp .neq 45 (.agg (msgC m).toArray) (.agg (msgC n).toArray)).run Tryz.prog W = .ok (.bool (!decide (m = n))) W := by
  rw [run_neq_struct, run_equalIn_agg W 9999 _ _ _ (by kernel_rfl) (by kernel_rfl)]
  obtain ⟨a1, a2, a3, a4, a5, a6, a7, a8⟩ := m
  obtain ⟨b1, b2, b3, b4, b5, b6, b7, b8⟩ := n
  simp only [msgC]
  go_simp
  (repeat' split) <;> simp_all
theorem exec_neq_msg {a : Act} {oi : Oper} {W : World} (x y : Operand) {rt : TypeId} (ho : oi.op = .binOp .neq 45 x y rt) (m n : Msg) (hx : a.eval x = .agg (msgC m).toArray) (hy : a.eval y = .agg (msgC n).toArray) :
    (execOp a.eval oi).run Tryz.prog W = .ok (.value (.bool (!decide (m = n)))) W := by
  unfold execOp
  simp only [ho, hx, hy, Sem.run_bind, run_eqGuard_agg (P := Tryz.prog) W .neq 45 x y _ _ (by kernel_rfl), Result.andThen_ok, neq_msg, Sem.run_pure]
theorem take_same {α : Type} {l r : List α} {k : Nat} (hk : k < l.length) (hr : k < r.length) : l.take (k + 1) = r.take (k + 1) ↔ (l.take k = r.take k ∧ l[k] = r[k]) := by
  rw [List.take_succ_eq_append_getElem hk, List.take_succ_eq_append_getElem hr]
  constructor
  · intro h
    have := List.append_inj' h rfl
    exact ⟨this.1, by simpa using this.2⟩
  · rintro ⟨h1, h2⟩; rw [h1, h2]
set_option maxRecDepth 100000 in
set_option maxHeartbeats 4000000 in
theorem sameMsgs_any {va vb : Value} {xs ys : List Msg} {w : World} (ha : RM w va xs) (hb : RM w vb ys) :
    Calls Tryz.prog 37 #[va, vb] w fun e w' => e = .returned (.bool (decide (xs = ys))) ∧ Below w.heap.size w w' := by
  obtain ⟨A, ca, rfl, _, ham⟩ := ha.shape
  obtain ⟨B, cb, rfl, _, hbm⟩ := hb.shape
  unfold maxLen at ham hbm
  by_cases hlen : xs.length = ys.length
  · rw [← hlen] at hb ⊢
    have HA := Lib.hid ha
    have HB := Lib.hid hb
    have HL := Lib.hid hlen
    have hne : ((xs.length : Int) != (xs.length : Int)) = false := by simp
    obtain ⟨r, hr⟩ : ∃ r, decide (xs = ys) = r := ⟨_, rfl⟩
    rw [hr]
    have HR := Lib.hid hr
    clear ha hb hlen hr
    go_enter Tryz.func37, Tryz.ntmps37
    go_wp2
    go_loopw [5] (fun i wr => ∃ k : Nat, k ≤ xs.length ∧ i = .int .i64 k ∧ xs.take k = ys.take k ∧ Below w.heap.size w wr) (fun i _ => xs.length - (intOf i).toNat)
    case atStart => exact ⟨0, Nat.zero_le _, rfl, rfl, Below.refl _ _⟩
    case round =>
      obtain ⟨k, hk, rfl, hal, hbel⟩ := hrel
      have HBW := Lib.hid hbel
      have HAL := Lib.hid hal
      clear hbel hal
      by_cases hlt : k < xs.length
      · obtain ⟨b1, o1, rfl, hb1, hr1⟩ := rm_at HA.out hlt
        obtain ⟨b2, o2, rfl, hb2, hr2⟩ := rm_at HB.out (show k < ys.length by rw [← HL.out]; exact hlt)
        have HR1 := Lib.hid (range_below hr1 hb1 HBW.out)
        have HR2 := Lib.hid (range_below hr2 hb2 HBW.out)
        have hl1 : b1 < wr.heap.size := Nat.lt_of_lt_of_le hb1 HBW.out.size
        have hl2 : b2 < wr.heap.size := Nat.lt_of_lt_of_le hb2 HBW.out.size
        have HTS := Lib.hid (take_same hlt (show k < ys.length by rw [← HL.out]; exact hlt))
        have HNE := Lib.hid (show xs[k] ≠ ys[k]'(by rw [← HL.out]; exact hlt) → xs ≠ ys from fun h e => h (by subst e; rfl))
        obtain ⟨m, hm⟩ : ∃ m, m = xs[k] := ⟨_, rfl⟩
        obtain ⟨n, hn⟩ : ∃ n, n = ys[k]'(by rw [← HL.out]; exact hlt) := ⟨_, rfl⟩
        rw [← hm] at HR1
        rw [← hn] at HR2
        rw [← hm, ← hn] at HTS HNE
        have q1 : (k : Int) < (xs.length : Int) := by omega
        clear hr1 hr2 hm hn
        go_wp2_with fail
        refine wp_region_held_drew (S := SB [wr]) (by kernel_rfl) (SB.start _) (fun hHeld => ?_)
        refine tkC 0 ?_
        refine tkC 1 ?_
        refine tkC 2 ?_
        refine tkA 3 (v := .agg (msgC m).toArray) (fun W hSw => exec_load_mid 45 (.tmp 19) rfl b1 (o1 + k * 8) rfl _ _ (range_below HR1.out hl1 (SB.b0 hSw)) Tryz.underlying45 rfl size57) ?_
        try simp only [Act.put, zA, zB, zC]
        refine tkC 4 ?_
        refine tkC 5 ?_
        refine tkC 6 ?_
        refine tkA 7 (v := .agg (msgC n).toArray) (fun W hSw => exec_load_mid 45 (.tmp 23) rfl b2 (o2 + k * 8) rfl _ _ (range_below HR2.out hl2 (SB.b0 hSw)) Tryz.underlying45 rfl size57) ?_
        try simp only [Act.put, zA, zB, zC]
        refine tkA 8 (v := .bool (!decide (m = n))) (fun W hSw => exec_neq_msg (.tmp 20) (.tmp 24) rfl m n rfl rfl) ?_
        try simp only [Act.put, zA, zB, zC]
        refine wpAnyH_done (by kernel_rfl) ?_ _
        clear hHeld
        obtain ⟨wd, hwd⟩ : ∃ wd, wd = wr.drew := ⟨_, rfl⟩
        have HBD := Lib.hid (show Below w.heap.size w wd by rw [hwd]; exact HBW.out.drew)
        rw [← hwd]
        clear hwd
        by_cases he : m = n
        · have hd : decide (m = n) = true := by simp [he]
          have HN := Lib.hid (HTS.out.2 ⟨HAL.out, he⟩)
          rw [hd, Bool.not_true]
          clear hd he
          go_wp2
          go_roundw
          case rel => exact ⟨k + 1, by omega, by go_num, HN.out, HBD.out⟩
          case measure => simp [intOf]; omega
        · have hd : decide (m = n) = false := by simp [he]
          have HE := Lib.hid (show r = false by rw [← HR.out]; exact decide_eq_false (HNE.out he))
          rw [hd, Bool.not_false]
          clear hd he
          go_wp2
          go_ret
          exact ⟨by rw [HE.out]; rfl, HBD.out⟩
      · have q1 : ¬ (k : Int) < (xs.length : Int) := by omega
        have HE := Lib.hid (show r = true by rw [← HR.out]; have h := HAL.out; rw [List.take_of_length_le (by omega), List.take_of_length_le (by rw [← HL.out]; omega)] at h; exact decide_eq_true h)
        go_wp2
        go_ret
        exact ⟨by rw [HE.out]; rfl, HBW.out⟩
  · have hne : ((xs.length : Int) != (ys.length : Int)) = true := by simp; omega
    have HE := Lib.hid (show decide (xs = ys) = false from decide_eq_false fun e => hlen (by rw [e]))
    have hni : ¬ ((xs.length : Int) = (ys.length : Int)) := by omega
    clear ha hb
    go_enter Tryz.func37, Tryz.ntmps37
    go_wp2
    go_ret
    exact ⟨by rw [HE.out]; rfl, Below.refl _ _⟩
end Go.Proofs.YtodckdkbheapfaaGreat
set_option linter.unusedVariables false
namespace Go.Proofs.YtodckdkbheapfaaGreat
open Go.RowKit Go.Rst Go.Tp Go.Ts
set_option maxRecDepth 100000 in
set_option maxHeartbeats 8000000 in
theorem sameSub_any {x y : Sub} {av qv bv rv : Value} {w : World} (ha : RI w av x.acks) (hq : RM w qv x.queue) (hb : RI w bv y.acks) (hr : RM w rv y.queue) :
    Calls Tryz.prog 28 #[.agg (subC x av qv).toArray, .agg (subC y bv rv).toArray] w fun e w' => e = .returned (.bool (decide (x = y))) ∧ Below w.heap.size w w' := by
  obtain ⟨A1, k1, rfl, _, h1⟩ := ha.shape
  obtain ⟨A2, k2, rfl, _, h2⟩ := hb.shape
  obtain ⟨Q1, j1, rfl, _, h3⟩ := hq.shape
  obtain ⟨Q2, j2, rfl, _, h4⟩ := hr.shape
  unfold maxLen at h1 h2 h3 h4
  obtain ⟨id, name, topic, want, lease, most, floor, acks, queue, note⟩ := x
  obtain ⟨id2, name2, topic2, want2, lease2, most2, floor2, acks2, queue2, note2⟩ := y
  simp only [subC] at ha hq hb hr ⊢
  obtain ⟨r, hr0⟩ : ∃ r, decide ((⟨id, name, topic, want, lease, most, floor, acks, queue, note⟩ : Sub) = ⟨id2, name2, topic2, want2, lease2, most2, floor2, acks2, queue2, note2⟩) = r := ⟨_, rfl⟩
  rw [hr0]
  have HR0 := Lib.hid hr0
  clear hr0
  have HA := Lib.hid ha
  have HB := Lib.hid hb
  have HQ := Lib.hid hq
  have HR := Lib.hid hr
  clear ha hb hq hr
  have HBT := Lib.hid (below_two w #[.int .i64 id, sv name, sv topic, sv want, .int .i64 lease, .int .i64 most, .int .i64 floor, .slice A1 acks.length k1, .slice Q1 queue.length j1, sv note] #[.int .i64 id2, sv name2, sv topic2, sv want2, .int .i64 lease2, .int .i64 most2, .int .i64 floor2, .slice A2 acks2.length k2, .slice Q2 queue2.length j2, sv note2] 30 30)
  by_cases hne : id = id2
  case neg =>
      have HE := Lib.hid (show r = false by rw [← HR0.out]; exact decide_eq_false fun e => by injection e; exact hne (by first | assumption | (subst_vars; rfl)))
      go_enter Tryz.func28, Tryz.ntmps28
      go_wp2
      go_ret
      exact ⟨by rw [HE.out]; rfl, HBT.out⟩
  subst hne
  by_cases hne : name = name2
  case neg =>
      have HE := Lib.hid (show r = false by rw [← HR0.out]; exact decide_eq_false fun e => by injection e; exact hne (by first | assumption | (subst_vars; rfl)))
      go_enter Tryz.func28, Tryz.ntmps28
      go_wp2
      go_ret
      exact ⟨by rw [HE.out]; rfl, HBT.out⟩
  subst hne
  by_cases hne : topic = topic2
  case neg =>
      have HE := Lib.hid (show r = false by rw [← HR0.out]; exact decide_eq_false fun e => by injection e; exact hne (by first | assumption | (subst_vars; rfl)))
      go_enter Tryz.func28, Tryz.ntmps28
      go_wp2
      go_ret
      exact ⟨by rw [HE.out]; rfl, HBT.out⟩
  subst hne
  by_cases hne : want = want2
  case neg =>
      have HE := Lib.hid (show r = false by rw [← HR0.out]; exact decide_eq_false fun e => by injection e; exact hne (by first | assumption | (subst_vars; rfl)))
      go_enter Tryz.func28, Tryz.ntmps28
      go_wp2
      go_ret
      exact ⟨by rw [HE.out]; rfl, HBT.out⟩
  subst hne
  by_cases hne : lease = lease2
  case neg =>
      have HE := Lib.hid (show r = false by rw [← HR0.out]; exact decide_eq_false fun e => by injection e; exact hne (by first | assumption | (subst_vars; rfl)))
      go_enter Tryz.func28, Tryz.ntmps28
      go_wp2
      go_ret
      exact ⟨by rw [HE.out]; rfl, HBT.out⟩
  subst hne
  by_cases hne : most = most2
  case neg =>
      have HE := Lib.hid (show r = false by rw [← HR0.out]; exact decide_eq_false fun e => by injection e; exact hne (by first | assumption | (subst_vars; rfl)))
      go_enter Tryz.func28, Tryz.ntmps28
      go_wp2
      go_ret
      exact ⟨by rw [HE.out]; rfl, HBT.out⟩
  subst hne
  by_cases hne : floor = floor2
  case neg =>
      have HE := Lib.hid (show r = false by rw [← HR0.out]; exact decide_eq_false fun e => by injection e; exact hne (by first | assumption | (subst_vars; rfl)))
      go_enter Tryz.func28, Tryz.ntmps28
      go_wp2
      go_ret
      exact ⟨by rw [HE.out]; rfl, HBT.out⟩
  subst hne
  by_cases hne : note = note2
  case neg =>
      have HE := Lib.hid (show r = false by rw [← HR0.out]; exact decide_eq_false fun e => by injection e; exact hne (by first | assumption | (subst_vars; rfl)))
      go_enter Tryz.func28, Tryz.ntmps28
      go_wp2
      go_ret
      exact ⟨by rw [HE.out]; rfl, HBT.out⟩
  subst hne
  by_cases hne : acks.length = acks2.length
  case neg =>
      have HE := Lib.hid (show r = false by rw [← HR0.out]; exact decide_eq_false fun e => by injection e; exact hne (by subst_vars; rfl))
      go_enter Tryz.func28, Tryz.ntmps28
      go_wp2
      go_ret
      exact ⟨by rw [HE.out]; rfl, HBT.out⟩
  rw [← hne] at HB HBT ⊢
  have HL := Lib.hid hne
  clear hne
  obtain ⟨W0, hW0⟩ : ∃ W0, W0 = (w.alloc (.cells #[.int .i64 id, sv name, sv topic, sv want, .int .i64 lease, .int .i64 most, .int .i64 floor, .slice A1 acks.length k1, .slice Q1 queue.length j1, sv note] 30)).alloc (.cells #[.int .i64 id, sv name, sv topic, sv want, .int .i64 lease, .int .i64 most, .int .i64 floor, .slice A2 acks.length k2, .slice Q2 queue2.length j2, sv note] 30) := ⟨_, rfl⟩
  have hx0 : Wh W0 w.heap.size [.int .i64 id, sv name, sv topic, sv want, .int .i64 lease, .int .i64 most, .int .i64 floor, .slice A1 acks.length k1, .slice Q1 queue.length j1, sv note] 30 := by rw [hW0]; exact (Wh.new w _ _).alloc _
  have hy0 : Wh W0 (w.heap.size + 1) [.int .i64 id, sv name, sv topic, sv want, .int .i64 lease, .int .i64 most, .int .i64 floor, .slice A2 acks.length k2, .slice Q2 queue2.length j2, sv note] 30 := by
    have := Wh.new (w.alloc (.cells #[.int .i64 id, sv name, sv topic, sv want, .int .i64 lease, .int .i64 most, .int .i64 floor, .slice A1 acks.length k1, .slice Q1 queue.length j1, sv note] 30)) [.int .i64 id, sv name, sv topic, sv want, .int .i64 lease, .int .i64 most, .int .i64 floor, .slice A2 acks.length k2, .slice Q2 queue2.length j2, sv note] 30
    rw [World.size_alloc] at this
    rw [hW0]; exact this
  rw [← hW0] at HBT
  have HX0 := Lib.hid hx0
  have HY0 := Lib.hid hy0
  clear hx0 hy0
  go_enter Tryz.func28, Tryz.ntmps28
  go_wp2_with fail
  rw [← hW0]
  clear hW0
  go_loopw [5] (fun i wr => ∃ k : Nat, k ≤ acks.length ∧ i = .int .i64 k ∧ acks.take k = acks2.take k ∧ Below W0.heap.size W0 wr) (fun i _ => acks.length - (intOf i).toNat)
  case atStart => exact ⟨0, Nat.zero_le _, rfl, rfl, Below.refl _ _⟩
  case round =>
    obtain ⟨k, hk, rfl, hal, hbel⟩ := hrel
    have hbw := HBT.out.trans (hbel.mono HBT.out.size)
    have HBW := Lib.hid hbw
    have HAL := Lib.hid hal
    have HBL := Lib.hid hbel
    have hxw := HX0.out.below hbel
    have hyw := HY0.out.below hbel
    have c7 := hxw.bx.cell (i := 7) (by simp)
    have d7 := hyw.bx.cell (i := 7) (by simp)
    have c8 := hxw.bx.cell (i := 8) (by simp)
    have d8 := hyw.bx.cell (i := 8) (by simp)
    simp only [List.getElem_cons_succ, List.getElem_cons_zero] at c7 d7 c8 d8
    have hl3 := hxw.lt
    have hl4 := hyw.lt
    clear hbel hal hxw hyw hbw
    by_cases hlt : k < acks.length
    · obtain ⟨b1, o1, cs1, rfl, hb1, hc1, hr1⟩ := HA.out.at_ hlt
      obtain ⟨b2, o2, cs2, rfl, hb2, hc2, hr2⟩ := HB.out.at_ (show k < acks2.length by rw [← HL.out]; exact hlt)
      have hc1 : cs1 = [.int .i64 acks[k]] := hc1
      have hc2 : cs2 = [.int .i64 (acks2[k]'(by rw [← HL.out]; exact hlt))] := hc2
      subst hc1
      subst hc2
      have e1 := hr1 0 (by simp)
      have e2 := hr2 0 (by simp)
      simp only [List.getElem_cons_zero, Nat.mul_one, Nat.add_zero] at e1 e2
      have e1 := (HBW.out.cell (p := ⟨b1, o1 + k, none⟩) hb1).trans e1
      have e2 := (HBW.out.cell (p := ⟨b2, o2 + k, none⟩) hb2).trans e2
      have hl1 : b1 < wr.heap.size := Nat.lt_of_lt_of_le hb1 HBW.out.size
      have hl2 : b2 < wr.heap.size := Nat.lt_of_lt_of_le hb2 HBW.out.size
      have HTS := Lib.hid (take_same hlt (show k < acks2.length by rw [← HL.out]; exact hlt))
      have HNE := Lib.hid (show acks[k] ≠ acks2[k]'(by rw [← HL.out]; exact hlt) → acks ≠ acks2 from fun h e => h (by subst e; rfl))
      obtain ⟨m, hm⟩ : ∃ m, m = acks[k] := ⟨_, rfl⟩
      obtain ⟨n, hn⟩ : ∃ n, n = acks2[k]'(by rw [← HL.out]; exact hlt) := ⟨_, rfl⟩
      rw [← hm] at e1
      rw [← hn] at e2
      rw [← hm, ← hn] at HTS HNE
      have q1 : (k : Int) < (acks.length : Int) := by omega
      clear hr1 hr2 hm hn
      go_wp2_with fail
      refine wp_region_held_drew (S := SB [wr]) (by kernel_rfl) (SB.start _) (fun hHeld => ?_)
      refine tkC 0 ?_
      refine tkA 1 (v := ?_) ?_ ?_
      rotate_left
      · intro W hSw; have hq := (SB.b0 hSw).cell (p := ⟨w.heap.size, 7, none⟩) hl3 |>.trans c7; go_simp; try (with_reducible rfl)
      try simp only [Act.put, zA, zB, zC]
      refine tkC 2 ?_
      refine tkC 3 ?_
      refine tkA 4 (v := ?_) ?_ ?_
      rotate_left
      · intro W hSw; have hq := (SB.b0 hSw).cell (p := ⟨b1, o1 + k, none⟩) hl1 |>.trans e1; go_simp; try (with_reducible rfl)
      try simp only [Act.put, zA, zB, zC]
      refine tkC 5 ?_
      refine tkA 6 (v := ?_) ?_ ?_
      rotate_left
      · intro W hSw; have hq := (SB.b0 hSw).cell (p := ⟨w.heap.size + 1, 7, none⟩) hl4 |>.trans d7; go_simp; try (with_reducible rfl)
      try simp only [Act.put, zA, zB, zC]
      refine tkC 7 ?_
      refine tkC 8 ?_
      refine tkA 9 (v := ?_) ?_ ?_
      rotate_left
      · intro W hSw; have hq := (SB.b0 hSw).cell (p := ⟨b2, o2 + k, none⟩) hl2 |>.trans e2; go_simp; try (with_reducible rfl)
      try simp only [Act.put, zA, zB, zC]
      refine tkC 10 ?_
      refine wpAnyH_done (by kernel_rfl) ?_ _
      clear hHeld
      obtain ⟨wd, hwd⟩ : ∃ wd, wd = wr.drew := ⟨_, rfl⟩
      have HBD := Lib.hid (show Below w.heap.size w wd by rw [hwd]; exact HBW.out.drew)
      have HBE := Lib.hid (show Below W0.heap.size W0 wd by rw [hwd]; exact HBL.out.drew)
      rw [← hwd]
      have c7d : wd.cell? ⟨w.heap.size, 7, none⟩ = some (.slice (some ⟨b1, o1, none⟩) acks.length k1) := by rw [hwd]; exact c7
      clear hwd c7 d7 c8 d8 e1 e2
      by_cases he : m = n
      · have HN := Lib.hid (HTS.out.2 ⟨HAL.out, he⟩)
        have hbq : (m != n) = false := by simp [he]
        clear he
        go_wp2
        go_roundw
        case rel => exact ⟨k + 1, by omega, by go_num, HN.out, HBE.out⟩
        case measure => simp [intOf]; omega
      · have hbq : (m != n) = true := by simp [he]
        have HE := Lib.hid (show r = false by rw [← HR0.out]; exact decide_eq_false fun e => by injection e; exact HNE.out he (by assumption))
        go_wp2
        go_ret
        exact ⟨by rw [HE.out]; rfl, HBD.out⟩
    · have q1 : ¬ (k : Int) < (acks.length : Int) := by omega
      have HE := Lib.hid (show decide (queue = queue2) = r by rw [← HR0.out]; have h := HAL.out; rw [List.take_of_length_le (by omega), List.take_of_length_le (by rw [← HL.out]; omega)] at h; subst h; simp)
      have HS := Lib.hid (sameMsgs_any (HQ.out.below stays_cm HBW.out) (HR.out.below stays_cm HBW.out))
      go_wp2_with fail
      go_at_call 37
      refine HS.out.mono ?_
      rintro e w5 ⟨rfl, hb5⟩
      have HB5 := Lib.hid (HBW.out.trans (hb5.mono HBW.out.size))
      rw [HE.out]
      clear hb5
      go_wp2
      go_ret
      exact ⟨rfl, HB5.out⟩
end Go.Proofs.YtodckdkbheapfaaGreat
set_option linter.unusedVariables false
namespace Go.Proofs.YtodckdkbheapfaaGreat
open Go.RowKit Go.Rst Go.Tp Go.Ts
set_option maxRecDepth 100000 in
set_option maxHeartbeats 8000000 in
theorem same_any {c n l c2 n2 l2 : Int} {v v2 : Value} {xs ys : List Sub} {w : World} (ha : RS w v xs) (hb : RS w v2 ys) :
    Calls Tryz.prog 18 #[.agg (stC c n l v).toArray, .agg (stC c2 n2 l2 v2).toArray] w fun e w' => e = .returned (.bool (decide (c = c2 ∧ n = n2 ∧ l = l2 ∧ xs = ys))) ∧ Below w.heap.size w w' := by
  obtain ⟨A1, k1, rfl, _, h1⟩ := ha.shape
  obtain ⟨A2, k2, rfl, _, h2⟩ := hb.shape
  unfold maxLen at h1 h2
  obtain ⟨r, hr0⟩ : ∃ r, decide (c = c2 ∧ n = n2 ∧ l = l2 ∧ xs = ys) = r := ⟨_, rfl⟩
  rw [hr0]
  have HR0 := Lib.hid hr0
  clear hr0
  simp only [stC]
  have HA := Lib.hid ha
  have HB := Lib.hid hb
  clear ha hb
  have HBT := Lib.hid (below_two w #[.int .i64 c, .int .i64 n, .int .i64 l, .slice A1 xs.length k1] #[.int .i64 c2, .int .i64 n2, .int .i64 l2, .slice A2 ys.length k2] 25 25)
  by_cases hne : c = c2
  case neg =>
    have HE := Lib.hid (show r = false by rw [← HR0.out]; exact decide_eq_false fun e => by obtain ⟨e1, e2, e3, e4⟩ := e; exact hne (by subst_vars; rfl))
    go_enter Tryz.func18, Tryz.ntmps18
    go_wp2
    go_ret
    exact ⟨by rw [HE.out]; rfl, HBT.out⟩
  subst hne
  by_cases hne : n = n2
  case neg =>
    have HE := Lib.hid (show r = false by rw [← HR0.out]; exact decide_eq_false fun e => by obtain ⟨e1, e2, e3, e4⟩ := e; exact hne (by subst_vars; rfl))
    go_enter Tryz.func18, Tryz.ntmps18
    go_wp2
    go_ret
    exact ⟨by rw [HE.out]; rfl, HBT.out⟩
  subst hne
  by_cases hne : l = l2
  case neg =>
    have HE := Lib.hid (show r = false by rw [← HR0.out]; exact decide_eq_false fun e => by obtain ⟨e1, e2, e3, e4⟩ := e; exact hne (by subst_vars; rfl))
    go_enter Tryz.func18, Tryz.ntmps18
    go_wp2
    go_ret
    exact ⟨by rw [HE.out]; rfl, HBT.out⟩
  subst hne
  by_cases hne : xs.length = ys.length
  case neg =>
    have HE := Lib.hid (show r = false by rw [← HR0.out]; exact decide_eq_false fun e => by obtain ⟨e1, e2, e3, e4⟩ := e; exact hne (by subst_vars; rfl))
    go_enter Tryz.func18, Tryz.ntmps18
    go_wp2
    go_ret
    exact ⟨by rw [HE.out]; rfl, HBT.out⟩
  rw [← hne] at HB HBT ⊢
  have HL := Lib.hid hne
  clear hne
  obtain ⟨W0, hW0⟩ : ∃ W0, W0 = (w.alloc (.cells #[.int .i64 c, .int .i64 n, .int .i64 l, .slice A1 xs.length k1] 25)).alloc (.cells #[.int .i64 c, .int .i64 n, .int .i64 l, .slice A2 xs.length k2] 25) := ⟨_, rfl⟩
  have hx0 : Wh W0 w.heap.size [.int .i64 c, .int .i64 n, .int .i64 l, .slice A1 xs.length k1] 25 := by rw [hW0]; exact (Wh.new w _ _).alloc _
  have hy0 : Wh W0 (w.heap.size + 1) [.int .i64 c, .int .i64 n, .int .i64 l, .slice A2 xs.length k2] 25 := by
    have := Wh.new (w.alloc (.cells #[.int .i64 c, .int .i64 n, .int .i64 l, .slice A1 xs.length k1] 25)) [.int .i64 c, .int .i64 n, .int .i64 l, .slice A2 xs.length k2] 25
    rw [World.size_alloc] at this
    rw [hW0]; exact this
  rw [← hW0] at HBT
  have HX0 := Lib.hid hx0
  have HY0 := Lib.hid hy0
  clear hx0 hy0
  go_enter Tryz.func18, Tryz.ntmps18
  go_wp2_with fail
  rw [← hW0]
  clear hW0
  go_loopw [5] (fun i wr => ∃ k : Nat, k ≤ xs.length ∧ i = .int .i64 k ∧ xs.take k = ys.take k ∧ Below W0.heap.size W0 wr) (fun i _ => xs.length - (intOf i).toNat)
  case atStart => exact ⟨0, Nat.zero_le _, rfl, rfl, Below.refl _ _⟩
  case round =>
    obtain ⟨k, hk, rfl, hal, hbel⟩ := hrel
    have hbw := HBT.out.trans (hbel.mono HBT.out.size)
    have HBW := Lib.hid hbw
    have HAL := Lib.hid hal
    have HBL := Lib.hid hbel
    have hxw := HX0.out.below hbel
    have hyw := HY0.out.below hbel
    have c7 := hxw.bx.cell (i := 3) (by simp)
    have d7 := hyw.bx.cell (i := 3) (by simp)
    simp only [List.getElem_cons_succ, List.getElem_cons_zero] at c7 d7
    have hl3 := hxw.lt
    have hl4 := hyw.lt
    clear hbel hal hxw hyw hbw
    by_cases hlt : k < xs.length
    · obtain ⟨b1, o1, av, qv, rfl, hb1, hr1, ha1, hq1⟩ := rs_at HA.out hlt
      obtain ⟨b2, o2, bv, rv, rfl, hb2, hr2, ha2, hq2⟩ := rs_at HB.out (show k < ys.length by rw [← HL.out]; exact hlt)
      have hg1 := range_below hr1 hb1 HBW.out
      have hg2 := range_below hr2 hb2 HBW.out
      have hl1 : b1 < wr.heap.size := Nat.lt_of_lt_of_le hb1 HBW.out.size
      have hl2 : b2 < wr.heap.size := Nat.lt_of_lt_of_le hb2 HBW.out.size
      have HTS := Lib.hid (take_same hlt (show k < ys.length by rw [← HL.out]; exact hlt))
      have HNE := Lib.hid (show xs[k] ≠ ys[k]'(by rw [← HL.out]; exact hlt) → xs ≠ ys from fun h e => h (by subst e; rfl))
      obtain ⟨m, hm⟩ : ∃ m, m = xs[k] := ⟨_, rfl⟩
      obtain ⟨p, hp⟩ : ∃ p, p = ys[k]'(by rw [← HL.out]; exact hlt) := ⟨_, rfl⟩
      rw [← hm] at hg1 ha1 hq1
      rw [← hp] at hg2 ha2 hq2
      rw [← hm, ← hp] at HTS HNE
      have q1 : (k : Int) < (xs.length : Int) := by omega
      have hs := fun (W : World) (hW : Below w.heap.size w W) => sameSub_any (ha1.below stays_ci hW) (hq1.below stays_cm hW) (ha2.below stays_ci hW) (hq2.below stays_cm hW)
      clear hr1 hr2 hm hp hb1 hb2 ha1 hq1 ha2 hq2
      by_cases he : m = p
      · have HN := Lib.hid (HTS.out.2 ⟨HAL.out, he⟩)
        have hd : decide (m = p) = true := by simp [he]
        simp only [hd] at hs
        clear he hd HTS HNE
        obtain ⟨id, name, topic, want, lease, most, floor, acks, queue, note⟩ := m
        obtain ⟨id2, name2, topic2, want2, lease2, most2, floor2, acks2, queue2, note2⟩ := p
        simp only [subC] at hg1 hg2 hs
        have HR1 := Lib.hid hg1
        have HR2 := Lib.hid hg2
        have HS := Lib.hid hs
        clear hg1 hg2 hs
        go_wp2_with fail
        refine wp_region_held_drew (S := SB [wr]) (by kernel_rfl) (SB.start _) (fun hHeld => ?_)
        refine tkC 0 ?_
        refine tkA 1 (v := ?_) ?_ ?_
        rotate_left
        · intro W hSw; have hq := (SB.b0 hSw).cell (p := ⟨w.heap.size, 3, none⟩) hl3 |>.trans c7; go_simp; try (with_reducible rfl)
        try simp only [Act.put, zA, zB, zC]
        refine tkC 2 ?_
        refine tkC 3 ?_
        refine tkA 4 (v := .agg #[.int .i64 id, sv name, sv topic, sv want, .int .i64 lease, .int .i64 most, .int .i64 floor, av, qv, sv note]) (fun W hSw => exec_load_mid 30 (.tmp 44) rfl b1 (o1 + k * 10) rfl _ _ (range_below HR1.out hl1 (SB.b0 hSw)) Tryz.underlying30 rfl size35) ?_
        try simp only [Act.put, zA, zB, zC]
        refine tkC 5 ?_
        refine tkA 6 (v := ?_) ?_ ?_
        rotate_left
        · intro W hSw; have hq := (SB.b0 hSw).cell (p := ⟨w.heap.size + 1, 3, none⟩) hl4 |>.trans d7; go_simp; try (with_reducible rfl)
        try simp only [Act.put, zA, zB, zC]
        refine tkC 7 ?_
        refine tkC 8 ?_
        refine tkA 9 (v := .agg #[.int .i64 id2, sv name2, sv topic2, sv want2, .int .i64 lease2, .int .i64 most2, .int .i64 floor2, bv, rv, sv note2]) (fun W hSw => exec_load_mid 30 (.tmp 49) rfl b2 (o2 + k * 10) rfl _ _ (range_below HR2.out hl2 (SB.b0 hSw)) Tryz.underlying30 rfl size35) ?_
        try simp only [Act.put, zA, zB, zC]
        refine rdA (rs := [10]) (arC (i := 10) fun K hK => ?_)
        go_simp
        refine (HS.out _ (HBW.out.trans ((SB.b0 hHeld).mono HBW.out.size))).mono ?_
        rintro e w3 ⟨rfl, hbw3⟩
        try (go_wp2_with fail)
        have hHeld' := SB.step hHeld hbw3
        refine hK.out _ _ ?_ (fun _ => ?_)
        · exact hHeld'
        clear hK K
        try simp only [Act.put, zA, zB, zC]
        have hHeld := hHeld'
        refine tkC 11 ?_
        refine wpAnyH_done (by kernel_rfl) ?_ _
        have hbd := SB.b0 hHeld
        have HBD := Lib.hid (HBW.out.trans (hbd.mono HBW.out.size))
        have HBE := Lib.hid (HBL.out.trans (hbd.mono HBL.out.size))
        have c7d : w3.cell? ⟨w.heap.size, 3, none⟩ = some (.slice (some ⟨b1, o1, none⟩) xs.length k1) := (hbd.cell (p := ⟨w.heap.size, 3, none⟩) hl3).trans c7
        clear hHeld hHeld' hbd hbw3 c7 d7
        go_wp2
        go_roundw
        case rel => exact ⟨k + 1, by omega, by go_num, HN.out, HBE.out⟩
        case measure => simp [intOf]; omega
      · have HE := Lib.hid (show r = false by rw [← HR0.out]; exact decide_eq_false fun e => HNE.out he e.2.2.2)
        have hd : decide (m = p) = false := by simp [he]
        simp only [hd] at hs
        clear he hd HTS HNE
        obtain ⟨id, name, topic, want, lease, most, floor, acks, queue, note⟩ := m
        obtain ⟨id2, name2, topic2, want2, lease2, most2, floor2, acks2, queue2, note2⟩ := p
        simp only [subC] at hg1 hg2 hs
        have HR1 := Lib.hid hg1
        have HR2 := Lib.hid hg2
        have HS := Lib.hid hs
        clear hg1 hg2 hs
        go_wp2_with fail
        refine wp_region_held_drew (S := SB [wr]) (by kernel_rfl) (SB.start _) (fun hHeld => ?_)
        refine tkC 0 ?_
        refine tkA 1 (v := ?_) ?_ ?_
        rotate_left
        · intro W hSw; have hq := (SB.b0 hSw).cell (p := ⟨w.heap.size, 3, none⟩) hl3 |>.trans c7; go_simp; try (with_reducible rfl)
        try simp only [Act.put, zA, zB, zC]
        refine tkC 2 ?_
        refine tkC 3 ?_
        refine tkA 4 (v := .agg #[.int .i64 id, sv name, sv topic, sv want, .int .i64 lease, .int .i64 most, .int .i64 floor, av, qv, sv note]) (fun W hSw => exec_load_mid 30 (.tmp 44) rfl b1 (o1 + k * 10) rfl _ _ (range_below HR1.out hl1 (SB.b0 hSw)) Tryz.underlying30 rfl size35) ?_
        try simp only [Act.put, zA, zB, zC]
        refine tkC 5 ?_
        refine tkA 6 (v := ?_) ?_ ?_
        rotate_left
        · intro W hSw; have hq := (SB.b0 hSw).cell (p := ⟨w.heap.size + 1, 3, none⟩) hl4 |>.trans d7; go_simp; try (with_reducible rfl)
        try simp only [Act.put, zA, zB, zC]
        refine tkC 7 ?_
        refine tkC 8 ?_
        refine tkA 9 (v := .agg #[.int .i64 id2, sv name2, sv topic2, sv want2, .int .i64 lease2, .int .i64 most2, .int .i64 floor2, bv, rv, sv note2]) (fun W hSw => exec_load_mid 30 (.tmp 49) rfl b2 (o2 + k * 10) rfl _ _ (range_below HR2.out hl2 (SB.b0 hSw)) Tryz.underlying30 rfl size35) ?_
        try simp only [Act.put, zA, zB, zC]
        refine rdA (rs := [10]) (arC (i := 10) fun K hK => ?_)
        go_simp
        refine (HS.out _ (HBW.out.trans ((SB.b0 hHeld).mono HBW.out.size))).mono ?_
        rintro e w3 ⟨rfl, hbw3⟩
        try (go_wp2_with fail)
        have hHeld' := SB.step hHeld hbw3
        refine hK.out _ _ ?_ (fun _ => ?_)
        · exact hHeld'
        clear hK K
        try simp only [Act.put, zA, zB, zC]
        have hHeld := hHeld'
        refine tkC 11 ?_
        refine wpAnyH_done (by kernel_rfl) ?_ _
        have hbd := SB.b0 hHeld
        have HBD := Lib.hid (HBW.out.trans (hbd.mono HBW.out.size))
        have HBE := Lib.hid (HBL.out.trans (hbd.mono HBL.out.size))
        have c7d : w3.cell? ⟨w.heap.size, 3, none⟩ = some (.slice (some ⟨b1, o1, none⟩) xs.length k1) := (hbd.cell (p := ⟨w.heap.size, 3, none⟩) hl3).trans c7
        clear hHeld hHeld' hbd hbw3 c7 d7
        go_wp2
        go_ret
        exact ⟨by rw [HE.out]; rfl, HBD.out⟩
    · have q1 : ¬ (k : Int) < (xs.length : Int) := by omega
      have HE := Lib.hid (show r = true by rw [← HR0.out]; have h := HAL.out; rw [List.take_of_length_le (by omega), List.take_of_length_le (by rw [← HL.out]; omega)] at h; subst h; simp)
      go_wp2
      go_ret
      exact ⟨by rw [HE.out]; rfl, HBW.out⟩
end Go.Proofs.YtodckdkbheapfaaGreat
