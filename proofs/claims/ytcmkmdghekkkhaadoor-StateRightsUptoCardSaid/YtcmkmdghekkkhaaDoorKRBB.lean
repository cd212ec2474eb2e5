/-
  The contract of the document's own Good (layer state).
-/
import Derived.Deep.MidRow
import Derived.Test.YtcmkmdghekkkhaaDoorKRBA
set_option linter.unusedVariables false
set_option linter.unusedVariables false
namespace Go.Ts
theorem ackB_drop {next last : Int} {l : List Int} {k : Nat} (hk : k < l.length) : ackB next last (l.drop k) = (decide (last < l[k]) && decide (l[k] < next) && ackB next l[k] (l.drop (k + 1))) := by
  rw [List.drop_eq_getElem_cons hk, ackB]
theorem queB_drop {x : Sub} {clock next last : Int} {l : List Msg} {k : Nat} (hk : k < l.length) : queB x clock next last (l.drop k) = (decide (last < l[k].seq) && decide (l[k].seq < next) && !(x.acks.contains l[k].seq) && msgB l[k] x.lease x.most clock && queB x clock next l[k].seq (l.drop (k + 1))) := by
  rw [List.drop_eq_getElem_cons hk, queB]
end Go.Ts
namespace Go.Proofs.YtcmkmdghekkkhaaDoor
open Go.RowKit Go.Rst Go.Tp Go.Ts
theorem CellsAt.range {w : World} {b off : Nat} {cs : List Value} (h : CellsAt w b off cs) : w.rangeAt b off cs := fun j v hv => by
  obtain ⟨hj, rfl⟩ := List.getElem?_eq_some_iff.1 hv
  exact h j hj
theorem BX.range {w : World} {g : Nat} {cs : List Value} (h : BX w g cs) : w.rangeAt g 0 cs := fun j v hv => by
  obtain ⟨hj, rfl⟩ := List.getElem?_eq_some_iff.1 hv
  rw [Nat.zero_add]; exact h.at_ j hj
theorem size57 : (Tryd.prog.info? 55).map (·.size) = some 8 := by kernel_rfl
theorem size35 : (Tryd.prog.info? 35).map (·.size) = some 10 := by kernel_rfl
theorem ri_at {w : World} {A : Option Addr} {n c : Nat} {l : List Int} (h : RI w (.slice A n c) l) {k : Nat} (hk : k < l.length) : ∃ b off, A = some ⟨b, off, none⟩ ∧ w.cell? ⟨b, off + k, none⟩ = some (.int .i64 l[k]) := by
  obtain ⟨b, off, cs, rfl, _, hcs, hcell⟩ := h.at_ hk
  have hcs : cs = [.int .i64 l[k]] := hcs
  subst hcs
  have := hcell 0 (by simp)
  exact ⟨b, off, rfl, by simpa using this⟩
theorem rm_at {w : World} {A : Option Addr} {n c : Nat} {l : List Msg} (h : RM w (.slice A n c) l) {k : Nat} (hk : k < l.length) : ∃ b off, A = some ⟨b, off, none⟩ ∧ b < w.heap.size ∧ w.rangeAt b (off + k * 8) (msgC l[k]) := by
  obtain ⟨b, off, cs, rfl, hb, hcs, hcell⟩ := h.at_ hk
  have hcs : cs = msgC l[k] := hcs
  subst hcs
  exact ⟨b, off, rfl, hb, CellsAt.range hcell⟩
theorem wpList_load_midG {P : Program} {ops : Array Oper} {rest : List Oper} {op : Oper} {a : Act} {w : World} {Q : Exit → Act → World → Prop} (hw : Region.wanted op (yielded ops a.tmps) = true) (ty : TypeId) (x : Operand) (ho : op.op = .load ty x)
    (b o : Nat) (hx : a.eval x = .pointer (some ⟨b, o, none⟩)) (cs : List Value) (d : TypeDesc) (hc : w.rangeAt b o cs)
    (hu : P.underlying ty = some d) (hd : d.isRow = true) (hi : (P.info? ty).map (·.size) = some cs.length)
    (h : wpList P ops Q rest (a.put op.dst (.agg cs.toArray)) w) : wpList P ops Q (op :: rest) a w := by
  unfold wpList
  rw [if_pos hw]
  exact .inl (wp_load_mid ty x ho b o hx cs d hc hu hd hi h)
set_option maxRecDepth 100000 in
set_option maxHeartbeats 8000000 in
theorem good_any (x : Sub) (av qv : Value) (clock next : Int) (hn : x.name.length ≤ 140737488351232) (ht : x.topic.length ≤ 1000000) (hwt : x.want.length ≤ 1000000) (hat : ∀ m ∈ x.queue, m.attr.length ≤ 1000000) (w : World) (ha : RI w av x.acks) (hq : RM w qv x.queue) :
    Calls Tryd.prog 28 #[.agg (subC x av qv).toArray, .int .i64 clock, .int .i64 next] w fun e w' => e = .returned (.bool (goodB x clock next)) ∧ Below w.heap.size w w' := by
  have HX0 := Lib.hid (BX.new w (subC x av qv) 35)
  have HB0 := Lib.hid ((Below.refl _ w).alloc (Nat.le_refl _) (.cells (subC x av qv).toArray 35))
  have hfl := fields_any x av qv (by obtain ⟨A, c, h, _⟩ := ha.shape; exact ⟨A, c, h⟩) (by obtain ⟨A, c, h, _⟩ := hq.shape; exact ⟨A, c, h⟩) next hn ht hwt (w.alloc (.cells (subC x av qv).toArray 35))
  obtain ⟨A, ca, rfl, hac, ham⟩ := ha.shape
  obtain ⟨Q, cq, rfl, hqc, hqm⟩ := hq.shape
  unfold maxLen at ham hqm
  have HA := Lib.hid ha
  have HQ := Lib.hid hq
  have HAT := Lib.hid hat
  have hmsg := fun (m : Msg) (hm : m ∈ x.queue) => message_any m x (.slice A x.acks.length ca) (.slice Q x.queue.length cq) rfl rfl clock (hat m hm)
  have HMSG := Lib.hid hmsg
  generalize hr : goodB x clock next = r
  have HR := Lib.hid (show (fieldsB x next && ackB next x.floor x.acks && queB x clock next x.floor x.queue) = r from hr)
  clear hr ha hq hat hmsg hn ht hwt
  have hld0 := run_loadAt_mid (P := Tryd.prog) (w.alloc (.cells (subC x (.slice A x.acks.length ca) (.slice Q x.queue.length cq)).toArray 35)) w.heap.size 0 35 (subC x (.slice A x.acks.length ca) (.slice Q x.queue.length cq)) _ HX0.out.range Tryd.underlying35 rfl size35
  obtain ⟨xx, hxx⟩ : ∃ xx, xx = x := ⟨_, rfl⟩
  obtain ⟨id, name, topic, want, lease, most, floor, acks, queue, note⟩ := x
  simp only [subC] at HX0 HB0 hfl HR HMSG hld0 hac hqc HA HQ HAT ⊢
  cases hfb : fieldsB ⟨id, name, topic, want, lease, most, floor, acks, queue, note⟩ next with
  | false =>
    rw [hfb] at hfl HR
    have HFL := Lib.hid hfl
    clear hfl hfb
    have HE := Lib.hid (show r = false by rw [← HR.out]; simp)
    clear HR
    go_enter Tryd.func28, Tryd.ntmps28
    go_wp2_with fail
    go_at_call 49
    refine HFL.out.mono ?_
    rintro e w1 ⟨rfl, hb1⟩
    have HB1 := Lib.hid (HB0.out.trans (hb1.mono HB0.out.size))
    clear hb1
    go_wp2
    go_ret
    exact ⟨by rw [HE.out]; rfl, HB1.out⟩
  | true =>
  rw [hfb] at hfl HR
  have HFL := Lib.hid hfl
  clear hfl hfb
  go_enter Tryd.func28, Tryd.ntmps28
  go_wp2_with fail
  go_at_call 49
  refine HFL.out.mono ?_
  rintro e w1 ⟨rfl, hb1⟩
  have HB1 := Lib.hid (HB0.out.trans (hb1.mono HB0.out.size))
  have HX1 := Lib.hid (HX0.out.below hb1)
  have HA1 := Lib.hid (HA.out.below stays_ci HB1.out)
  have HQ1 := Lib.hid (HQ.out.below stays_cm HB1.out)
  have c6 := HX1.out.cell (i := 6) (by simp)
  have c7 := HX1.out.cell (i := 7) (by simp)
  have c8 := HX1.out.cell (i := 8) (by simp)
  simp only [List.getElem_cons_succ, List.getElem_cons_zero] at c6 c7 c8
  clear hb1 hld0
  go_wp2_with fail
  go_loopw [7, 8] (fun la i wr => ∃ (k : Nat) (last : Int), k ≤ acks.length ∧ i = .int .i64 k ∧ la = .int .i64 last ∧ ackB next floor acks = ackB next last (acks.drop k) ∧ wr = w1) (fun _ i _ => acks.length - (intOf i).toNat)
  case atStart => exact ⟨0, floor, Nat.zero_le _, rfl, rfl, by simp, rfl⟩
  case round =>
    obtain ⟨k, last, hk, rfl, rfl, hst, hwr⟩ := hrel
    subst wr
    have HST := Lib.hid hst
    clear hst
    by_cases hlt : k < acks.length
    · obtain ⟨b, off, rfl, hcell⟩ := ri_at HA1.out hlt
      have hstep := ackB_drop (next := next) (last := last) hlt
      obtain ⟨n, hn⟩ : ∃ n, n = acks[k] := ⟨_, rfl⟩
      rw [← hn] at hcell hstep
      have HSP := Lib.hid hstep
      have q1 : (k : Int) < (acks.length : Int) := by omega
      clear hn hstep
      by_cases g1 : n ≤ last
      · have HE := Lib.hid (show r = false by rw [← HR.out, HST.out, HSP.out, decide_eq_false (show ¬ last < n by omega)]; simp)
        go_wp2
        go_ret
        exact ⟨by rw [HE.out]; rfl, HB1.out⟩
      · by_cases g2 : next ≤ n
        · have HE := Lib.hid (show r = false by rw [← HR.out, HST.out, HSP.out, decide_eq_false (show ¬ n < next by omega)]; simp)
          go_wp2
          go_ret
          exact ⟨by rw [HE.out]; rfl, HB1.out⟩
        · have HN := Lib.hid (show ackB next floor acks = ackB next n (acks.drop (k + 1)) by rw [HST.out, HSP.out, decide_eq_true (show last < n by omega), decide_eq_true (show n < next by omega)]; simp)
          go_wp2
          go_roundw
          case rel => exact ⟨k + 1, n, by omega, by go_num, rfl, HN.out, trivial⟩
          case measure => simp [intOf]; omega
    · have q1 : ¬ (k : Int) < (acks.length : Int) := by omega
      have HAK := Lib.hid (show queB ⟨id, name, topic, want, lease, most, floor, acks, queue, note⟩ clock next floor queue = r by rw [← HR.out, HST.out, List.drop_of_length_le (by omega)]; simp [ackB])
      clear HST HR
      go_wp2_with fail
      go_loopw [7, 9] (fun la i w2 => ∃ (k : Nat) (last : Int), k ≤ queue.length ∧ i = .int .i64 k ∧ la = .int .i64 last ∧ queB ⟨id, name, topic, want, lease, most, floor, acks, queue, note⟩ clock next floor queue = queB ⟨id, name, topic, want, lease, most, floor, acks, queue, note⟩ clock next last (queue.drop k) ∧ Below w1.heap.size w1 w2) (fun _ i _ => queue.length - (intOf i).toNat)
      case atStart => exact ⟨0, floor, Nat.zero_le _, rfl, rfl, by simp, Below.refl _ _⟩
      case round =>
        obtain ⟨k2, last, hk2, rfl, rfl, hst, hbel⟩ := hrel
        have HST2 := Lib.hid hst
        have HBl := Lib.hid hbel
        have HBW := Lib.hid (HB1.out.trans (hbel.mono HB1.out.size))
        clear hst hbel c6 c7 c8
        have HX2 := Lib.hid (HX1.out.below HBl.out)
        have HA2 := Lib.hid (HA1.out.below stays_ci HBl.out)
        have HQ2 := Lib.hid (HQ1.out.below stays_cm HBl.out)
        have c7 := HX2.out.cell (i := 7) (by simp)
        have c8 := HX2.out.cell (i := 8) (by simp)
        simp only [List.getElem_cons_succ, List.getElem_cons_zero] at c7 c8
        by_cases hlt2 : k2 < queue.length
        · obtain ⟨b, off, rfl, hb, hrg⟩ := rm_at HQ2.out hlt2
          have hstep := queB_drop (x := ⟨id, name, topic, want, lease, most, floor, acks, queue, note⟩) (clock := clock) (next := next) (last := last) hlt2
          have hmm := List.getElem_mem hlt2
          obtain ⟨m, hm⟩ : ∃ m, m = queue[k2] := ⟨_, rfl⟩
          rw [← hm] at hrg hstep hmm
          have HSP := Lib.hid hstep
          have hbox := BX.new wr (msgC m) 55
          have hr2 := hbox.range
          have hbx3 := HX2.out.below (w' := wr.alloc (.cells (msgC m).toArray 55)) ((Below.refl _ wr).alloc (Nat.le_refl _) _)
          have hr3 := hbx3.range
          have c7' := hbx3.cell (i := 7) (by simp)
          simp only [List.getElem_cons_succ, List.getElem_cons_zero] at c7'
          have hack := fun c => acked_any (HA2.out.below (w' := wr.alloc (.cells (msgC m).toArray 55)) stays_ci ((Below.refl _ wr).alloc (Nat.le_refl _) _)) c
          have hms := HMSG.out m hmm (wr.alloc (.cells (msgC m).toArray 55))
          have q1 : (k2 : Int) < (queue.length : Int) := by omega
          have HBM := Lib.hid (HBl.out.alloc HBl.out.size (.cells (msgC m).toArray 55))
          clear hm hstep hmm hbox hbx3
          have HB3 := Lib.hid (HBW.out.alloc HBW.out.size (.cells (msgC m).toArray 55))
          obtain ⟨seq, body, attr, tries, til, dead, why, prio⟩ := m
          simp only [msgC] at c7' hrg hr2 hr3 hack hms HBM HB3 HSP
          have HRG := Lib.hid hrg
          have HR2 := Lib.hid hr2
          have HR3 := Lib.hid hr3
          clear hrg hr2 hr3
          have hack := hack seq
          by_cases g1 : seq ≤ last
          · have HE := Lib.hid (show r = false by rw [← HAK.out, HST2.out, HSP.out, decide_eq_false (show ¬ last < seq by omega)]; simp)
            clear hack hms
            go_wp2_with (refine wpList_load_midG (by rfl) 55 (.tmp 57) rfl b (off + k2 * 8) rfl _ _ HRG.out Tryd.underlying55 rfl size57 ?_)
            go_ret
            exact ⟨by rw [HE.out]; rfl, HB3.out⟩
          · by_cases g2 : next ≤ seq
            · have HE := Lib.hid (show r = false by rw [← HAK.out, HST2.out, HSP.out, decide_eq_false (show ¬ seq < next by omega)]; simp)
              clear hack hms
              go_wp2_with (refine wpList_load_midG (by rfl) 55 (.tmp 57) rfl b (off + k2 * 8) rfl _ _ HRG.out Tryd.underlying55 rfl size57 ?_)
              go_ret
              exact ⟨by rw [HE.out]; rfl, HB3.out⟩
            · cases hac : acks.contains seq with
              | true =>
                have HE := Lib.hid (show r = false by rw [← HAK.out, HST2.out, HSP.out, hac]; simp)
                rw [hac] at hack
                have HACK := Lib.hid hack
                clear hack hms hac
                go_wp2_with (first | (refine wpList_load_midG (by rfl) 55 (.tmp 57) rfl b (off + k2 * 8) rfl _ _ HRG.out Tryd.underlying55 rfl size57 ?_) | (refine wpList_load_midG (by rfl) 55 (.tmp 10) rfl wr.heap.size 0 rfl _ _ HR2.out Tryd.underlying55 rfl size57 ?_) | (refine wpList_load_midG (by rfl) 35 (.tmp 3) rfl w.heap.size 0 rfl _ _ HR3.out Tryd.underlying35 rfl size35 ?_) | (go_at_call 50; refine HACK.out.mono ?_; rintro e w4 ⟨rfl, rfl⟩))
                go_ret
                exact ⟨by rw [HE.out]; rfl, HB3.out⟩
              | false =>
                rw [hac] at hack
                have HACK := Lib.hid hack
                cases hmb : msgB ⟨seq, body, attr, tries, til, dead, why, prio⟩ lease most clock with
                | false =>
                  have HE := Lib.hid (show r = false by rw [← HAK.out, HST2.out, HSP.out, hmb]; simp)
                  rw [hmb] at hms
                  have HMS := Lib.hid hms
                  clear hack hms hac hmb
                  go_wp2_with (first | (refine wpList_load_midG (by rfl) 55 (.tmp 57) rfl b (off + k2 * 8) rfl _ _ HRG.out Tryd.underlying55 rfl size57 ?_) | (refine wpList_load_midG (by rfl) 55 (.tmp 10) rfl wr.heap.size 0 rfl _ _ HR2.out Tryd.underlying55 rfl size57 ?_) | (refine wpList_load_midG (by rfl) 35 (.tmp 3) rfl w.heap.size 0 rfl _ _ HR3.out Tryd.underlying35 rfl size35 ?_) | (go_at_call 50; refine HACK.out.mono ?_; rintro e w4 ⟨rfl, rfl⟩) | (go_at_call 51; refine HMS.out.mono ?_; rintro e w5 ⟨rfl, hb5⟩; have HB5 := Lib.hid (HB3.out.trans (hb5.mono HB3.out.size)); clear hb5))
                  go_ret
                  exact ⟨by rw [HE.out]; rfl, HB5.out⟩
                | true =>
                  have HN := Lib.hid (show queB ⟨id, name, topic, want, lease, most, floor, acks, queue, note⟩ clock next floor queue = queB ⟨id, name, topic, want, lease, most, floor, acks, queue, note⟩ clock next seq (queue.drop (k2 + 1)) by rw [HST2.out, HSP.out, hac, hmb, decide_eq_true (show last < seq by omega), decide_eq_true (show seq < next by omega)]; simp)
                  rw [hmb] at hms
                  have HMS := Lib.hid hms
                  clear hack hms hac hmb
                  have HM0 := Lib.hid (BX.new wr [.int .i64 seq, sv body, sv attr, .int .i64 tries, .int .i64 til, .bool dead, sv why, .int .i64 prio] 55)
                  go_wp2_with (first | (refine wpList_load_midG (by rfl) 55 (.tmp 57) rfl b (off + k2 * 8) rfl _ _ HRG.out Tryd.underlying55 rfl size57 ?_) | (refine wpList_load_midG (by rfl) 55 (.tmp 10) rfl wr.heap.size 0 rfl _ _ HR2.out Tryd.underlying55 rfl size57 ?_) | (refine wpList_load_midG (by rfl) 35 (.tmp 3) rfl w.heap.size 0 rfl _ _ HR3.out Tryd.underlying35 rfl size35 ?_) | (go_at_call 50; refine HACK.out.mono ?_; rintro e w4 ⟨rfl, rfl⟩) | (go_at_call 51; refine HMS.out.mono ?_; rintro e w5 ⟨rfl, hb5⟩; have HB5 := Lib.hid (HBM.out.trans (hb5.mono HBM.out.size)); have c0 := (HM0.out.below hb5).cell (i := 0) (by simp); simp only [List.getElem_cons_zero] at c0; clear hb5))
                  go_roundw
                  case rel => exact ⟨k2 + 1, seq, by omega, by go_num, rfl, HN.out, HB5.out⟩
                  case measure => simp [intOf]; omega
        · have q1 : ¬ (k2 : Int) < (queue.length : Int) := by omega
          have HE := Lib.hid (show r = true by rw [← HAK.out, HST2.out, List.drop_of_length_le (by omega)]; rfl)
          go_wp2
          go_ret
          exact ⟨by rw [HE.out]; rfl, HBW.out⟩
end Go.Proofs.YtcmkmdghekkkhaaDoor
