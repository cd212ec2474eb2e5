/-
  A subscription that a call hands back, put into a box of its own (layer state). No program but the seat's types.; What a state in a box is stored over, the subscriptions that are read stay as they read (layer state). No program but the seat's types.; The contract of the document's own Long, of states whose lengths do not wrap (layer state).; A state that a call hands back, put into a box of its own (layer state). No program but the seat's types.
-/
import Derived.Laws.Tables
import Derived.Test.YtcmkmdghekkkhaaDoorKRBF
set_option linter.unusedVariables false
set_option linter.unusedVariables false
namespace Go.Proofs.YtcmkmdghekkkhaaDoor
open Go.RowKit Go.Rst Go.Tp Go.Ts
def boxW (w : World) (C : List Value) : World := (w.alloc (.cells #[.int .i64 0, .string ⟨#[]⟩, .string ⟨#[]⟩, .string ⟨#[]⟩, .int .i64 0, .int .i64 0, .int .i64 0, .slice none 0 0, .slice none 0 0, .string ⟨#[]⟩] 35)).setRow w.heap.size C.toArray
theorem box_def (w : World) (C : List Value) : (w.alloc (.cells #[.int .i64 0, .string ⟨#[]⟩, .string ⟨#[]⟩, .string ⟨#[]⟩, .int .i64 0, .int .i64 0, .int .i64 0, .slice none 0 0, .slice none 0 0, .string ⟨#[]⟩] 35)).setRow w.heap.size C.toArray = boxW w C := rfl
theorem box_below (w : World) (C : List Value) : Below w.heap.size w (boxW w C) := below_setRow ((Below.refl _ w).alloc (Nat.le_refl _) _) (Nat.le_refl _) _
theorem box_wh (w : World) (C : List Value) : Wh (boxW w C) w.heap.size C 35 := (Wh.new w [.int .i64 0, .string ⟨#[]⟩, .string ⟨#[]⟩, .string ⟨#[]⟩, .int .i64 0, .int .i64 0, .int .i64 0, .slice none 0 0, .slice none 0 0, .string ⟨#[]⟩] 35).set C
theorem box_size (w : World) (C : List Value) : (boxW w C).heap.size = w.heap.size + 1 := by simp [boxW]
theorem box_old (w : World) : Wh (w.alloc (.cells #[.int .i64 0, .string ⟨#[]⟩, .string ⟨#[]⟩, .string ⟨#[]⟩, .int .i64 0, .int .i64 0, .int .i64 0, .slice none 0 0, .slice none 0 0, .string ⟨#[]⟩] 35)) w.heap.size [.int .i64 0, .string ⟨#[]⟩, .string ⟨#[]⟩, .string ⟨#[]⟩, .int .i64 0, .int .i64 0, .int .i64 0, .slice none 0 0, .slice none 0 0, .string ⟨#[]⟩] 35 := Wh.new w [.int .i64 0, .string ⟨#[]⟩, .string ⟨#[]⟩, .string ⟨#[]⟩, .int .i64 0, .int .i64 0, .int .i64 0, .slice none 0 0, .slice none 0 0, .string ⟨#[]⟩] 35
structure Cub (C : List Value) : Prop where
  len : C.length = 10
  all : C.toArray.all (·.oneCell') = true
theorem Cub.mk_ (x : Sub) {av qv : Value} (ha : av.oneCell' = true) (hq : qv.oneCell' = true) : Cub (subC x av qv) := ⟨rfl, sub_all x ha hq⟩
theorem Cub.old {C : List Value} (h : Cub C) : (#[.int .i64 0, .string ⟨#[]⟩, .string ⟨#[]⟩, .string ⟨#[]⟩, .int .i64 0, .int .i64 0, .int .i64 0, .slice none 0 0, .slice none 0 0, .string ⟨#[]⟩] : Array Value).size = C.toArray.size := by simp [h.len]
theorem Cub.info {C : List Value} (h : Cub C) : (Tryd.prog.info? 35).map (·.size) = some C.toArray.size := by simp [h.len, size35]
theorem Cub.infoL {C : List Value} (h : Cub C) : (Tryd.prog.info? 35).map (·.size) = some C.length := by rw [h.len]; exact size35
end Go.Proofs.YtcmkmdghekkkhaaDoor
set_option linter.unusedVariables false
namespace Go.Proofs.YtcmkmdghekkkhaaDoor
open Go.RowKit Go.Rst Go.Tp Go.Ts
structure Kp (W W' : World) (b : Nat) : Prop where
  size : W.heap.size ≤ W'.heap.size
  other : ∀ k, k ≠ b → k < W.heap.size → W'.heap[k]? = W.heap[k]?
  four : ∀ off, 4 ≤ off → W.cell? ⟨b, off, none⟩ = none
theorem cells_kp {W W' : World} {b p off : Nat} {cs : List Value} (hk : Kp W W' b) (hp : p < W.heap.size) (h : CellsAt W p off cs) (hl : 5 ≤ cs.length) : CellsAt W' p off cs := by
  have hne : p ≠ b := by
    rintro rfl
    have := h 4 (by omega)
    rw [hk.four (off + 4) (by omega)] at this
    cases this
  exact cells_block h (hk.other p hne hp)
theorem ri_kp {W W' : World} {b : Nat} (hk : Kp W W' b) {v : Value} {l : List Int} (hI : ∀ n ∈ l, ∀ off, W.cell? ⟨b, off, none⟩ = some (.int .i64 n) → W'.cell? ⟨b, off, none⟩ = some (.int .i64 n)) (h : Go.Ts.RI W v l) : Go.Ts.RI W' v l := by
  obtain ⟨A, c, h1, h2, h3, h4⟩ := h
  refine ⟨A, c, h1, h2, h3, ?_⟩
  rcases h4 with h4 | ⟨p, off, h5, h6, h7⟩
  · exact .inl h4
  · refine .inr ⟨p, off, h5, Nat.lt_of_lt_of_le h6 hk.size, fun j hj => ?_⟩
    obtain ⟨cs, h8, h9⟩ := h7 j hj
    refine ⟨cs, h8, fun i hi => ?_⟩
    have hc := h9 i hi
    by_cases e : p = b
    · subst e
      have h8 : cs = [.int .i64 l[j]] := h8
      subst h8
      obtain rfl : i = 0 := by simp at hi; omega
      exact hI _ (List.getElem_mem hj) _ hc
    · rw [← hc]
      simp only [World.cell?, hk.other p e h6]
theorem rm_kp {W W' : World} {b : Nat} (hk : Kp W W' b) {v : Value} {l : List Msg} (h : RM W v l) : RM W' v l := by
  obtain ⟨A, c, h1, h2, h3, h4⟩ := h
  refine ⟨A, c, h1, h2, h3, ?_⟩
  rcases h4 with h4 | ⟨p, off, h5, h6, h7⟩
  · exact .inl h4
  · refine .inr ⟨p, off, h5, Nat.lt_of_lt_of_le h6 hk.size, fun j hj => ?_⟩
    obtain ⟨cs, h8, h9⟩ := h7 j hj
    exact ⟨cs, h8, cells_kp hk h6 h9 (by rw [show cs = msgC l[j] from h8]; simp [msgC])⟩
theorem rs_kp {W W' : World} {b : Nat} (hk : Kp W W' b) {v : Value} {l : List Sub} (hI : ∀ x ∈ l, ∀ n ∈ x.acks, ∀ off, W.cell? ⟨b, off, none⟩ = some (.int .i64 n) → W'.cell? ⟨b, off, none⟩ = some (.int .i64 n)) (h : RS W v l) : RS W' v l := by
  obtain ⟨A, c, h1, h2, h3, h4⟩ := h
  refine ⟨A, c, h1, h2, h3, ?_⟩
  rcases h4 with h4 | ⟨p, off, h5, h6, h7⟩
  · exact .inl h4
  · refine .inr ⟨p, off, h5, Nat.lt_of_lt_of_le h6 hk.size, fun j hj => ?_⟩
    obtain ⟨cs, ⟨av, qv, e1, e2, e3⟩, h9⟩ := h7 j hj
    exact ⟨cs, ⟨av, qv, e1, ri_kp hk (hI _ (List.getElem_mem hj)) e2, rm_kp hk e3⟩, cells_kp hk h6 h9 (by rw [e1]; simp [subC])⟩
theorem kp_state {W : World} {b : Nat} {c n l : Int} {v : Value} {t : TypeId} (h : Wh W b (stC c n l v) t) (cs : Array Value) : Kp W (W.setRow b cs) b :=
  ⟨by simp, fun k hk _ => setRow_other W b k cs hk, fun off ho => by
    rw [cell_of_row W b off (stC c n l v).toArray t (0, 0) h]
    simp [stC, ho]⟩
theorem rs_state {W : World} {b : Nat} {c n l : Int} {A0 : Option Addr} {n0 c0 : Nat} {u : Value} {t : TypeId} (h : Wh W b (stC c n l (.slice A0 n0 c0)) t) {sv : Value} {xs : List Sub} (hr : RS W sv xs) : RS (W.setRow b (stC c n l u).toArray) sv xs := by
  refine rs_kp (kp_state h _) (fun x _ m _ off ho => ?_) hr
  rw [cell_of_row W b off (stC c n l (.slice A0 n0 c0)).toArray t (0, 0) h] at ho
  rw [cell_of_row _ b off (stC c n l u).toArray t (0, 0) (h.set (stC c n l u))]
  match off, ho with
  | 0, ho => simpa [stC] using ho
  | 1, ho => simpa [stC] using ho
  | 2, ho => simpa [stC] using ho
  | 3, ho => simp [stC] at ho
  | k + 4, ho => simp [stC] at ho
theorem rs_zero {W : World} {b : Nat} {t : TypeId} (h : Wh W b (stC 0 0 0 (.slice none 0 0)) t) {sv : Value} {xs : List Sub} (hr : RS W sv xs) (hn : ∀ x ∈ xs, ∀ n ∈ x.acks, n ≠ 0) (cs : Array Value) : RS (W.setRow b cs) sv xs := by
  refine rs_kp (kp_state h _) (fun x hx m hm off ho => ?_) hr
  rw [cell_of_row W b off (stC 0 0 0 (.slice none 0 0)).toArray t (0, 0) h] at ho
  exfalso
  have h0 := hn x hx m hm
  match off, ho with
  | 0, ho => simp [stC] at ho; omega
  | 1, ho => simp [stC] at ho; omega
  | 2, ho => simp [stC] at ho; omega
  | 3, ho => simp [stC] at ho
  | k + 4, ho => simp [stC] at ho
end Go.Proofs.YtcmkmdghekkkhaaDoor
set_option linter.unusedVariables false
set_option linter.unusedSimpArgs false
namespace Go.Ts
def lenM (m : Msg) : Nat := 1 + m.body.length + m.attr.length + m.why.length
def sumM (q : List Msg) : Nat := (q.map lenM).sum
def lenH (x : Sub) : Nat := 1 + x.name.length + x.topic.length + x.want.length + x.note.length + x.acks.length
def totL (xs : List Sub) : Nat := (xs.map fun x => lenH x + sumM x.queue).sum
theorem sumM_take {q : List Msg} {k : Nat} (hk : k < q.length) : sumM (q.take (k + 1)) = sumM (q.take k) + lenM q[k] := by
  unfold sumM
  rw [List.take_succ_eq_append_getElem hk, List.map_append, List.sum_append]
  simp
theorem totL_take {xs : List Sub} {k : Nat} (hk : k < xs.length) : totL (xs.take (k + 1)) = totL (xs.take k) + (lenH xs[k] + sumM xs[k].queue) := by
  unfold totL
  rw [List.take_succ_eq_append_getElem hk, List.map_append, List.sum_append]
  simp
theorem sum_take_le : ∀ (l : List Nat) (k : Nat), (l.take k).sum ≤ l.sum
  | [], _ => by simp
  | _ :: _, 0 => by simp
  | a :: l, k + 1 => by have := sum_take_le l k; simp only [List.take_succ_cons, List.sum_cons]; omega
theorem totL_le (xs : List Sub) (k : Nat) : totL (xs.take k) ≤ totL xs := by unfold totL; rw [List.map_take]; exact sum_take_le _ _
theorem sumM_le (q : List Msg) (k : Nat) : sumM (q.take k) ≤ sumM q := by unfold sumM; rw [List.map_take]; exact sum_take_le _ _
end Go.Ts
namespace Go.Proofs.YtcmkmdghekkkhaaDoor
open Go.RowKit Go.Rst Go.Tp Go.Ts
set_option maxRecDepth 100000 in
set_option maxHeartbeats 8000000 in
theorem long_any (c n l : Int) (v : Value) (xs : List Sub) (w : World) (h : RS w v xs) (ht : totL xs ≤ 1000000000) :
    Calls Tryd.prog 8 #[.agg (stC c n l v).toArray] w fun e w' => e = .returned (.int .i64 (totL xs : Nat)) ∧ Below w.heap.size w w' := by
  obtain ⟨A1, k1, rfl, _, h1⟩ := h.shape
  unfold maxLen at h1
  have HA := Lib.hid h
  clear h
  obtain ⟨W0, hW0⟩ : ∃ W0, W0 = w.alloc (.cells #[.int .i64 c, .int .i64 n, .int .i64 l, .slice A1 xs.length k1] 24) := ⟨_, rfl⟩
  have hb0 : Below w.heap.size w W0 := by rw [hW0]; exact (Below.refl w.heap.size w).alloc (Nat.le_refl _) _
  have hx0 : Wh W0 w.heap.size [.int .i64 c, .int .i64 n, .int .i64 l, .slice A1 xs.length k1] 24 := by rw [hW0]; exact Wh.new w _ _
  have HB0 := Lib.hid hb0
  have HX0 := Lib.hid hx0
  clear hb0 hx0
  simp only [stC]
  go_enter Tryd.func8, Tryd.ntmps8
  go_wp2_with fail
  rw [← hW0]
  clear hW0
  go_loopw [3, 4] (fun sv iv wr => ∃ i : Nat, i ≤ xs.length ∧ iv = .int .i64 i ∧ sv = .int .i64 (totL (xs.take i) : Nat) ∧ Below W0.heap.size W0 wr) (fun _ iv _ => xs.length - (intOf iv).toNat)
  case atStart => exact ⟨0, Nat.zero_le _, rfl, rfl, Below.refl _ _⟩
  case round =>
    obtain ⟨i, hi, rfl, rfl, hbel⟩ := hrel
    have HBW := Lib.hid (HB0.out.trans (hbel.mono HB0.out.size))
    have HBL := Lib.hid hbel
    have hx := HX0.out.below hbel
    have c3 := hx.bx.cell (i := 3) (by simp)
    simp only [List.getElem_cons_succ, List.getElem_cons_zero] at c3
    clear hbel hx
    by_cases hlt : i < xs.length
    · obtain ⟨b1, o1, avm, qvm, rfl, hb1, hgm, ham, hqm⟩ := rs_at HA.out hlt
      have q1 : (i : Int) < (xs.length : Int) := by omega
      have htt := totL_take hlt
      have hle := totL_le xs (i + 1)
      obtain ⟨x, hx⟩ : ∃ x, x = xs[i] := ⟨_, rfl⟩
      rw [← hx] at hgm ham hqm htt
      obtain ⟨aa, ka, rfl, _⟩ := ham.shape
      obtain ⟨aq, kq, rfl, _, hkq⟩ := hqm.shape
      unfold maxLen at hkq
      obtain ⟨C, hC⟩ : ∃ C, C = subC x (.slice aa x.acks.length ka) (.slice aq x.queue.length kq) := ⟨_, rfl⟩
      have HC := Lib.hid (show Cub C by rw [hC]; exact Cub.mk_ x rfl rfl)
      rw [← hC] at hgm
      have HM0 := Lib.hid (range_below hgm hb1 HBW.out)
      have hwx := box_wh wr C
      have d1 := hwx.bx.cell (i := 1) (by rw [HC.out.len]; omega)
      have d2 := hwx.bx.cell (i := 2) (by rw [HC.out.len]; omega)
      have d3 := hwx.bx.cell (i := 3) (by rw [HC.out.len]; omega)
      have d7 := hwx.bx.cell (i := 7) (by rw [HC.out.len]; omega)
      have d9 := hwx.bx.cell (i := 9) (by rw [HC.out.len]; omega)
      have e1 : C[1]'(by rw [HC.out.len]; omega) = sv x.name := by subst hC; rfl
      have e2 : C[2]'(by rw [HC.out.len]; omega) = sv x.topic := by subst hC; rfl
      have e3 : C[3]'(by rw [HC.out.len]; omega) = sv x.want := by subst hC; rfl
      have e7 : C[7]'(by rw [HC.out.len]; omega) = .slice aa x.acks.length ka := by subst hC; rfl
      have e8 : C[8]'(by rw [HC.out.len]; omega) = .slice aq x.queue.length kq := by subst hC; rfl
      have e9 : C[9]'(by rw [HC.out.len]; omega) = sv x.note := by subst hC; rfl
      rw [e1] at d1
      rw [e2] at d2
      rw [e3] at d3
      rw [e7] at d7
      rw [e9] at d9
      have HWX := Lib.hid hwx
      have HE8 := Lib.hid e8
      have HQM := Lib.hid hqm
      obtain ⟨T0, hT0⟩ : ∃ T0, T0 = totL (xs.take i) := ⟨_, rfl⟩
      rw [← hT0] at htt ⊢
      have HT0 := Lib.hid hT0
      have HTT := Lib.hid htt
      have hlh : lenH x = 1 + x.name.length + x.topic.length + x.want.length + x.note.length + x.acks.length := rfl
      have hbnd : T0 + (lenH x + sumM x.queue) ≤ 1000000000 := by omega
      have HBN := Lib.hid hbnd
      have g1 : (T0 : Int) + (1 + x.name.length + x.topic.length + x.want.length + x.note.length + x.acks.length) ≤ 1000000000 := by omega
      have HBV := Lib.hid (HBL.out.trans ((box_below wr C).mono HBL.out.size))
      have HLH := Lib.hid hlh
      clear hx hC hgm ham hqm htt hle hwx e1 e2 e3 e7 e8 e9 hT0 hlh hbnd
      go_wp2_with (first | (refine wpList_load_midG (by rfl) 35 (.tmp 17) rfl b1 (o1 + i * 10) rfl _ _ HM0.out Tryd.underlying35 rfl HC.out.infoL ?_) | (refine wpList_store_row rfl 35 (.tmp 5) (.tmp 18) rfl wr.heap.size C.toArray rfl rfl 35 #[.int .i64 0, .string ⟨#[]⟩, .string ⟨#[]⟩, .string ⟨#[]⟩, .int .i64 0, .int .i64 0, .int .i64 0, .slice none 0 0, .slice none 0 0, .string ⟨#[]⟩] (box_old wr) HC.out.info HC.out.old HC.out.all ?_; rw [box_def]))
      obtain ⟨wo, hwo⟩ : ∃ wo, wo = wr := ⟨_, rfl⟩
      subst hwo
      clear d1 d2 d3 d7 d9 c3
      go_loopw [3, 6] (fun sv kv wk => ∃ (k t : Nat), k ≤ x.queue.length ∧ kv = .int .i64 k ∧ sv = .int .i64 (t : Nat) ∧ t = T0 + lenH x + sumM (x.queue.take k) ∧ Below (wo.heap.size + 1) (boxW wo C) wk) (fun _ kv _ => x.queue.length - (intOf kv).toNat)
      case atStart => exact ⟨0, T0 + lenH x, Nat.zero_le _, rfl, by rw [HLH.out]; push_cast; rfl, rfl, Below.refl _ _⟩
      case round =>
        obtain ⟨k, t, hk, rfl, rfl, htq, hbk⟩ := hrel
        have hbs := box_size wo C
        have hwk := HWX.out.below (by rw [hbs]; exact hbk)
        have hlb := hwk.lt
        have d8 := hwk.bx.cell (i := 8) (by rw [HC.out.len]; omega)
        rw [HE8.out] at d8
        have HBK := Lib.hid (HBV.out.trans (hbk.mono (by have := HBV.out.size; omega)))
        have HBI := Lib.hid hbk
        have HTQ := Lib.hid htq
        have hsl := sumM_le x.queue k
        have hlim : t ≤ 1000000000 := by have := HBN.out; omega
        clear hbs hwk hbk htq
        by_cases hkl : k < x.queue.length
        · obtain ⟨bq, oq, haq, hbq0, hmr⟩ := rm_at HQM.out hkl
          have HAQ := Lib.hid haq
          subst haq
          have hbw : Below w.heap.size w wr := HBW.out.trans ((box_below wo C).mono HBW.out.size |>.trans (HBI.out.mono (by have := HBW.out.size; omega)))
          have hbq : bq < wr.heap.size := Nat.lt_of_lt_of_le hbq0 hbw.size
          have htk := sumM_take hkl
          obtain ⟨m, hm⟩ : ∃ m, m = x.queue[k] := ⟨_, rfl⟩
          rw [← hm] at hmr htk
          have HMR := Lib.hid (range_below hmr hbq0 hbw)
          have hsl2 := sumM_le x.queue (k + 1)
          have hlm : t + lenM m ≤ 1000000000 := by have := HBN.out; have := HTQ.out; omega
          have hlm2 : lenM m = 1 + m.body.length + m.attr.length + m.why.length := rfl
          have g2 : (t : Int) + (1 + m.body.length + m.attr.length + m.why.length) ≤ 1000000000 := by omega
          have HTK := Lib.hid htk
          have q3 : (k : Int) < (x.queue.length : Int) := by omega
          clear hm hmr htk hbw hsl2 hlm2 hbq0
          go_wp2_with fail
          refine wp_region_held_drew (S := SB [wr]) (by kernel_rfl) (SB.start _) (fun hHeld => ?_)
          refine tkC 0 ?_
          refine tkC 1 ?_
          refine tkA 2 (v := .slice (some ⟨bq, oq, none⟩) x.queue.length kq) ?_ ?_
          · intro W hSw; have hq := (SB.b0 hSw).cell (p := ⟨wo.heap.size, 8, none⟩) hlb |>.trans d8; go_simp; try (with_reducible rfl)
          try simp only [Act.put, zA, zB, zC]
          refine tkC 3 ?_
          refine tkA 4 (v := .pointer (some ⟨bq, oq + k * 8, none⟩)) ?_ ?_
          · intro W hSw; go_simp; try (with_reducible rfl)
          try simp only [Act.put, zA, zB, zC]
          refine tkC 5 ?_
          refine tkA 6 (v := sv m.body) ?_ ?_
          · intro W hSw; have hq := (range_below HMR.out hbq (SB.b0 hSw)) 1 (sv m.body) (by rfl); go_simp; try (with_reducible rfl)
          try simp only [Act.put, zA, zB, zC]
          refine tkA 7 (v := .int .i64 (m.body.length : Nat)) ?_ ?_
          · intro W hSw; go_simp; try (first | done | simp)
          try simp only [Act.put, zA, zB, zC]
          refine tkA 8 (v := .int .i64 (1 + (m.body.length : Nat))) ?_ ?_
          · intro W hSw; go_simp; try (first | done | go_num | (rw [IntKind.wrap_i64]; omega))
          try simp only [Act.put, zA, zB, zC]
          refine tkC 9 ?_
          refine tkA 10 (v := .slice (some ⟨bq, oq, none⟩) x.queue.length kq) ?_ ?_
          · intro W hSw; have hq := (SB.b0 hSw).cell (p := ⟨wo.heap.size, 8, none⟩) hlb |>.trans d8; go_simp; try (with_reducible rfl)
          try simp only [Act.put, zA, zB, zC]
          refine tkC 11 ?_
          refine tkA 12 (v := .pointer (some ⟨bq, oq + k * 8, none⟩)) ?_ ?_
          · intro W hSw; go_simp; try (with_reducible rfl)
          try simp only [Act.put, zA, zB, zC]
          refine tkC 13 ?_
          refine tkA 14 (v := sv m.attr) ?_ ?_
          · intro W hSw; have hq := (range_below HMR.out hbq (SB.b0 hSw)) 2 (sv m.attr) (by rfl); go_simp; try (with_reducible rfl)
          try simp only [Act.put, zA, zB, zC]
          refine tkA 15 (v := .int .i64 (m.attr.length : Nat)) ?_ ?_
          · intro W hSw; go_simp; try (first | done | simp)
          try simp only [Act.put, zA, zB, zC]
          refine tkA 16 (v := .int .i64 (1 + (m.body.length : Nat) + (m.attr.length : Nat))) ?_ ?_
          · intro W hSw; go_simp; try (first | done | go_num | (rw [IntKind.wrap_i64]; omega))
          try simp only [Act.put, zA, zB, zC]
          refine tkC 17 ?_
          refine tkA 18 (v := .slice (some ⟨bq, oq, none⟩) x.queue.length kq) ?_ ?_
          · intro W hSw; have hq := (SB.b0 hSw).cell (p := ⟨wo.heap.size, 8, none⟩) hlb |>.trans d8; go_simp; try (with_reducible rfl)
          try simp only [Act.put, zA, zB, zC]
          refine tkC 19 ?_
          refine tkA 20 (v := .pointer (some ⟨bq, oq + k * 8, none⟩)) ?_ ?_
          · intro W hSw; go_simp; try (with_reducible rfl)
          try simp only [Act.put, zA, zB, zC]
          refine tkC 21 ?_
          refine tkA 22 (v := sv m.why) ?_ ?_
          · intro W hSw; have hq := (range_below HMR.out hbq (SB.b0 hSw)) 6 (sv m.why) (by rfl); go_simp; try (with_reducible rfl)
          try simp only [Act.put, zA, zB, zC]
          refine tkA 23 (v := .int .i64 (m.why.length : Nat)) ?_ ?_
          · intro W hSw; go_simp; try (first | done | simp)
          try simp only [Act.put, zA, zB, zC]
          refine tkA 24 (v := .int .i64 (1 + (m.body.length : Nat) + (m.attr.length : Nat) + (m.why.length : Nat))) ?_ ?_
          · intro W hSw; go_simp; try (first | done | go_num | (rw [IntKind.wrap_i64]; omega))
          try simp only [Act.put, zA, zB, zC]
          refine tkA 25 (v := .int .i64 ((t : Nat) + (1 + (m.body.length : Nat) + (m.attr.length : Nat) + (m.why.length : Nat)))) ?_ ?_
          · intro W hSw; go_simp; try (first | done | go_num | (rw [IntKind.wrap_i64]; omega))
          try simp only [Act.put, zA, zB, zC]
          refine tkC 26 ?_
          refine wpAnyH_done (by kernel_rfl) ?_ _
          have HBD := Lib.hid (HBI.out.trans ((SB.b0 hHeld).mono (by have := HBI.out.size; have := box_size wo C; omega)))
          clear hHeld d8
          go_wp2
          go_roundw
          case rel => exact ⟨k + 1, t + lenM m, by omega, by go_num, by unfold lenM; push_cast; rfl, by rw [HTQ.out, HTK.out]; omega, HBD.out⟩
          case measure => simp [intOf]; omega
        · have q3 : ¬ (k : Int) < (x.queue.length : Int) := by omega
          have hend : sumM (x.queue.take k) = sumM x.queue := by rw [List.take_of_length_le (by omega)]
          have HEN := Lib.hid (show t = totL (xs.take (i + 1)) by rw [HTT.out, HTQ.out, hend]; omega)
          clear hend
          go_wp2
          go_roundw
          case rel => exact ⟨i + 1, by omega, by go_num, by rw [HEN.out], HBK.out⟩
          case measure => simp [intOf]; omega
    · have q1 : ¬ (i : Int) < (xs.length : Int) := by omega
      have hend : totL (xs.take i) = totL xs := by rw [List.take_of_length_le (by omega)]
      rw [hend]
      go_wp2
      go_ret
      exact ⟨rfl, HBW.out⟩
end Go.Proofs.YtcmkmdghekkkhaaDoor
set_option linter.unusedVariables false
namespace Go.Proofs.YtcmkmdghekkkhaaDoor
open Go.RowKit Go.Rst Go.Tp Go.Ts
def boxT (w : World) (C : List Value) : World := (w.alloc (.cells #[.int .i64 0, .int .i64 0, .int .i64 0, .slice none 0 0] 24)).setRow w.heap.size C.toArray
theorem boxT_def (w : World) (C : List Value) : (w.alloc (.cells #[.int .i64 0, .int .i64 0, .int .i64 0, .slice none 0 0] 24)).setRow w.heap.size C.toArray = boxT w C := rfl
theorem boxT_below (w : World) (C : List Value) : Below w.heap.size w (boxT w C) := below_setRow ((Below.refl _ w).alloc (Nat.le_refl _) _) (Nat.le_refl _) _
theorem boxT_wh (w : World) (C : List Value) : Wh (boxT w C) w.heap.size C 24 := (Wh.new w [.int .i64 0, .int .i64 0, .int .i64 0, .slice none 0 0] 24).set C
theorem boxT_old (w : World) : Wh (w.alloc (.cells #[.int .i64 0, .int .i64 0, .int .i64 0, .slice none 0 0] 24)) w.heap.size [.int .i64 0, .int .i64 0, .int .i64 0, .slice none 0 0] 24 := Wh.new w _ _
structure Cut (C : List Value) : Prop where
  len : C.length = 4
  all : C.toArray.all (·.oneCell') = true
theorem Cut.mk_ (c n l : Int) {v : Value} (hv : v.oneCell' = true) : Cut (stC c n l v) := ⟨rfl, st_all c n l hv⟩
theorem Cut.old {C : List Value} (h : Cut C) : (#[.int .i64 0, .int .i64 0, .int .i64 0, .slice none 0 0] : Array Value).size = C.toArray.size := by simp [h.len]
theorem Cut.info {C : List Value} (h : Cut C) : (Tryd.prog.info? 24).map (·.size) = some C.toArray.size := by simp [h.len, size24]
theorem Cut.infoL {C : List Value} (h : Cut C) : (Tryd.prog.info? 24).map (·.size) = some C.length := by rw [h.len]; exact size24
end Go.Proofs.YtcmkmdghekkkhaaDoor
