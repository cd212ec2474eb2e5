/-
  A subscription that a call hands back, put into a box of its own (layer state). No program but the seat's types.; A state that a call hands back, put into a box of its own (layer state). No program but the seat's types.; The contract of the document's own Long, of any state: some number (layer state).; What a state in a box is stored over, the subscriptions that are read stay as they read (layer state). No program but the seat's types.
-/
import Derived.Laws.Tables
import Derived.Test.YtjppomhfillflaaGreatDoorKCBC
set_option linter.unusedVariables false
set_option linter.unusedVariables false
namespace Go.Proofs.YtjppomhfillflaaGreatDoor
open Go.RowKit Go.Rst Go.Tp Go.Ts
def boxW (w : World) (C : List Value) : World := (w.alloc (.cells #[.int .i64 0, .string ⟨#[]⟩, .string ⟨#[]⟩, .string ⟨#[]⟩, .int .i64 0, .int .i64 0, .int .i64 0, .slice none 0 0, .slice none 0 0, .string ⟨#[]⟩] 28)).setRow w.heap.size C.toArray
theorem box_def (w : World) (C : List Value) : (w.alloc (.cells #[.int .i64 0, .string ⟨#[]⟩, .string ⟨#[]⟩, .string ⟨#[]⟩, .int .i64 0, .int .i64 0, .int .i64 0, .slice none 0 0, .slice none 0 0, .string ⟨#[]⟩] 28)).setRow w.heap.size C.toArray = boxW w C := rfl
theorem box_below (w : World) (C : List Value) : Below w.heap.size w (boxW w C) := below_setRow ((Below.refl _ w).alloc (Nat.le_refl _) _) (Nat.le_refl _) _
theorem box_wh (w : World) (C : List Value) : Wh (boxW w C) w.heap.size C 28 := (Wh.new w [.int .i64 0, .string ⟨#[]⟩, .string ⟨#[]⟩, .string ⟨#[]⟩, .int .i64 0, .int .i64 0, .int .i64 0, .slice none 0 0, .slice none 0 0, .string ⟨#[]⟩] 28).set C
theorem box_size (w : World) (C : List Value) : (boxW w C).heap.size = w.heap.size + 1 := by simp [boxW]
theorem box_old (w : World) : Wh (w.alloc (.cells #[.int .i64 0, .string ⟨#[]⟩, .string ⟨#[]⟩, .string ⟨#[]⟩, .int .i64 0, .int .i64 0, .int .i64 0, .slice none 0 0, .slice none 0 0, .string ⟨#[]⟩] 28)) w.heap.size [.int .i64 0, .string ⟨#[]⟩, .string ⟨#[]⟩, .string ⟨#[]⟩, .int .i64 0, .int .i64 0, .int .i64 0, .slice none 0 0, .slice none 0 0, .string ⟨#[]⟩] 28 := Wh.new w [.int .i64 0, .string ⟨#[]⟩, .string ⟨#[]⟩, .string ⟨#[]⟩, .int .i64 0, .int .i64 0, .int .i64 0, .slice none 0 0, .slice none 0 0, .string ⟨#[]⟩] 28
structure Cub (C : List Value) : Prop where
  len : C.length = 10
  all : C.toArray.all (·.oneCell') = true
theorem Cub.mk_ (x : Sub) {av qv : Value} (ha : av.oneCell' = true) (hq : qv.oneCell' = true) : Cub (subC x av qv) := ⟨rfl, sub_all x ha hq⟩
theorem Cub.old {C : List Value} (h : Cub C) : (#[.int .i64 0, .string ⟨#[]⟩, .string ⟨#[]⟩, .string ⟨#[]⟩, .int .i64 0, .int .i64 0, .int .i64 0, .slice none 0 0, .slice none 0 0, .string ⟨#[]⟩] : Array Value).size = C.toArray.size := by simp [h.len]
theorem Cub.info {C : List Value} (h : Cub C) : (Tryz.prog.info? 28).map (·.size) = some C.toArray.size := by simp [h.len, size35]
theorem Cub.infoL {C : List Value} (h : Cub C) : (Tryz.prog.info? 28).map (·.size) = some C.length := by rw [h.len]; exact size35
end Go.Proofs.YtjppomhfillflaaGreatDoor
set_option linter.unusedVariables false
namespace Go.Proofs.YtjppomhfillflaaGreatDoor
open Go.RowKit Go.Rst Go.Tp Go.Ts
def boxT (w : World) (C : List Value) : World := (w.alloc (.cells #[.int .i64 0, .int .i64 0, .int .i64 0, .slice none 0 0] 24)).setRow w.heap.size C.toArray
theorem boxT_def (w : World) (C : List Value) : (w.alloc (.cells #[.int .i64 0, .int .i64 0, .int .i64 0, .slice none 0 0] 24)).setRow w.heap.size C.toArray = boxT w C := rfl
theorem boxT_below (w : World) (C : List Value) : Below w.heap.size w (boxT w C) := below_setRow ((Below.refl _ w).alloc (Nat.le_refl _) _) (Nat.le_refl _) _
theorem boxT_wh (w : World) (C : List Value) : Wh (boxT w C) w.heap.size C 24 := (Wh.new w [.int .i64 0, .int .i64 0, .int .i64 0, .slice none 0 0] 24).set C
theorem boxT_old (w : World) : Wh (w.alloc (.cells #[.int .i64 0, .int .i64 0, .int .i64 0, .slice none 0 0] 24)) w.heap.size [.int .i64 0, .int .i64 0, .int .i64 0, .slice none 0 0] 24 := Wh.new w _ _
structure Cut (C : List Value) : Prop where
  len : C.length = 4
  all : C.toArray.all (·.oneCell') = true
theorem Cut.mk_ (c n l : Int) {v : Value} (hv : v.oneCell' = true) : Cut (stC c n l v) := ⟨rfl, st_all c n l hv⟩
theorem Cut.old {C : List Value} (h : Cut C) : (#[.int .i64 0, .int .i64 0, .int .i64 0, .slice none 0 0] : Array Value).size = C.toArray.size := by simp [h.len]
theorem Cut.info {C : List Value} (h : Cut C) : (Tryz.prog.info? 24).map (·.size) = some C.toArray.size := by simp [h.len, size24]
theorem Cut.infoL {C : List Value} (h : Cut C) : (Tryz.prog.info? 24).map (·.size) = some C.length := by rw [h.len]; exact size24
end Go.Proofs.YtjppomhfillflaaGreatDoor
set_option linter.unusedVariables false
set_option linter.unusedSimpArgs false
namespace Go.Proofs.YtjppomhfillflaaGreatDoor
open Go.RowKit Go.Rst Go.Tp Go.Ts
set_option maxRecDepth 100000 in
set_option maxHeartbeats 8000000 in
theorem long_some (c n l : Int) (v : Value) (xs : List Sub) (w : World) (h : RS w v xs) :
    Calls Tryz.prog 4 #[.agg (stC c n l v).toArray] w fun e w' => (∃ T : Int, e = .returned (.int .i64 T)) ∧ Below w.heap.size w w' := by
  obtain ⟨A1, k1, rfl, _, h1⟩ := h.shape
  unfold maxLen at h1
  have HA := Lib.hid h
  clear h
  obtain ⟨W0, hW0⟩ : ∃ W0, W0 = w.alloc (.cells #[.int .i64 c, .int .i64 n, .int .i64 l, .slice A1 xs.length k1] 24) := ⟨_, rfl⟩
  have hb0 : Below w.heap.size w W0 := by rw [hW0]; exact (Below.refl w.heap.size w).alloc (Nat.le_refl _) _
  have hx0 : Wh W0 w.heap.size [.int .i64 c, .int .i64 n, .int .i64 l, .slice A1 xs.length k1] 24 := by rw [hW0]; exact Wh.new w _ _
  have HB0 := Lib.hid hb0
  have HX0 := Lib.hid hx0
  clear hb0 hx0
  simp only [stC]
  go_enter Tryz.func4, Tryz.ntmps4
  go_wp2_with fail
  rw [← hW0]
  clear hW0
  go_loopw [3, 4] (fun sv iv wr => ∃ (i : Nat) (T0 : Int), i ≤ xs.length ∧ iv = .int .i64 i ∧ sv = .int .i64 T0 ∧ Below W0.heap.size W0 wr) (fun _ iv _ => xs.length - (intOf iv).toNat)
  case atStart => exact ⟨0, 0, Nat.zero_le _, rfl, rfl, Below.refl _ _⟩
  case round =>
    obtain ⟨i, T0, hi, rfl, rfl, hbel⟩ := hrel
    have HBW := Lib.hid (HB0.out.trans (hbel.mono HB0.out.size))
    have HBL := Lib.hid hbel
    have hx := HX0.out.below hbel
    have c3 := hx.bx.cell (i := 3) (by simp)
    simp only [List.getElem_cons_succ, List.getElem_cons_zero] at c3
    clear hbel hx
    by_cases hlt : i < xs.length
    · obtain ⟨b1, o1, avm, qvm, rfl, hb1, hgm, ham, hqm⟩ := rs_at HA.out hlt
      have q1 : (i : Int) < (xs.length : Int) := by omega
      obtain ⟨x, hx⟩ : ∃ x, x = xs[i] := ⟨_, rfl⟩
      rw [← hx] at hgm ham hqm
      obtain ⟨aa, ka, rfl, _⟩ := ham.shape
      obtain ⟨aq, kq, rfl, _, hkq⟩ := hqm.shape
      unfold maxLen at hkq
      obtain ⟨C, hC⟩ : ∃ C, C = subC x (.slice aa x.acks.length ka) (.slice aq x.queue.length kq) := ⟨_, rfl⟩
      have HC := Lib.hid (show Cub C by rw [hC]; exact Cub.mk_ x rfl rfl)
      rw [← hC] at hgm
      have HM0 := Lib.hid (range_below hgm hb1 HBW.out)
      have hwx := box_wh wr C
      have d1 := hwx.bx.cell (i := 1) (by rw [HC.out.len]; omega)
      have d2 := hwx.bx.cell (i := 2) (by rw [HC.out.len]; omega)
      have d3 := hwx.bx.cell (i := 3) (by rw [HC.out.len]; omega)
      have d7 := hwx.bx.cell (i := 7) (by rw [HC.out.len]; omega)
      have d9 := hwx.bx.cell (i := 9) (by rw [HC.out.len]; omega)
      have e1 : C[1]'(by rw [HC.out.len]; omega) = sv x.name := by subst hC; rfl
      have e2 : C[2]'(by rw [HC.out.len]; omega) = sv x.topic := by subst hC; rfl
      have e3 : C[3]'(by rw [HC.out.len]; omega) = sv x.want := by subst hC; rfl
      have e7 : C[7]'(by rw [HC.out.len]; omega) = .slice aa x.acks.length ka := by subst hC; rfl
      have e8 : C[8]'(by rw [HC.out.len]; omega) = .slice aq x.queue.length kq := by subst hC; rfl
      have e9 : C[9]'(by rw [HC.out.len]; omega) = sv x.note := by subst hC; rfl
      rw [e1] at d1
      rw [e2] at d2
      rw [e3] at d3
      rw [e7] at d7
      rw [e9] at d9
      have HWX := Lib.hid hwx
      have HE8 := Lib.hid e8
      have HQM := Lib.hid hqm
      have HBV := Lib.hid (HBL.out.trans ((box_below wr C).mono HBL.out.size))
      clear hx hC hgm ham hqm hwx e1 e2 e3 e7 e8 e9
      go_wp2_with (first | (refine wpList_load_midG (by rfl) 28 (.tmp 17) rfl b1 (o1 + i * 10) rfl _ _ HM0.out Tryz.underlying28 rfl HC.out.infoL ?_) | (refine wpList_store_row rfl 28 (.tmp 5) (.tmp 18) rfl wr.heap.size C.toArray rfl rfl 28 #[.int .i64 0, .string ⟨#[]⟩, .string ⟨#[]⟩, .string ⟨#[]⟩, .int .i64 0, .int .i64 0, .int .i64 0, .slice none 0 0, .slice none 0 0, .string ⟨#[]⟩] (box_old wr) HC.out.info HC.out.old HC.out.all ?_; rw [box_def]))
      obtain ⟨wo, hwo⟩ : ∃ wo, wo = wr := ⟨_, rfl⟩
      subst hwo
      clear d1 d2 d3 d7 d9 c3
      go_loopw [3, 6] (fun sv kv wk => ∃ (k : Nat) (t : Int), k ≤ x.queue.length ∧ kv = .int .i64 k ∧ sv = .int .i64 t ∧ Below (wo.heap.size + 1) (boxW wo C) wk) (fun _ kv _ => x.queue.length - (intOf kv).toNat)
      case atStart => exact ⟨0, _, Nat.zero_le _, rfl, rfl, Below.refl _ _⟩
      case round =>
        obtain ⟨k, t, hk, rfl, rfl, hbk⟩ := hrel
        have hbs := box_size wo C
        have hwk := HWX.out.below (by rw [hbs]; exact hbk)
        have hlb := hwk.lt
        have d8 := hwk.bx.cell (i := 8) (by rw [HC.out.len]; omega)
        rw [HE8.out] at d8
        have HBK := Lib.hid (HBV.out.trans (hbk.mono (by have := HBV.out.size; omega)))
        have HBI := Lib.hid hbk
        clear hbs hwk hbk
        by_cases hkl : k < x.queue.length
        · obtain ⟨bq, oq, haq, hbq0, hmr⟩ := rm_at HQM.out hkl
          have HAQ := Lib.hid haq
          subst haq
          have hbw : Below w.heap.size w wr := HBW.out.trans ((box_below wo C).mono HBW.out.size |>.trans (HBI.out.mono (by have := HBW.out.size; omega)))
          have hbq : bq < wr.heap.size := Nat.lt_of_lt_of_le hbq0 hbw.size
          obtain ⟨m, hm⟩ : ∃ m, m = x.queue[k] := ⟨_, rfl⟩
          rw [← hm] at hmr
          have HMR := Lib.hid (range_below hmr hbq0 hbw)
          obtain ⟨z1, hz1⟩ : ∃ z1, z1 = IntKind.wrap .i64 (1 + (m.body.length : Int)) := ⟨_, rfl⟩
          obtain ⟨z2, hz2⟩ : ∃ z2, z2 = IntKind.wrap .i64 (z1 + (m.attr.length : Int)) := ⟨_, rfl⟩
          obtain ⟨z3, hz3⟩ : ∃ z3, z3 = IntKind.wrap .i64 (z2 + (m.why.length : Int)) := ⟨_, rfl⟩
          obtain ⟨z4, hz4⟩ : ∃ z4, z4 = IntKind.wrap .i64 (t + z3) := ⟨_, rfl⟩
          have Hz1 := Lib.hid hz1
          have Hz2 := Lib.hid hz2
          have Hz3 := Lib.hid hz3
          have Hz4 := Lib.hid hz4
          clear hz1 hz2 hz3 hz4
          have q3 : (k : Int) < (x.queue.length : Int) := by omega
          clear hm hmr hbw hbq0
          go_wp2_with fail
          refine wp_region_held_drew (S := SB [wr]) (by kernel_rfl) (SB.start _) (fun hHeld => ?_)
          refine tkC 0 ?_
          refine tkC 1 ?_
          refine tkA 2 (v := .slice (some ⟨bq, oq, none⟩) x.queue.length kq) ?_ ?_
          · intro W hSw; have hq := (SB.b0 hSw).cell (p := ⟨wo.heap.size, 8, none⟩) hlb |>.trans d8; go_simp; try (with_reducible rfl)
          try simp only [Act.put, zA, zB, zC]
          refine tkC 3 ?_
          refine tkA 4 (v := .pointer (some ⟨bq, oq + k * 8, none⟩)) ?_ ?_
          · intro W hSw; go_simp; try (with_reducible rfl)
          try simp only [Act.put, zA, zB, zC]
          refine tkC 5 ?_
          refine tkA 6 (v := sv m.body) ?_ ?_
          · intro W hSw; have hq := (range_below HMR.out hbq (SB.b0 hSw)) 1 (sv m.body) (by rfl); go_simp; try (with_reducible rfl)
          try simp only [Act.put, zA, zB, zC]
          refine tkA 7 (v := .int .i64 (m.body.length : Nat)) ?_ ?_
          · intro W hSw; go_simp; try (first | done | simp)
          try simp only [Act.put, zA, zB, zC]
          refine tkA 8 (v := .int .i64 z1) ?_ ?_
          · intro W hSw; go_simp; first | done | exact Hz1.out.symm | (rw [Hz1.out]) | trace_state
          try simp only [Act.put, zA, zB, zC]
          refine tkC 9 ?_
          refine tkA 10 (v := .slice (some ⟨bq, oq, none⟩) x.queue.length kq) ?_ ?_
          · intro W hSw; have hq := (SB.b0 hSw).cell (p := ⟨wo.heap.size, 8, none⟩) hlb |>.trans d8; go_simp; try (with_reducible rfl)
          try simp only [Act.put, zA, zB, zC]
          refine tkC 11 ?_
          refine tkA 12 (v := .pointer (some ⟨bq, oq + k * 8, none⟩)) ?_ ?_
          · intro W hSw; go_simp; try (with_reducible rfl)
          try simp only [Act.put, zA, zB, zC]
          refine tkC 13 ?_
          refine tkA 14 (v := sv m.attr) ?_ ?_
          · intro W hSw; have hq := (range_below HMR.out hbq (SB.b0 hSw)) 2 (sv m.attr) (by rfl); go_simp; try (with_reducible rfl)
          try simp only [Act.put, zA, zB, zC]
          refine tkA 15 (v := .int .i64 (m.attr.length : Nat)) ?_ ?_
          · intro W hSw; go_simp; try (first | done | simp)
          try simp only [Act.put, zA, zB, zC]
          refine tkA 16 (v := .int .i64 z2) ?_ ?_
          · intro W hSw; go_simp; first | done | exact Hz2.out.symm | (rw [Hz2.out]) | trace_state
          try simp only [Act.put, zA, zB, zC]
          refine tkC 17 ?_
          refine tkA 18 (v := .slice (some ⟨bq, oq, none⟩) x.queue.length kq) ?_ ?_
          · intro W hSw; have hq := (SB.b0 hSw).cell (p := ⟨wo.heap.size, 8, none⟩) hlb |>.trans d8; go_simp; try (with_reducible rfl)
          try simp only [Act.put, zA, zB, zC]
          refine tkC 19 ?_
          refine tkA 20 (v := .pointer (some ⟨bq, oq + k * 8, none⟩)) ?_ ?_
          · intro W hSw; go_simp; try (with_reducible rfl)
          try simp only [Act.put, zA, zB, zC]
          refine tkC 21 ?_
          refine tkA 22 (v := sv m.why) ?_ ?_
          · intro W hSw; have hq := (range_below HMR.out hbq (SB.b0 hSw)) 6 (sv m.why) (by rfl); go_simp; try (with_reducible rfl)
          try simp only [Act.put, zA, zB, zC]
          refine tkA 23 (v := .int .i64 (m.why.length : Nat)) ?_ ?_
          · intro W hSw; go_simp; try (first | done | simp)
          try simp only [Act.put, zA, zB, zC]
          refine tkA 24 (v := .int .i64 z3) ?_ ?_
          · intro W hSw; go_simp; first | done | exact Hz3.out.symm | (rw [Hz3.out]) | trace_state
          try simp only [Act.put, zA, zB, zC]
          refine tkA 25 (v := .int .i64 z4) ?_ ?_
          · intro W hSw; go_simp; first | done | exact Hz4.out.symm | (rw [Hz4.out]) | trace_state
          try simp only [Act.put, zA, zB, zC]
          refine tkC 26 ?_
          refine wpAnyH_done (by kernel_rfl) ?_ _
          have HBD := Lib.hid (HBI.out.trans ((SB.b0 hHeld).mono (by have := HBI.out.size; have := box_size wo C; omega)))
          clear hHeld d8
          go_wp2
          go_roundw
          case rel => exact ⟨k + 1, z4, by omega, by go_num, rfl, HBD.out⟩
          case measure => simp [intOf]; omega
        · have q3 : ¬ (k : Int) < (x.queue.length : Int) := by omega
          go_wp2
          go_roundw
          case rel => exact ⟨i + 1, t, by omega, by go_num, rfl, HBK.out⟩
          case measure => simp [intOf]; omega
    · have q1 : ¬ (i : Int) < (xs.length : Int) := by omega
      go_wp2
      go_ret
      exact ⟨⟨_, rfl⟩, HBW.out⟩
end Go.Proofs.YtjppomhfillflaaGreatDoor
set_option linter.unusedVariables false
namespace Go.Proofs.YtjppomhfillflaaGreatDoor
open Go.RowKit Go.Rst Go.Tp Go.Ts
structure Kp (W W' : World) (b : Nat) : Prop where
  size : W.heap.size ≤ W'.heap.size
  other : ∀ k, k ≠ b → k < W.heap.size → W'.heap[k]? = W.heap[k]?
  four : ∀ off, 4 ≤ off → W.cell? ⟨b, off, none⟩ = none
theorem cells_kp {W W' : World} {b p off : Nat} {cs : List Value} (hk : Kp W W' b) (hp : p < W.heap.size) (h : CellsAt W p off cs) (hl : 5 ≤ cs.length) : CellsAt W' p off cs := by
  have hne : p ≠ b := by
    rintro rfl
    have := h 4 (by omega)
    rw [hk.four (off + 4) (by omega)] at this
    cases this
  exact cells_block h (hk.other p hne hp)
theorem ri_kp {W W' : World} {b : Nat} (hk : Kp W W' b) {v : Value} {l : List Int} (hI : ∀ n ∈ l, ∀ off, W.cell? ⟨b, off, none⟩ = some (.int .i64 n) → W'.cell? ⟨b, off, none⟩ = some (.int .i64 n)) (h : Go.Ts.RI W v l) : Go.Ts.RI W' v l := by
  obtain ⟨A, c, h1, h2, h3, h4⟩ := h
  refine ⟨A, c, h1, h2, h3, ?_⟩
  rcases h4 with h4 | ⟨p, off, h5, h6, h7⟩
  · exact .inl h4
  · refine .inr ⟨p, off, h5, Nat.lt_of_lt_of_le h6 hk.size, fun j hj => ?_⟩
    obtain ⟨cs, h8, h9⟩ := h7 j hj
    refine ⟨cs, h8, fun i hi => ?_⟩
    have hc := h9 i hi
    by_cases e : p = b
    · subst e
      have h8 : cs = [.int .i64 l[j]] := h8
      subst h8
      obtain rfl : i = 0 := by simp at hi; omega
      exact hI _ (List.getElem_mem hj) _ hc
    · rw [← hc]
      simp only [World.cell?, hk.other p e h6]
theorem rm_kp {W W' : World} {b : Nat} (hk : Kp W W' b) {v : Value} {l : List Msg} (h : RM W v l) : RM W' v l := by
  obtain ⟨A, c, h1, h2, h3, h4⟩ := h
  refine ⟨A, c, h1, h2, h3, ?_⟩
  rcases h4 with h4 | ⟨p, off, h5, h6, h7⟩
  · exact .inl h4
  · refine .inr ⟨p, off, h5, Nat.lt_of_lt_of_le h6 hk.size, fun j hj => ?_⟩
    obtain ⟨cs, h8, h9⟩ := h7 j hj
    exact ⟨cs, h8, cells_kp hk h6 h9 (by rw [show cs = msgC l[j] from h8]; simp [msgC])⟩
theorem rs_kp {W W' : World} {b : Nat} (hk : Kp W W' b) {v : Value} {l : List Sub} (hI : ∀ x ∈ l, ∀ n ∈ x.acks, ∀ off, W.cell? ⟨b, off, none⟩ = some (.int .i64 n) → W'.cell? ⟨b, off, none⟩ = some (.int .i64 n)) (h : RS W v l) : RS W' v l := by
  obtain ⟨A, c, h1, h2, h3, h4⟩ := h
  refine ⟨A, c, h1, h2, h3, ?_⟩
  rcases h4 with h4 | ⟨p, off, h5, h6, h7⟩
  · exact .inl h4
  · refine .inr ⟨p, off, h5, Nat.lt_of_lt_of_le h6 hk.size, fun j hj => ?_⟩
    obtain ⟨cs, ⟨av, qv, e1, e2, e3⟩, h9⟩ := h7 j hj
    exact ⟨cs, ⟨av, qv, e1, ri_kp hk (hI _ (List.getElem_mem hj)) e2, rm_kp hk e3⟩, cells_kp hk h6 h9 (by rw [e1]; simp [subC])⟩
theorem kp_state {W : World} {b : Nat} {c n l : Int} {v : Value} {t : TypeId} (h : Wh W b (stC c n l v) t) (cs : Array Value) : Kp W (W.setRow b cs) b :=
  ⟨by simp, fun k hk _ => setRow_other W b k cs hk, fun off ho => by
    rw [cell_of_row W b off (stC c n l v).toArray t (0, 0) h]
    simp [stC, ho]⟩
theorem rs_state {W : World} {b : Nat} {c n l : Int} {A0 : Option Addr} {n0 c0 : Nat} {u : Value} {t : TypeId} (h : Wh W b (stC c n l (.slice A0 n0 c0)) t) {sv : Value} {xs : List Sub} (hr : RS W sv xs) : RS (W.setRow b (stC c n l u).toArray) sv xs := by
  refine rs_kp (kp_state h _) (fun x _ m _ off ho => ?_) hr
  rw [cell_of_row W b off (stC c n l (.slice A0 n0 c0)).toArray t (0, 0) h] at ho
  rw [cell_of_row _ b off (stC c n l u).toArray t (0, 0) (h.set (stC c n l u))]
  match off, ho with
  | 0, ho => simpa [stC] using ho
  | 1, ho => simpa [stC] using ho
  | 2, ho => simpa [stC] using ho
  | 3, ho => simp [stC] at ho
  | k + 4, ho => simp [stC] at ho
theorem rs_zero {W : World} {b : Nat} {t : TypeId} (h : Wh W b (stC 0 0 0 (.slice none 0 0)) t) {sv : Value} {xs : List Sub} (hr : RS W sv xs) (hn : ∀ x ∈ xs, ∀ n ∈ x.acks, n ≠ 0) (cs : Array Value) : RS (W.setRow b cs) sv xs := by
  refine rs_kp (kp_state h _) (fun x hx m hm off ho => ?_) hr
  rw [cell_of_row W b off (stC 0 0 0 (.slice none 0 0)).toArray t (0, 0) h] at ho
  exfalso
  have h0 := hn x hx m hm
  match off, ho with
  | 0, ho => simp [stC] at ho; omega
  | 1, ho => simp [stC] at ho; omega
  | 2, ho => simp [stC] at ho; omega
  | 3, ho => simp [stC] at ho
  | k + 4, ho => simp [stC] at ho
end Go.Proofs.YtjppomhfillflaaGreatDoor
