/-
  The contract of the statements' own Bent (layer state).
-/
import Derived.Test.YtcmkmdghekkkhaaDoorKRCH
import Derived.Test.YtcmkmdghekkkhaaDoorKRDC
import Derived.Test.YtcmkmdghekkkhaaDoorKRDD
set_option linter.unusedVariables false
set_option linter.unusedVariables false
set_option linter.unusedSimpArgs false
namespace Go.Ts
structure BtOk (y : Sub) : Prop where
  ok : SubOk y
  til : ∀ m ∈ y.queue, m.til ≤ 9223372036854775807
theorem Small.bt {y : Sub} (h : Small y) : BtOk y := ⟨⟨by have := h.nl; omega, by have := h.tl; omega, by have := h.wl; omega, fun m hm => by have := (h.qm m hm).2; omega⟩, fun m hm => by have := (h.qm m hm).1; omega⟩
end Go.Ts
namespace Go.Proofs.YtcmkmdghekkkhaaDoor
open Go.RowKit Go.Rst Go.Tp Go.Ts Go.Inv
theorem rso_mk {w w0 W : World} {v : Value} {xs : List Sub} (h : RS w v xs) (h0 : Below w.heap.size w w0) (hb : Below w.heap.size w W) : RSo w0 W v xs := by
  obtain ⟨A, c, h1, h2, h3, h4⟩ := h
  refine ⟨A, c, h1, h2, h3, ?_⟩
  rcases h4 with h4 | ⟨p, off, h5, h6, h7⟩
  · exact .inl h4
  · exact .inr ⟨p, off, h5, Nat.lt_of_lt_of_le h6 hb.size, fun j hj => let ⟨cs, h8, h9⟩ := h7 j hj; ⟨cs, stays_cs _ _ _ _ h8 h0, h9.below h6 hb⟩⟩
theorem rl_emptied {α : Type} {sz : Nat} {C : World → α → List Value → Prop} (hC : Fixed C) (hsz : ∀ w x cs, C w x cs → 0 < cs.length) (hs0 : 0 < sz) {w0 W : World} {b : Nat} (hs : w0.heap.size ≤ W.heap.size) (hk : ∀ p, p ≠ b → p < w0.heap.size → W.heap[p]? = w0.heap[p]?) (hn : ∀ off, w0.cell? ⟨b, off, none⟩ = none) {v : Value} {xs : List α} (h : RL sz C w0 v xs) : RL sz C W v xs := by
  obtain ⟨A, c, h1, h2, h3, h4⟩ := h
  refine ⟨A, c, h1, h2, h3, ?_⟩
  rcases h4 with h4 | ⟨p, off, h5, h6, h7⟩
  · exact .inl h4
  · refine .inr ⟨p, off, h5, Nat.lt_of_lt_of_le h6 hs, fun j hj => ?_⟩
    obtain ⟨cs, h8, h9⟩ := h7 j hj
    have hne : p ≠ b := by
      rintro rfl
      have := h9 0 (hsz _ _ _ h8)
      rw [hn] at this
      cases this
    exact ⟨cs, hC _ _ _ _ h8, cells_block h9 (hk p hne h6)⟩
theorem rso_end {w0 w9 : World} {b : Nat} {c n l : Int} {u : Value} {t : TypeId} {v : Value} {xs : List Sub} (hb9 : Wh w9 b (stC c n l u) t) (hs : w0.heap.size ≤ w9.heap.size) (hk : ∀ p, p ≠ b → p < w0.heap.size → w9.heap[p]? = w0.heap[p]?) (hn : ∀ off, w0.cell? ⟨b, off, none⟩ = none) (h : RSo w0 w9 v xs) (cs0 : Array Value) : RS (w9.setRow b cs0) v xs := by
  obtain ⟨A, c, h1, h2, h3, h4⟩ := h
  refine ⟨A, c, h1, h2, h3, ?_⟩
  have hkp := kp_state hb9 cs0
  rcases h4 with h4 | ⟨p, off, h5, h6, h7⟩
  · exact .inl h4
  · refine .inr ⟨p, off, h5, Nat.lt_of_lt_of_le h6 hkp.size, fun j hj => ?_⟩
    obtain ⟨cs, ⟨av, qv, e1, e2, e3⟩, h9⟩ := h7 j hj
    have hk2 : ∀ p, p ≠ b → p < w0.heap.size → (w9.setRow b cs0).heap[p]? = w0.heap[p]? := fun p hp hl => (setRow_other w9 b p cs0 hp).trans (hk p hp hl)
    exact ⟨cs, ⟨av, qv, e1, rl_emptied fixed_ci (fun _ _ cs h => by rw [show cs = _ from h]; simp) (by decide) (Nat.le_trans hs hkp.size) hk2 hn e2, rl_emptied fixed_cm (fun _ _ cs h => by rw [show cs = _ from h]; simp [msgC]) (by decide) (Nat.le_trans hs hkp.size) hk2 hn e3⟩, cells_kp hkp h6 h9 (by rw [e1]; simp [subC])⟩
def whyL (r : Nat) : List UInt8 := if r = 0 then [] else if r = 1 then [110, 97, 99, 107] else [120]
def GivesBt (w : World) (e : Ending) (w' : World) : Prop := ∃ (c n l : Int) (v : Value) (xs : List Sub), e = .returned (.agg (stC c n l v).toArray) ∧ RS w' v xs ∧ Below w.heap.size w w' ∧ ∀ y ∈ xs, BtOk y
set_option maxRecDepth 100000 in
set_option maxHeartbeats 16000000 in
theorem bent_any (c n la : Int) (v : Value) (xs : List Sub) (k : Nat) (nn : Int) (w : World) (h : RS w v xs) (hmd : MadeS c n la xs) (hxl : xs.length ≤ 6) (hk : k ≤ 255) (hn1 : -9223372036854775808 ≤ nn) (hn2 : nn ≤ 9223372036854775807) :
    Calls Tryd.prog 12 #[.agg (stC c n la v).toArray, .int .u8 k, .int .i64 nn] w (GivesBt w) := by
  obtain ⟨A, ca, rfl, hac, ham⟩ := h.shape
  unfold maxLen at ham
  have HAM := Lib.hid h.shape
  have HV := Lib.hid h
  have HMD := Lib.hid hmd
  have hst := (Wh.new w (stC c n la (.slice A xs.length ca)) 24).alloc (.cells (stC 0 0 0 (.slice none 0 0)).toArray 24)
  have hzr : Wh ((w.alloc (.cells (stC c n la (.slice A xs.length ca)).toArray 24)).alloc (.cells (stC 0 0 0 (.slice none 0 0)).toArray 24)) (w.heap.size + 1) (stC 0 0 0 (.slice none 0 0)) 24 := by
    have := Wh.new (w.alloc (.cells (stC c n la (.slice A xs.length ca)).toArray 24)) (stC 0 0 0 (.slice none 0 0)) 24
    rw [World.size_alloc] at this
    exact this
  have hbl := below_two w (stC c n la (.slice A xs.length ca)).toArray (stC 0 0 0 (.slice none 0 0)).toArray 24 24
  clear h
  simp only [stC] at hst hzr hbl ⊢
  go_enter Tryd.func12, Tryd.ntmps12
  generalize hW0 : (w.alloc (.cells #[.int .i64 c, .int .i64 n, .int .i64 la, .slice A xs.length ca] 24)).alloc (.cells #[.int .i64 0, .int .i64 0, .int .i64 0, .slice none 0 0] 24) = W0 at hst hzr hbl
  have hs0 : W0.heap.size = w.heap.size + 2 := by rw [← hW0]; simp
  have c3 := hst.bx.cell (i := 3) (by simp)
  have c1 := hst.bx.cell (i := 1) (by simp)
  simp only [List.getElem_cons_succ, List.getElem_cons_zero] at c1 c3
  have HST := Lib.hid hst
  have HZR := Lib.hid hzr
  have HBL := Lib.hid hbl
  have HS0 := Lib.hid hs0
  have f1 := hst.frozen 1
  have hl3 := hst.lt
  clear hst hzr hbl hs0
  by_cases hlt : xs.length = 0
  · have HX0 := Lib.hid (List.eq_nil_of_length_eq_zero hlt)
    have q0 : ((xs.length : Int) == 0) = true := by rw [hlt]; rfl
    have h7 := HST.out.set1 1 (.int .i64 nn)
    simp only [List.set_cons_succ, List.set_cons_zero] at h7
    have H7 := Lib.hid h7
    have H6 := Lib.hid (HZR.out.set1Other (k := w.heap.size) (by omega) 1 (.int .i64 nn))
    have HB7 := Lib.hid (HBL.out.setCell (p := ⟨w.heap.size, 1, none⟩) (Nat.le_refl _) (.int .i64 nn))
    clear h7 hlt
    go_wp2_with (first
      | (rw [hW0]; clear hW0; fail)
      | (refine wpList_load_midG (by rfl) 24 (.tmp 3) rfl w.heap.size 0 rfl _ _ H7.out.range Tryd.underlying24 rfl size24 ?_)
      | (refine wpList_store_row rfl 24 (.tmp 6) (.tmp 15) rfl (w.heap.size + 1) (stC c nn la (.slice A xs.length ca)).toArray rfl rfl 24 #[.int .i64 0, .int .i64 0, .int .i64 0, .slice none 0 0] H6.out size24 rfl (st_all c nn la rfl) ?_))
    refine bodyPost_ret (results_cell_row rfl _ _ (w.heap.size + 1) 24 (stC c nn la (.slice A xs.length ca)).toArray (0, 0) _ rfl (H6.out.set (stC c nn la (.slice A xs.length ca))) Tryd.underlying24 rfl size24) rfl ?_
    exact ⟨c, nn, la, .slice A xs.length ca, [], rfl, by rw [HX0.out]; exact RL.nil_ _ _ _ (by obtain ⟨A', c', e1, _, e3⟩ := HAM.out; cases e1; exact e3), below_setRow HB7.out (by omega) _, fun y hy => by cases hy⟩
  have q0 : ((xs.length : Int) == 0) = false := beq_eq_false_iff_ne.2 (by omega)
  have hkl := Nat.mod_lt k (show 0 < xs.length by omega)
  obtain ⟨bb, off, av, qv, rfl, hbb, hrg, hra, hrq⟩ := rs_at HV.out hkl
  have hok := HMD.out.ok _ (List.getElem_mem hkl)
  obtain ⟨m, hm⟩ : ∃ m, m = xs[k % xs.length] := ⟨_, rfl⟩
  rw [← hm] at hrg hra hrq hok
  have hsm := hok.2.2.2
  have HSM := Lib.hid hsm
  have HRA := Lib.hid hra
  have HRQ := Lib.hid hrq
  obtain ⟨Aa, ka, rfl, _, hka⟩ := hra.shape
  obtain ⟨Aq, kq, rfl, _, hkq⟩ := hrq.shape
  have hMl : (subC m (.slice Aa m.acks.length ka) (.slice Aq m.queue.length kq)).length = 10 := rfl
  have hMa := sub_all m (av := .slice Aa m.acks.length ka) (qv := .slice Aq m.queue.length kq) rfl rfl
  have HRG := Lib.hid (range_below hrg hbb HBL.out)
  have HMA := Lib.hid hMa
  clear hm hok hrg hra hrq hMl hMa hsm
  go_wp2_with (rw [hW0]; clear hW0; fail)
  clear c1 f1 c3
  have c3 := HST.out.bx.cell (i := 3) (by simp)
  simp only [List.getElem_cons_succ, List.getElem_cons_zero] at c3
  refine R4_r (bb := bb) (off := off) (n := xs.length) (cc := ca) (k := k) (b := w.heap.size) (M := subC m (.slice Aa m.acks.length ka) (.slice Aq m.queue.length kq)) (B := W0.heap.size) ?_ ?_ ?_ hk (by omega) hac (by omega) hl3 c3 (Nat.lt_of_lt_of_le hbb HBL.out.size) HRG.out ?_ ?_ HMA.out rfl ?_
  · rfl
  · rfl
  · rfl
  · exact size35
  · rfl
  intro y16 y17 y18 y19 y20 y21 y22 y23 y24 y25 g W hg hbW hwg
  simp only [zA, zB, zC]
  have hs0 := HS0.out
  have HBW := Lib.hid (HBL.out.trans (hbW.mono HBL.out.size))
  have HW3 := Lib.hid (HST.out.below hbW)
  have HW6 := Lib.hid (HZR.out.below hbW)
  have HW7 := Lib.hid hwg
  have hg2 : w.heap.size + 2 ≤ g := by omega
  have hgl := hwg.lt
  clear hbW hwg c3 hs0 hg HRG HMA HST HZR hl3
  obtain ⟨q, hq⟩ : ∃ q, q = k / 8 % 16 := ⟨_, rfl⟩
  have d1 : ((k : Int) / 8).tmod 16 = (q : Int) := by rw [Int.tmod_eq_emod_of_nonneg (by omega)]; omega
  have d2 : (k : Int) / 8 % 16 = (q : Int) := by omega
  have d3 : (k : Int).tdiv 8 = (k : Int) / 8 := by rw [Int.tdiv_eq_ediv_of_nonneg (by omega)]
  clear hq
  rcases (show q = 0 ∨ q = 1 ∨ q = 2 ∨ q = 3 ∨ q = 4 ∨ q = 5 ∨ q = 6 ∨ q = 7 ∨ q = 8 ∨ q = 9 ∨ 10 ≤ q by omega) with rfl | rfl | rfl | rfl | rfl | rfl | rfl | rfl | rfl | rfl | hq
  · have fi := HW7.out.frozen 1
    have ci := HW7.out.bx.cell (i := 1) (by simp [subC])
    simp only [subC, List.getElem_cons_succ, List.getElem_cons_zero] at ci
    have H7 := Lib.hid (show Wh (W.setCell ⟨g, 1, none⟩ (.string ⟨#[65]⟩)) g (subC { m with name := [65] } (.slice Aa m.acks.length ka) (.slice Aq m.queue.length kq)) 35 from HW7.out.set1 1 (.string ⟨#[65]⟩))
    have H3 := Lib.hid (show Wh (W.setCell ⟨g, 1, none⟩ (.string ⟨#[65]⟩)) w.heap.size (stC c n la (.slice (some ⟨bb, off, none⟩) xs.length ca)) 24 from HW3.out.set1Other (k := g) (by omega) 1 (.string ⟨#[65]⟩))
    have H6 := Lib.hid (show Wh (W.setCell ⟨g, 1, none⟩ (.string ⟨#[65]⟩)) (w.heap.size + 1) (stC 0 0 0 (.slice none 0 0)) 24 from HW6.out.set1Other (k := g) (by omega) 1 (.string ⟨#[65]⟩))
    have HB := Lib.hid (HBW.out.setCell (p := ⟨g, 1, none⟩) (show w.heap.size ≤ g by omega) (.string ⟨#[65]⟩))
    have HOK := Lib.hid (show BtOk { m with name := [65] } from by have b := HSM.out.bt; exact ⟨⟨(show 1 ≤ 140737488351232 by omega), b.ok.topic, b.ok.want, b.ok.attr⟩, b.til⟩)
    have hb0 : Below w.heap.size w ((W.setCell ⟨g, 1, none⟩ (.string ⟨#[65]⟩)).setRow (w.heap.size + 1) #[]) := below_setRow HB.out (by omega) #[]
    have HPU := Lib.hid (put_any c n la (.slice (some ⟨bb, off, none⟩) xs.length ca) xs { m with name := [65] } (.slice Aa m.acks.length ka) (.slice Aq m.queue.length kq) ((W.setCell ⟨g, 1, none⟩ (.string ⟨#[65]⟩)).setRow (w.heap.size + 1) #[]) (W.setCell ⟨g, 1, none⟩ (.string ⟨#[65]⟩)) (rso_mk HV.out hb0 HB.out) (HRA.out.below stays_ci hb0) (HRQ.out.below stays_cm hb0) (by omega))
    have HN0 := Lib.hid (fun off => by have := cell_of_row ((W.setCell ⟨g, 1, none⟩ (.string ⟨#[65]⟩)).setRow (w.heap.size + 1) #[]) (w.heap.size + 1) off #[] 24 (0, 0) (H6.out.set []); simpa using this : ∀ off, ((W.setCell ⟨g, 1, none⟩ (.string ⟨#[65]⟩)).setRow (w.heap.size + 1) #[]).cell? ⟨w.heap.size + 1, off, none⟩ = none)
    clear hb0
    go_wp2_with (first
      | (refine wpList_load_midG (by rfl) 24 (.tmp 3) rfl w.heap.size 0 rfl _ _ H3.out.range Tryd.underlying24 rfl size24 ?_)
      | (refine wpList_load_midG (by rfl) 35 (.tmp 7) rfl g 0 rfl _ _ H7.out.range Tryd.underlying35 rfl size35 ?_))
    refine HPU.out.mono ?_
    rintro e w9 ⟨v9, rfl, hr9, hb9⟩
    have H69 := Lib.hid (H6.out.below hb9)
    have HR9 := Lib.hid hr9
    have HB9 := Lib.hid hb9
    have hone9 := rl_one hr9
    clear hr9 hb9 HPU
    go_wp2_with (refine wpList_store_row rfl 24 (.tmp 6) (.tmp 97) rfl (w.heap.size + 1) (stC c n la v9).toArray rfl rfl 24 #[.int .i64 0, .int .i64 0, .int .i64 0, .slice none 0 0] H69.out size24 rfl (st_all c n la hone9) ?_)
    refine bodyPost_ret (results_cell_row rfl _ _ (w.heap.size + 1) 24 (stC c n la v9).toArray (0, 0) _ rfl (H69.out.set (stC c n la v9)) Tryd.underlying24 rfl size24) rfl ?_
    have hfin : Below w.heap.size w (w9.setRow (w.heap.size + 1) (stC c n la v9).toArray) := below_setRow (HB.out.trans (HB9.out.mono HB.out.size)) (by omega) _
    exact ⟨c, n, la, v9, putS xs { m with name := [65] }, rfl, rso_end (c := 0) (n := 0) (l := 0) (u := .slice none 0 0) H69.out (by have := HB9.out.size; simpa using this) (fun p hp hl => (HB9.out.block p (by simpa using hl)).trans (setRow_other (W.setCell ⟨g, 1, none⟩ (.string ⟨#[65]⟩)) (w.heap.size + 1) p #[] hp).symm) HN0.out HR9.out _, hfin, fun y hy => by
      rcases mem_put.1 hy with rfl | ⟨hy, _⟩
      · exact HOK.out
      · exact (HMD.out.ok y hy).2.2.2.bt⟩
  · have fi := HW7.out.frozen 2
    have ci := HW7.out.bx.cell (i := 2) (by simp [subC])
    simp only [subC, List.getElem_cons_succ, List.getElem_cons_zero] at ci
    have H7 := Lib.hid (show Wh (W.setCell ⟨g, 2, none⟩ (.string ⟨#[47]⟩)) g (subC { m with topic := [47] } (.slice Aa m.acks.length ka) (.slice Aq m.queue.length kq)) 35 from HW7.out.set1 2 (.string ⟨#[47]⟩))
    have H3 := Lib.hid (show Wh (W.setCell ⟨g, 2, none⟩ (.string ⟨#[47]⟩)) w.heap.size (stC c n la (.slice (some ⟨bb, off, none⟩) xs.length ca)) 24 from HW3.out.set1Other (k := g) (by omega) 2 (.string ⟨#[47]⟩))
    have H6 := Lib.hid (show Wh (W.setCell ⟨g, 2, none⟩ (.string ⟨#[47]⟩)) (w.heap.size + 1) (stC 0 0 0 (.slice none 0 0)) 24 from HW6.out.set1Other (k := g) (by omega) 2 (.string ⟨#[47]⟩))
    have HB := Lib.hid (HBW.out.setCell (p := ⟨g, 2, none⟩) (show w.heap.size ≤ g by omega) (.string ⟨#[47]⟩))
    have HOK := Lib.hid (show BtOk { m with topic := [47] } from by have b := HSM.out.bt; exact ⟨⟨b.ok.name, (show 1 ≤ 1000000 by omega), b.ok.want, b.ok.attr⟩, b.til⟩)
    have hb0 : Below w.heap.size w ((W.setCell ⟨g, 2, none⟩ (.string ⟨#[47]⟩)).setRow (w.heap.size + 1) #[]) := below_setRow HB.out (by omega) #[]
    have HPU := Lib.hid (put_any c n la (.slice (some ⟨bb, off, none⟩) xs.length ca) xs { m with topic := [47] } (.slice Aa m.acks.length ka) (.slice Aq m.queue.length kq) ((W.setCell ⟨g, 2, none⟩ (.string ⟨#[47]⟩)).setRow (w.heap.size + 1) #[]) (W.setCell ⟨g, 2, none⟩ (.string ⟨#[47]⟩)) (rso_mk HV.out hb0 HB.out) (HRA.out.below stays_ci hb0) (HRQ.out.below stays_cm hb0) (by omega))
    have HN0 := Lib.hid (fun off => by have := cell_of_row ((W.setCell ⟨g, 2, none⟩ (.string ⟨#[47]⟩)).setRow (w.heap.size + 1) #[]) (w.heap.size + 1) off #[] 24 (0, 0) (H6.out.set []); simpa using this : ∀ off, ((W.setCell ⟨g, 2, none⟩ (.string ⟨#[47]⟩)).setRow (w.heap.size + 1) #[]).cell? ⟨w.heap.size + 1, off, none⟩ = none)
    clear hb0
    go_wp2_with (first
      | (refine wpList_load_midG (by rfl) 24 (.tmp 3) rfl w.heap.size 0 rfl _ _ H3.out.range Tryd.underlying24 rfl size24 ?_)
      | (refine wpList_load_midG (by rfl) 35 (.tmp 7) rfl g 0 rfl _ _ H7.out.range Tryd.underlying35 rfl size35 ?_))
    refine HPU.out.mono ?_
    rintro e w9 ⟨v9, rfl, hr9, hb9⟩
    have H69 := Lib.hid (H6.out.below hb9)
    have HR9 := Lib.hid hr9
    have HB9 := Lib.hid hb9
    have hone9 := rl_one hr9
    clear hr9 hb9 HPU
    go_wp2_with (refine wpList_store_row rfl 24 (.tmp 6) (.tmp 97) rfl (w.heap.size + 1) (stC c n la v9).toArray rfl rfl 24 #[.int .i64 0, .int .i64 0, .int .i64 0, .slice none 0 0] H69.out size24 rfl (st_all c n la hone9) ?_)
    refine bodyPost_ret (results_cell_row rfl _ _ (w.heap.size + 1) 24 (stC c n la v9).toArray (0, 0) _ rfl (H69.out.set (stC c n la v9)) Tryd.underlying24 rfl size24) rfl ?_
    have hfin : Below w.heap.size w (w9.setRow (w.heap.size + 1) (stC c n la v9).toArray) := below_setRow (HB.out.trans (HB9.out.mono HB.out.size)) (by omega) _
    exact ⟨c, n, la, v9, putS xs { m with topic := [47] }, rfl, rso_end (c := 0) (n := 0) (l := 0) (u := .slice none 0 0) H69.out (by have := HB9.out.size; simpa using this) (fun p hp hl => (HB9.out.block p (by simpa using hl)).trans (setRow_other (W.setCell ⟨g, 2, none⟩ (.string ⟨#[47]⟩)) (w.heap.size + 1) p #[] hp).symm) HN0.out HR9.out _, hfin, fun y hy => by
      rcases mem_put.1 hy with rfl | ⟨hy, _⟩
      · exact HOK.out
      · exact (HMD.out.ok y hy).2.2.2.bt⟩
  · have fi := HW7.out.frozen 4
    have ci := HW7.out.bx.cell (i := 4) (by simp [subC])
    simp only [subC, List.getElem_cons_succ, List.getElem_cons_zero] at ci
    have H7 := Lib.hid (show Wh (W.setCell ⟨g, 4, none⟩ (.int .i64 nn)) g (subC { m with lease := nn } (.slice Aa m.acks.length ka) (.slice Aq m.queue.length kq)) 35 from HW7.out.set1 4 (.int .i64 nn))
    have H3 := Lib.hid (show Wh (W.setCell ⟨g, 4, none⟩ (.int .i64 nn)) w.heap.size (stC c n la (.slice (some ⟨bb, off, none⟩) xs.length ca)) 24 from HW3.out.set1Other (k := g) (by omega) 4 (.int .i64 nn))
    have H6 := Lib.hid (show Wh (W.setCell ⟨g, 4, none⟩ (.int .i64 nn)) (w.heap.size + 1) (stC 0 0 0 (.slice none 0 0)) 24 from HW6.out.set1Other (k := g) (by omega) 4 (.int .i64 nn))
    have HB := Lib.hid (HBW.out.setCell (p := ⟨g, 4, none⟩) (show w.heap.size ≤ g by omega) (.int .i64 nn))
    have HOK := Lib.hid (show BtOk { m with lease := nn } from by have b := HSM.out.bt; exact ⟨⟨b.ok.name, b.ok.topic, b.ok.want, b.ok.attr⟩, b.til⟩)
    have hb0 : Below w.heap.size w ((W.setCell ⟨g, 4, none⟩ (.int .i64 nn)).setRow (w.heap.size + 1) #[]) := below_setRow HB.out (by omega) #[]
    have HPU := Lib.hid (put_any c n la (.slice (some ⟨bb, off, none⟩) xs.length ca) xs { m with lease := nn } (.slice Aa m.acks.length ka) (.slice Aq m.queue.length kq) ((W.setCell ⟨g, 4, none⟩ (.int .i64 nn)).setRow (w.heap.size + 1) #[]) (W.setCell ⟨g, 4, none⟩ (.int .i64 nn)) (rso_mk HV.out hb0 HB.out) (HRA.out.below stays_ci hb0) (HRQ.out.below stays_cm hb0) (by omega))
    have HN0 := Lib.hid (fun off => by have := cell_of_row ((W.setCell ⟨g, 4, none⟩ (.int .i64 nn)).setRow (w.heap.size + 1) #[]) (w.heap.size + 1) off #[] 24 (0, 0) (H6.out.set []); simpa using this : ∀ off, ((W.setCell ⟨g, 4, none⟩ (.int .i64 nn)).setRow (w.heap.size + 1) #[]).cell? ⟨w.heap.size + 1, off, none⟩ = none)
    clear hb0
    go_wp2_with (first
      | (refine wpList_load_midG (by rfl) 24 (.tmp 3) rfl w.heap.size 0 rfl _ _ H3.out.range Tryd.underlying24 rfl size24 ?_)
      | (refine wpList_load_midG (by rfl) 35 (.tmp 7) rfl g 0 rfl _ _ H7.out.range Tryd.underlying35 rfl size35 ?_))
    refine HPU.out.mono ?_
    rintro e w9 ⟨v9, rfl, hr9, hb9⟩
    have H69 := Lib.hid (H6.out.below hb9)
    have HR9 := Lib.hid hr9
    have HB9 := Lib.hid hb9
    have hone9 := rl_one hr9
    clear hr9 hb9 HPU
    go_wp2_with (refine wpList_store_row rfl 24 (.tmp 6) (.tmp 97) rfl (w.heap.size + 1) (stC c n la v9).toArray rfl rfl 24 #[.int .i64 0, .int .i64 0, .int .i64 0, .slice none 0 0] H69.out size24 rfl (st_all c n la hone9) ?_)
    refine bodyPost_ret (results_cell_row rfl _ _ (w.heap.size + 1) 24 (stC c n la v9).toArray (0, 0) _ rfl (H69.out.set (stC c n la v9)) Tryd.underlying24 rfl size24) rfl ?_
    have hfin : Below w.heap.size w (w9.setRow (w.heap.size + 1) (stC c n la v9).toArray) := below_setRow (HB.out.trans (HB9.out.mono HB.out.size)) (by omega) _
    exact ⟨c, n, la, v9, putS xs { m with lease := nn }, rfl, rso_end (c := 0) (n := 0) (l := 0) (u := .slice none 0 0) H69.out (by have := HB9.out.size; simpa using this) (fun p hp hl => (HB9.out.block p (by simpa using hl)).trans (setRow_other (W.setCell ⟨g, 4, none⟩ (.int .i64 nn)) (w.heap.size + 1) p #[] hp).symm) HN0.out HR9.out _, hfin, fun y hy => by
      rcases mem_put.1 hy with rfl | ⟨hy, _⟩
      · exact HOK.out
      · exact (HMD.out.ok y hy).2.2.2.bt⟩
  · have fi := HW7.out.frozen 6
    have ci := HW7.out.bx.cell (i := 6) (by simp [subC])
    simp only [subC, List.getElem_cons_succ, List.getElem_cons_zero] at ci
    have H7 := Lib.hid (show Wh (W.setCell ⟨g, 6, none⟩ (.int .i64 nn)) g (subC { m with floor := nn } (.slice Aa m.acks.length ka) (.slice Aq m.queue.length kq)) 35 from HW7.out.set1 6 (.int .i64 nn))
    have H3 := Lib.hid (show Wh (W.setCell ⟨g, 6, none⟩ (.int .i64 nn)) w.heap.size (stC c n la (.slice (some ⟨bb, off, none⟩) xs.length ca)) 24 from HW3.out.set1Other (k := g) (by omega) 6 (.int .i64 nn))
    have H6 := Lib.hid (show Wh (W.setCell ⟨g, 6, none⟩ (.int .i64 nn)) (w.heap.size + 1) (stC 0 0 0 (.slice none 0 0)) 24 from HW6.out.set1Other (k := g) (by omega) 6 (.int .i64 nn))
    have HB := Lib.hid (HBW.out.setCell (p := ⟨g, 6, none⟩) (show w.heap.size ≤ g by omega) (.int .i64 nn))
    have HOK := Lib.hid (show BtOk { m with floor := nn } from by have b := HSM.out.bt; exact ⟨⟨b.ok.name, b.ok.topic, b.ok.want, b.ok.attr⟩, b.til⟩)
    have hb0 : Below w.heap.size w ((W.setCell ⟨g, 6, none⟩ (.int .i64 nn)).setRow (w.heap.size + 1) #[]) := below_setRow HB.out (by omega) #[]
    have HPU := Lib.hid (put_any c n la (.slice (some ⟨bb, off, none⟩) xs.length ca) xs { m with floor := nn } (.slice Aa m.acks.length ka) (.slice Aq m.queue.length kq) ((W.setCell ⟨g, 6, none⟩ (.int .i64 nn)).setRow (w.heap.size + 1) #[]) (W.setCell ⟨g, 6, none⟩ (.int .i64 nn)) (rso_mk HV.out hb0 HB.out) (HRA.out.below stays_ci hb0) (HRQ.out.below stays_cm hb0) (by omega))
    have HN0 := Lib.hid (fun off => by have := cell_of_row ((W.setCell ⟨g, 6, none⟩ (.int .i64 nn)).setRow (w.heap.size + 1) #[]) (w.heap.size + 1) off #[] 24 (0, 0) (H6.out.set []); simpa using this : ∀ off, ((W.setCell ⟨g, 6, none⟩ (.int .i64 nn)).setRow (w.heap.size + 1) #[]).cell? ⟨w.heap.size + 1, off, none⟩ = none)
    clear hb0
    go_wp2_with (first
      | (refine wpList_load_midG (by rfl) 24 (.tmp 3) rfl w.heap.size 0 rfl _ _ H3.out.range Tryd.underlying24 rfl size24 ?_)
      | (refine wpList_load_midG (by rfl) 35 (.tmp 7) rfl g 0 rfl _ _ H7.out.range Tryd.underlying35 rfl size35 ?_))
    refine HPU.out.mono ?_
    rintro e w9 ⟨v9, rfl, hr9, hb9⟩
    have H69 := Lib.hid (H6.out.below hb9)
    have HR9 := Lib.hid hr9
    have HB9 := Lib.hid hb9
    have hone9 := rl_one hr9
    clear hr9 hb9 HPU
    go_wp2_with (refine wpList_store_row rfl 24 (.tmp 6) (.tmp 97) rfl (w.heap.size + 1) (stC c n la v9).toArray rfl rfl 24 #[.int .i64 0, .int .i64 0, .int .i64 0, .slice none 0 0] H69.out size24 rfl (st_all c n la hone9) ?_)
    refine bodyPost_ret (results_cell_row rfl _ _ (w.heap.size + 1) 24 (stC c n la v9).toArray (0, 0) _ rfl (H69.out.set (stC c n la v9)) Tryd.underlying24 rfl size24) rfl ?_
    have hfin : Below w.heap.size w (w9.setRow (w.heap.size + 1) (stC c n la v9).toArray) := below_setRow (HB.out.trans (HB9.out.mono HB.out.size)) (by omega) _
    exact ⟨c, n, la, v9, putS xs { m with floor := nn }, rfl, rso_end (c := 0) (n := 0) (l := 0) (u := .slice none 0 0) H69.out (by have := HB9.out.size; simpa using this) (fun p hp hl => (HB9.out.block p (by simpa using hl)).trans (setRow_other (W.setCell ⟨g, 6, none⟩ (.int .i64 nn)) (w.heap.size + 1) p #[] hp).symm) HN0.out HR9.out _, hfin, fun y hy => by
      rcases mem_put.1 hy with rfl | ⟨hy, _⟩
      · exact HOK.out
      · exact (HMD.out.ok y hy).2.2.2.bt⟩
  · have fi := HW7.out.frozen 7
    have ci := HW7.out.bx.cell (i := 7) (by simp [subC])
    simp only [subC, List.getElem_cons_succ, List.getElem_cons_zero] at ci
    have hsz4 : (W.setCell ⟨g, 7, none⟩ (.slice (some ⟨W.heap.size, 0, none⟩) 2 2)).heap.size = W.heap.size := by simp
    have H7 := Lib.hid (show Wh ((W.setCell ⟨g, 7, none⟩ (.slice (some ⟨W.heap.size, 0, none⟩) 2 2)).alloc (.cells #[.int .i64 nn, .int .i64 3] 3)) g (subC { m with acks := [nn, 3] } (.slice (some ⟨W.heap.size, 0, none⟩) 2 2) (.slice Aq m.queue.length kq)) 35 from (HW7.out.set1 7 (.slice (some ⟨W.heap.size, 0, none⟩) 2 2)).alloc (.cells #[.int .i64 nn, .int .i64 3] 3))
    have H3 := Lib.hid (show Wh ((W.setCell ⟨g, 7, none⟩ (.slice (some ⟨W.heap.size, 0, none⟩) 2 2)).alloc (.cells #[.int .i64 nn, .int .i64 3] 3)) w.heap.size (stC c n la (.slice (some ⟨bb, off, none⟩) xs.length ca)) 24 from (HW3.out.set1Other (k := g) (by omega) 7 (.slice (some ⟨W.heap.size, 0, none⟩) 2 2)).alloc (.cells #[.int .i64 nn, .int .i64 3] 3))
    have H6 := Lib.hid (show Wh ((W.setCell ⟨g, 7, none⟩ (.slice (some ⟨W.heap.size, 0, none⟩) 2 2)).alloc (.cells #[.int .i64 nn, .int .i64 3] 3)) (w.heap.size + 1) (stC 0 0 0 (.slice none 0 0)) 24 from (HW6.out.set1Other (k := g) (by omega) 7 (.slice (some ⟨W.heap.size, 0, none⟩) 2 2)).alloc (.cells #[.int .i64 nn, .int .i64 3] 3))
    have HB := Lib.hid (show Below w.heap.size w ((W.setCell ⟨g, 7, none⟩ (.slice (some ⟨W.heap.size, 0, none⟩) 2 2)).alloc (.cells #[.int .i64 nn, .int .i64 3] 3)) from (HBW.out.setCell (p := ⟨g, 7, none⟩) (show w.heap.size ≤ g by omega) (.slice (some ⟨W.heap.size, 0, none⟩) 2 2)).alloc (by rw [hsz4]; exact HBW.out.size) (.cells #[.int .i64 nn, .int .i64 3] 3))
    have hoi : OI 0 ((W.setCell ⟨g, 7, none⟩ (.slice (some ⟨W.heap.size, 0, none⟩) 2 2)).alloc (.cells #[.int .i64 nn, .int .i64 3] 3)) (.slice (some ⟨W.heap.size, 0, none⟩) 2 2) [nn, 3] := by
      have := World.ownsRow_lit (base := 0) (e := 3) (size := 1) (W.setCell ⟨g, 7, none⟩ (.slice (some ⟨W.heap.size, 0, none⟩) 2 2)) #[.int .i64 nn, .int .i64 3] 2 (Nat.zero_le _) (by decide) rfl
      rw [hsz4] at this
      exact this
    have HOI := Lib.hid hoi.rl
    clear hoi
    have HOK := Lib.hid (show BtOk { m with acks := [nn, 3] } from by have b := HSM.out.bt; exact ⟨⟨b.ok.name, b.ok.topic, b.ok.want, b.ok.attr⟩, b.til⟩)
    have hb0 : Below w.heap.size w (((W.setCell ⟨g, 7, none⟩ (.slice (some ⟨W.heap.size, 0, none⟩) 2 2)).alloc (.cells #[.int .i64 nn, .int .i64 3] 3)).setRow (w.heap.size + 1) #[]) := below_setRow HB.out (by omega) #[]
    have HPU := Lib.hid (put_any c n la (.slice (some ⟨bb, off, none⟩) xs.length ca) xs { m with acks := [nn, 3] } (.slice (some ⟨W.heap.size, 0, none⟩) 2 2) (.slice Aq m.queue.length kq) (((W.setCell ⟨g, 7, none⟩ (.slice (some ⟨W.heap.size, 0, none⟩) 2 2)).alloc (.cells #[.int .i64 nn, .int .i64 3] 3)).setRow (w.heap.size + 1) #[]) ((W.setCell ⟨g, 7, none⟩ (.slice (some ⟨W.heap.size, 0, none⟩) 2 2)).alloc (.cells #[.int .i64 nn, .int .i64 3] 3)) (rso_mk HV.out hb0 HB.out) (rl_block fixed_ci HOI.out (by simp) (fun k hk => setRow_other _ (w.heap.size + 1) k _ (by have hk : W.heap.size = k := Option.some.inj hk; omega))) (HRQ.out.below stays_cm hb0) (by omega))
    have HN0 := Lib.hid (fun off => by have := cell_of_row (((W.setCell ⟨g, 7, none⟩ (.slice (some ⟨W.heap.size, 0, none⟩) 2 2)).alloc (.cells #[.int .i64 nn, .int .i64 3] 3)).setRow (w.heap.size + 1) #[]) (w.heap.size + 1) off #[] 24 (0, 0) (H6.out.set []); simpa using this : ∀ off, (((W.setCell ⟨g, 7, none⟩ (.slice (some ⟨W.heap.size, 0, none⟩) 2 2)).alloc (.cells #[.int .i64 nn, .int .i64 3] 3)).setRow (w.heap.size + 1) #[]).cell? ⟨w.heap.size + 1, off, none⟩ = none)
    clear hb0
    go_wp2_with (first
      | (refine wpList_load_midG (by rfl) 24 (.tmp 3) rfl w.heap.size 0 rfl _ _ H3.out.range Tryd.underlying24 rfl size24 ?_)
      | (refine wpList_load_midG (by rfl) 35 (.tmp 7) rfl g 0 rfl _ _ H7.out.range Tryd.underlying35 rfl size35 ?_))
    refine HPU.out.mono ?_
    rintro e w9 ⟨v9, rfl, hr9, hb9⟩
    have H69 := Lib.hid (H6.out.below hb9)
    have HR9 := Lib.hid hr9
    have HB9 := Lib.hid hb9
    have hone9 := rl_one hr9
    clear hr9 hb9 HPU
    go_wp2_with (refine wpList_store_row rfl 24 (.tmp 6) (.tmp 97) rfl (w.heap.size + 1) (stC c n la v9).toArray rfl rfl 24 #[.int .i64 0, .int .i64 0, .int .i64 0, .slice none 0 0] H69.out size24 rfl (st_all c n la hone9) ?_)
    refine bodyPost_ret (results_cell_row rfl _ _ (w.heap.size + 1) 24 (stC c n la v9).toArray (0, 0) _ rfl (H69.out.set (stC c n la v9)) Tryd.underlying24 rfl size24) rfl ?_
    have hfin : Below w.heap.size w (w9.setRow (w.heap.size + 1) (stC c n la v9).toArray) := below_setRow (HB.out.trans (HB9.out.mono HB.out.size)) (by omega) _
    exact ⟨c, n, la, v9, putS xs { m with acks := [nn, 3] }, rfl, rso_end (c := 0) (n := 0) (l := 0) (u := .slice none 0 0) H69.out (by have := HB9.out.size; simpa using this) (fun p hp hl => (HB9.out.block p (by simpa using hl)).trans (setRow_other ((W.setCell ⟨g, 7, none⟩ (.slice (some ⟨W.heap.size, 0, none⟩) 2 2)).alloc (.cells #[.int .i64 nn, .int .i64 3] 3)) (w.heap.size + 1) p #[] hp).symm) HN0.out HR9.out _, hfin, fun y hy => by
      rcases mem_put.1 hy with rfl | ⟨hy, _⟩
      · exact HOK.out
      · exact (HMD.out.ok y hy).2.2.2.bt⟩
  · have fi := HW7.out.frozen 0
    have ci := HW7.out.bx.cell (i := 0) (by simp [subC])
    simp only [subC, List.getElem_cons_succ, List.getElem_cons_zero] at ci
    have H7 := Lib.hid (show Wh (W.setCell ⟨g, 0, none⟩ (.int .i64 nn)) g (subC { m with id := nn } (.slice Aa m.acks.length ka) (.slice Aq m.queue.length kq)) 35 from HW7.out.set1 0 (.int .i64 nn))
    have H3 := Lib.hid (show Wh (W.setCell ⟨g, 0, none⟩ (.int .i64 nn)) w.heap.size (stC c n la (.slice (some ⟨bb, off, none⟩) xs.length ca)) 24 from HW3.out.set1Other (k := g) (by omega) 0 (.int .i64 nn))
    have H6 := Lib.hid (show Wh (W.setCell ⟨g, 0, none⟩ (.int .i64 nn)) (w.heap.size + 1) (stC 0 0 0 (.slice none 0 0)) 24 from HW6.out.set1Other (k := g) (by omega) 0 (.int .i64 nn))
    have HB := Lib.hid (HBW.out.setCell (p := ⟨g, 0, none⟩) (show w.heap.size ≤ g by omega) (.int .i64 nn))
    have HOK := Lib.hid (show BtOk { m with id := nn } from by have b := HSM.out.bt; exact ⟨⟨b.ok.name, b.ok.topic, b.ok.want, b.ok.attr⟩, b.til⟩)
    have hb0 : Below w.heap.size w ((W.setCell ⟨g, 0, none⟩ (.int .i64 nn)).setRow (w.heap.size + 1) #[]) := below_setRow HB.out (by omega) #[]
    have HPU := Lib.hid (put_any c n la (.slice (some ⟨bb, off, none⟩) xs.length ca) xs { m with id := nn } (.slice Aa m.acks.length ka) (.slice Aq m.queue.length kq) ((W.setCell ⟨g, 0, none⟩ (.int .i64 nn)).setRow (w.heap.size + 1) #[]) (W.setCell ⟨g, 0, none⟩ (.int .i64 nn)) (rso_mk HV.out hb0 HB.out) (HRA.out.below stays_ci hb0) (HRQ.out.below stays_cm hb0) (by omega))
    have HN0 := Lib.hid (fun off => by have := cell_of_row ((W.setCell ⟨g, 0, none⟩ (.int .i64 nn)).setRow (w.heap.size + 1) #[]) (w.heap.size + 1) off #[] 24 (0, 0) (H6.out.set []); simpa using this : ∀ off, ((W.setCell ⟨g, 0, none⟩ (.int .i64 nn)).setRow (w.heap.size + 1) #[]).cell? ⟨w.heap.size + 1, off, none⟩ = none)
    clear hb0
    go_wp2_with (first
      | (refine wpList_load_midG (by rfl) 24 (.tmp 3) rfl w.heap.size 0 rfl _ _ H3.out.range Tryd.underlying24 rfl size24 ?_)
      | (refine wpList_load_midG (by rfl) 35 (.tmp 7) rfl g 0 rfl _ _ H7.out.range Tryd.underlying35 rfl size35 ?_))
    refine HPU.out.mono ?_
    rintro e w9 ⟨v9, rfl, hr9, hb9⟩
    have H69 := Lib.hid (H6.out.below hb9)
    have HR9 := Lib.hid hr9
    have HB9 := Lib.hid hb9
    have hone9 := rl_one hr9
    clear hr9 hb9 HPU
    go_wp2_with (refine wpList_store_row rfl 24 (.tmp 6) (.tmp 97) rfl (w.heap.size + 1) (stC c n la v9).toArray rfl rfl 24 #[.int .i64 0, .int .i64 0, .int .i64 0, .slice none 0 0] H69.out size24 rfl (st_all c n la hone9) ?_)
    refine bodyPost_ret (results_cell_row rfl _ _ (w.heap.size + 1) 24 (stC c n la v9).toArray (0, 0) _ rfl (H69.out.set (stC c n la v9)) Tryd.underlying24 rfl size24) rfl ?_
    have hfin : Below w.heap.size w (w9.setRow (w.heap.size + 1) (stC c n la v9).toArray) := below_setRow (HB.out.trans (HB9.out.mono HB.out.size)) (by omega) _
    exact ⟨c, n, la, v9, putS xs { m with id := nn }, rfl, rso_end (c := 0) (n := 0) (l := 0) (u := .slice none 0 0) H69.out (by have := HB9.out.size; simpa using this) (fun p hp hl => (HB9.out.block p (by simpa using hl)).trans (setRow_other (W.setCell ⟨g, 0, none⟩ (.int .i64 nn)) (w.heap.size + 1) p #[] hp).symm) HN0.out HR9.out _, hfin, fun y hy => by
      rcases mem_put.1 hy with rfl | ⟨hy, _⟩
      · exact HOK.out
      · exact (HMD.out.ok y hy).2.2.2.bt⟩
  · have fi := HW7.out.frozen 5
    have ci := HW7.out.bx.cell (i := 5) (by simp [subC])
    simp only [subC, List.getElem_cons_succ, List.getElem_cons_zero] at ci
    have H7 := Lib.hid (show Wh (W.setCell ⟨g, 5, none⟩ (.int .i64 nn)) g (subC { m with most := nn } (.slice Aa m.acks.length ka) (.slice Aq m.queue.length kq)) 35 from HW7.out.set1 5 (.int .i64 nn))
    have H3 := Lib.hid (show Wh (W.setCell ⟨g, 5, none⟩ (.int .i64 nn)) w.heap.size (stC c n la (.slice (some ⟨bb, off, none⟩) xs.length ca)) 24 from HW3.out.set1Other (k := g) (by omega) 5 (.int .i64 nn))
    have H6 := Lib.hid (show Wh (W.setCell ⟨g, 5, none⟩ (.int .i64 nn)) (w.heap.size + 1) (stC 0 0 0 (.slice none 0 0)) 24 from HW6.out.set1Other (k := g) (by omega) 5 (.int .i64 nn))
    have HB := Lib.hid (HBW.out.setCell (p := ⟨g, 5, none⟩) (show w.heap.size ≤ g by omega) (.int .i64 nn))
    have HOK := Lib.hid (show BtOk { m with most := nn } from by have b := HSM.out.bt; exact ⟨⟨b.ok.name, b.ok.topic, b.ok.want, b.ok.attr⟩, b.til⟩)
    have hb0 : Below w.heap.size w ((W.setCell ⟨g, 5, none⟩ (.int .i64 nn)).setRow (w.heap.size + 1) #[]) := below_setRow HB.out (by omega) #[]
    have HPU := Lib.hid (put_any c n la (.slice (some ⟨bb, off, none⟩) xs.length ca) xs { m with most := nn } (.slice Aa m.acks.length ka) (.slice Aq m.queue.length kq) ((W.setCell ⟨g, 5, none⟩ (.int .i64 nn)).setRow (w.heap.size + 1) #[]) (W.setCell ⟨g, 5, none⟩ (.int .i64 nn)) (rso_mk HV.out hb0 HB.out) (HRA.out.below stays_ci hb0) (HRQ.out.below stays_cm hb0) (by omega))
    have HN0 := Lib.hid (fun off => by have := cell_of_row ((W.setCell ⟨g, 5, none⟩ (.int .i64 nn)).setRow (w.heap.size + 1) #[]) (w.heap.size + 1) off #[] 24 (0, 0) (H6.out.set []); simpa using this : ∀ off, ((W.setCell ⟨g, 5, none⟩ (.int .i64 nn)).setRow (w.heap.size + 1) #[]).cell? ⟨w.heap.size + 1, off, none⟩ = none)
    clear hb0
    go_wp2_with (first
      | (refine wpList_load_midG (by rfl) 24 (.tmp 3) rfl w.heap.size 0 rfl _ _ H3.out.range Tryd.underlying24 rfl size24 ?_)
      | (refine wpList_load_midG (by rfl) 35 (.tmp 7) rfl g 0 rfl _ _ H7.out.range Tryd.underlying35 rfl size35 ?_))
    refine HPU.out.mono ?_
    rintro e w9 ⟨v9, rfl, hr9, hb9⟩
    have H69 := Lib.hid (H6.out.below hb9)
    have HR9 := Lib.hid hr9
    have HB9 := Lib.hid hb9
    have hone9 := rl_one hr9
    clear hr9 hb9 HPU
    go_wp2_with (refine wpList_store_row rfl 24 (.tmp 6) (.tmp 97) rfl (w.heap.size + 1) (stC c n la v9).toArray rfl rfl 24 #[.int .i64 0, .int .i64 0, .int .i64 0, .slice none 0 0] H69.out size24 rfl (st_all c n la hone9) ?_)
    refine bodyPost_ret (results_cell_row rfl _ _ (w.heap.size + 1) 24 (stC c n la v9).toArray (0, 0) _ rfl (H69.out.set (stC c n la v9)) Tryd.underlying24 rfl size24) rfl ?_
    have hfin : Below w.heap.size w (w9.setRow (w.heap.size + 1) (stC c n la v9).toArray) := below_setRow (HB.out.trans (HB9.out.mono HB.out.size)) (by omega) _
    exact ⟨c, n, la, v9, putS xs { m with most := nn }, rfl, rso_end (c := 0) (n := 0) (l := 0) (u := .slice none 0 0) H69.out (by have := HB9.out.size; simpa using this) (fun p hp hl => (HB9.out.block p (by simpa using hl)).trans (setRow_other (W.setCell ⟨g, 5, none⟩ (.int .i64 nn)) (w.heap.size + 1) p #[] hp).symm) HN0.out HR9.out _, hfin, fun y hy => by
      rcases mem_put.1 hy with rfl | ⟨hy, _⟩
      · exact HOK.out
      · exact (HMD.out.ok y hy).2.2.2.bt⟩
  · go_wp2_with fail
    have htx := text_any 40 60 (by omega) (by omega) W
    obtain ⟨tx, htx0⟩ : ∃ tx, tx = txt 40 (40 % (60 + 1)) := ⟨_, rfl⟩
    rw [← htx0] at htx
    refine htx.mono ?_
    rintro e w5 ⟨rfl, hb5⟩
    have hw3 := HW3.out.below hb5
    have hw6 := HW6.out.below hb5
    have hw7 := HW7.out.below hb5
    have hbw := HBW.out.trans (hb5.mono HBW.out.size)
    clear HW3 HW6 HW7 HBW htx htx0 hb5
    have HW3 := Lib.hid hw3
    have HW6 := Lib.hid hw6
    have HW7 := Lib.hid hw7
    have HBW := Lib.hid hbw
    clear hw3 hw6 hw7 hbw
    have fi := HW7.out.frozen 9
    have ci := HW7.out.bx.cell (i := 9) (by simp [subC])
    simp only [subC, List.getElem_cons_succ, List.getElem_cons_zero] at ci
    have H7 := Lib.hid (show Wh (w5.setCell ⟨g, 9, none⟩ (sv tx)) g (subC { m with note := tx } (.slice Aa m.acks.length ka) (.slice Aq m.queue.length kq)) 35 from HW7.out.set1 9 (sv tx))
    have H3 := Lib.hid (show Wh (w5.setCell ⟨g, 9, none⟩ (sv tx)) w.heap.size (stC c n la (.slice (some ⟨bb, off, none⟩) xs.length ca)) 24 from HW3.out.set1Other (k := g) (by omega) 9 (sv tx))
    have H6 := Lib.hid (show Wh (w5.setCell ⟨g, 9, none⟩ (sv tx)) (w.heap.size + 1) (stC 0 0 0 (.slice none 0 0)) 24 from HW6.out.set1Other (k := g) (by omega) 9 (sv tx))
    have HB := Lib.hid (HBW.out.setCell (p := ⟨g, 9, none⟩) (show w.heap.size ≤ g by omega) (sv tx))
    have HOK := Lib.hid (show BtOk { m with note := tx } from by have b := HSM.out.bt; exact ⟨⟨b.ok.name, b.ok.topic, b.ok.want, b.ok.attr⟩, b.til⟩)
    have hb0 : Below w.heap.size w ((w5.setCell ⟨g, 9, none⟩ (sv tx)).setRow (w.heap.size + 1) #[]) := below_setRow HB.out (by omega) #[]
    have HPU := Lib.hid (put_any c n la (.slice (some ⟨bb, off, none⟩) xs.length ca) xs { m with note := tx } (.slice Aa m.acks.length ka) (.slice Aq m.queue.length kq) ((w5.setCell ⟨g, 9, none⟩ (sv tx)).setRow (w.heap.size + 1) #[]) (w5.setCell ⟨g, 9, none⟩ (sv tx)) (rso_mk HV.out hb0 HB.out) (HRA.out.below stays_ci hb0) (HRQ.out.below stays_cm hb0) (by omega))
    have HN0 := Lib.hid (fun off => by have := cell_of_row ((w5.setCell ⟨g, 9, none⟩ (sv tx)).setRow (w.heap.size + 1) #[]) (w.heap.size + 1) off #[] 24 (0, 0) (H6.out.set []); simpa using this : ∀ off, ((w5.setCell ⟨g, 9, none⟩ (sv tx)).setRow (w.heap.size + 1) #[]).cell? ⟨w.heap.size + 1, off, none⟩ = none)
    clear hb0
    go_wp2_with (first
      | (refine wpList_load_midG (by rfl) 24 (.tmp 3) rfl w.heap.size 0 rfl _ _ H3.out.range Tryd.underlying24 rfl size24 ?_)
      | (refine wpList_load_midG (by rfl) 35 (.tmp 7) rfl g 0 rfl _ _ H7.out.range Tryd.underlying35 rfl size35 ?_))
    refine HPU.out.mono ?_
    rintro e w9 ⟨v9, rfl, hr9, hb9⟩
    have H69 := Lib.hid (H6.out.below hb9)
    have HR9 := Lib.hid hr9
    have HB9 := Lib.hid hb9
    have hone9 := rl_one hr9
    clear hr9 hb9 HPU
    go_wp2_with (refine wpList_store_row rfl 24 (.tmp 6) (.tmp 97) rfl (w.heap.size + 1) (stC c n la v9).toArray rfl rfl 24 #[.int .i64 0, .int .i64 0, .int .i64 0, .slice none 0 0] H69.out size24 rfl (st_all c n la hone9) ?_)
    refine bodyPost_ret (results_cell_row rfl _ _ (w.heap.size + 1) 24 (stC c n la v9).toArray (0, 0) _ rfl (H69.out.set (stC c n la v9)) Tryd.underlying24 rfl size24) rfl ?_
    have hfin : Below w.heap.size w (w9.setRow (w.heap.size + 1) (stC c n la v9).toArray) := below_setRow (HB.out.trans (HB9.out.mono HB.out.size)) (by omega) _
    exact ⟨c, n, la, v9, putS xs { m with note := tx }, rfl, rso_end (c := 0) (n := 0) (l := 0) (u := .slice none 0 0) H69.out (by have := HB9.out.size; simpa using this) (fun p hp hl => (HB9.out.block p (by simpa using hl)).trans (setRow_other (w5.setCell ⟨g, 9, none⟩ (sv tx)) (w.heap.size + 1) p #[] hp).symm) HN0.out HR9.out _, hfin, fun y hy => by
      rcases mem_put.1 hy with rfl | ⟨hy, _⟩
      · exact HOK.out
      · exact (HMD.out.ok y hy).2.2.2.bt⟩
  · have fi := HW3.out.frozen 2
    have ci := HW3.out.bx.cell (i := 2) (by simp)
    simp only [List.getElem_cons_succ, List.getElem_cons_zero] at ci
    have H7 := Lib.hid (show Wh (W.setCell ⟨w.heap.size, 2, none⟩ (.int .i64 nn)) g (subC m (.slice Aa m.acks.length ka) (.slice Aq m.queue.length kq)) 35 from HW7.out.set1Other (k := w.heap.size) (by omega) 2 (.int .i64 nn))
    have H3 := Lib.hid (show Wh (W.setCell ⟨w.heap.size, 2, none⟩ (.int .i64 nn)) w.heap.size (stC c n nn (.slice (some ⟨bb, off, none⟩) xs.length ca)) 24 from HW3.out.set1 2 (.int .i64 nn))
    have H6 := Lib.hid (show Wh (W.setCell ⟨w.heap.size, 2, none⟩ (.int .i64 nn)) (w.heap.size + 1) (stC 0 0 0 (.slice none 0 0)) 24 from HW6.out.set1Other (k := w.heap.size) (by omega) 2 (.int .i64 nn))
    have HB := Lib.hid (HBW.out.setCell (p := ⟨w.heap.size, 2, none⟩) (Nat.le_refl _) (.int .i64 nn))
    have HOK := Lib.hid (show BtOk m from by have b := HSM.out.bt; exact b)
    have hb0 : Below w.heap.size w ((W.setCell ⟨w.heap.size, 2, none⟩ (.int .i64 nn)).setRow (w.heap.size + 1) #[]) := below_setRow HB.out (by omega) #[]
    have HPU := Lib.hid (put_any c n nn (.slice (some ⟨bb, off, none⟩) xs.length ca) xs m (.slice Aa m.acks.length ka) (.slice Aq m.queue.length kq) ((W.setCell ⟨w.heap.size, 2, none⟩ (.int .i64 nn)).setRow (w.heap.size + 1) #[]) (W.setCell ⟨w.heap.size, 2, none⟩ (.int .i64 nn)) (rso_mk HV.out hb0 HB.out) (HRA.out.below stays_ci hb0) (HRQ.out.below stays_cm hb0) (by omega))
    have HN0 := Lib.hid (fun off => by have := cell_of_row ((W.setCell ⟨w.heap.size, 2, none⟩ (.int .i64 nn)).setRow (w.heap.size + 1) #[]) (w.heap.size + 1) off #[] 24 (0, 0) (H6.out.set []); simpa using this : ∀ off, ((W.setCell ⟨w.heap.size, 2, none⟩ (.int .i64 nn)).setRow (w.heap.size + 1) #[]).cell? ⟨w.heap.size + 1, off, none⟩ = none)
    clear hb0
    go_wp2_with (first
      | (refine wpList_load_midG (by rfl) 24 (.tmp 3) rfl w.heap.size 0 rfl _ _ H3.out.range Tryd.underlying24 rfl size24 ?_)
      | (refine wpList_load_midG (by rfl) 35 (.tmp 7) rfl g 0 rfl _ _ H7.out.range Tryd.underlying35 rfl size35 ?_))
    refine HPU.out.mono ?_
    rintro e w9 ⟨v9, rfl, hr9, hb9⟩
    have H69 := Lib.hid (H6.out.below hb9)
    have HR9 := Lib.hid hr9
    have HB9 := Lib.hid hb9
    have hone9 := rl_one hr9
    clear hr9 hb9 HPU
    go_wp2_with (refine wpList_store_row rfl 24 (.tmp 6) (.tmp 97) rfl (w.heap.size + 1) (stC c n nn v9).toArray rfl rfl 24 #[.int .i64 0, .int .i64 0, .int .i64 0, .slice none 0 0] H69.out size24 rfl (st_all c n nn hone9) ?_)
    refine bodyPost_ret (results_cell_row rfl _ _ (w.heap.size + 1) 24 (stC c n nn v9).toArray (0, 0) _ rfl (H69.out.set (stC c n nn v9)) Tryd.underlying24 rfl size24) rfl ?_
    have hfin : Below w.heap.size w (w9.setRow (w.heap.size + 1) (stC c n nn v9).toArray) := below_setRow (HB.out.trans (HB9.out.mono HB.out.size)) (by omega) _
    exact ⟨c, n, nn, v9, putS xs m, rfl, rso_end (c := 0) (n := 0) (l := 0) (u := .slice none 0 0) H69.out (by have := HB9.out.size; simpa using this) (fun p hp hl => (HB9.out.block p (by simpa using hl)).trans (setRow_other (W.setCell ⟨w.heap.size, 2, none⟩ (.int .i64 nn)) (w.heap.size + 1) p #[] hp).symm) HN0.out HR9.out _, hfin, fun y hy => by
      rcases mem_put.1 hy with rfl | ⟨hy, _⟩
      · exact HOK.out
      · exact (HMD.out.ok y hy).2.2.2.bt⟩
  · have fi := HW3.out.frozen 0
    have ci := HW3.out.bx.cell (i := 0) (by simp)
    simp only [List.getElem_cons_succ, List.getElem_cons_zero] at ci
    have H7 := Lib.hid (show Wh (W.setCell ⟨w.heap.size, 0, none⟩ (.int .i64 (nn.tmod 1000000))) g (subC m (.slice Aa m.acks.length ka) (.slice Aq m.queue.length kq)) 35 from HW7.out.set1Other (k := w.heap.size) (by omega) 0 (.int .i64 (nn.tmod 1000000)))
    have H3 := Lib.hid (show Wh (W.setCell ⟨w.heap.size, 0, none⟩ (.int .i64 (nn.tmod 1000000))) w.heap.size (stC (nn.tmod 1000000) n la (.slice (some ⟨bb, off, none⟩) xs.length ca)) 24 from HW3.out.set1 0 (.int .i64 (nn.tmod 1000000)))
    have H6 := Lib.hid (show Wh (W.setCell ⟨w.heap.size, 0, none⟩ (.int .i64 (nn.tmod 1000000))) (w.heap.size + 1) (stC 0 0 0 (.slice none 0 0)) 24 from HW6.out.set1Other (k := w.heap.size) (by omega) 0 (.int .i64 (nn.tmod 1000000)))
    have HB := Lib.hid (HBW.out.setCell (p := ⟨w.heap.size, 0, none⟩) (Nat.le_refl _) (.int .i64 (nn.tmod 1000000)))
    have HOK := Lib.hid (show BtOk m from by have b := HSM.out.bt; exact b)
    have hb0 : Below w.heap.size w ((W.setCell ⟨w.heap.size, 0, none⟩ (.int .i64 (nn.tmod 1000000))).setRow (w.heap.size + 1) #[]) := below_setRow HB.out (by omega) #[]
    have HPU := Lib.hid (put_any (nn.tmod 1000000) n la (.slice (some ⟨bb, off, none⟩) xs.length ca) xs m (.slice Aa m.acks.length ka) (.slice Aq m.queue.length kq) ((W.setCell ⟨w.heap.size, 0, none⟩ (.int .i64 (nn.tmod 1000000))).setRow (w.heap.size + 1) #[]) (W.setCell ⟨w.heap.size, 0, none⟩ (.int .i64 (nn.tmod 1000000))) (rso_mk HV.out hb0 HB.out) (HRA.out.below stays_ci hb0) (HRQ.out.below stays_cm hb0) (by omega))
    have HN0 := Lib.hid (fun off => by have := cell_of_row ((W.setCell ⟨w.heap.size, 0, none⟩ (.int .i64 (nn.tmod 1000000))).setRow (w.heap.size + 1) #[]) (w.heap.size + 1) off #[] 24 (0, 0) (H6.out.set []); simpa using this : ∀ off, ((W.setCell ⟨w.heap.size, 0, none⟩ (.int .i64 (nn.tmod 1000000))).setRow (w.heap.size + 1) #[]).cell? ⟨w.heap.size + 1, off, none⟩ = none)
    clear hb0
    go_wp2_with (first
      | (refine wpList_load_midG (by rfl) 24 (.tmp 3) rfl w.heap.size 0 rfl _ _ H3.out.range Tryd.underlying24 rfl size24 ?_)
      | (refine wpList_load_midG (by rfl) 35 (.tmp 7) rfl g 0 rfl _ _ H7.out.range Tryd.underlying35 rfl size35 ?_))
    refine HPU.out.mono ?_
    rintro e w9 ⟨v9, rfl, hr9, hb9⟩
    have H69 := Lib.hid (H6.out.below hb9)
    have HR9 := Lib.hid hr9
    have HB9 := Lib.hid hb9
    have hone9 := rl_one hr9
    clear hr9 hb9 HPU
    go_wp2_with (refine wpList_store_row rfl 24 (.tmp 6) (.tmp 97) rfl (w.heap.size + 1) (stC (nn.tmod 1000000) n la v9).toArray rfl rfl 24 #[.int .i64 0, .int .i64 0, .int .i64 0, .slice none 0 0] H69.out size24 rfl (st_all (nn.tmod 1000000) n la hone9) ?_)
    refine bodyPost_ret (results_cell_row rfl _ _ (w.heap.size + 1) 24 (stC (nn.tmod 1000000) n la v9).toArray (0, 0) _ rfl (H69.out.set (stC (nn.tmod 1000000) n la v9)) Tryd.underlying24 rfl size24) rfl ?_
    have hfin : Below w.heap.size w (w9.setRow (w.heap.size + 1) (stC (nn.tmod 1000000) n la v9).toArray) := below_setRow (HB.out.trans (HB9.out.mono HB.out.size)) (by omega) _
    exact ⟨(nn.tmod 1000000), n, la, v9, putS xs m, rfl, rso_end (c := 0) (n := 0) (l := 0) (u := .slice none 0 0) H69.out (by have := HB9.out.size; simpa using this) (fun p hp hl => (HB9.out.block p (by simpa using hl)).trans (setRow_other (W.setCell ⟨w.heap.size, 0, none⟩ (.int .i64 (nn.tmod 1000000))) (w.heap.size + 1) p #[] hp).symm) HN0.out HR9.out _, hfin, fun y hy => by
      rcases mem_put.1 hy with rfl | ⟨hy, _⟩
      · exact HOK.out
      · exact (HMD.out.ok y hy).2.2.2.bt⟩
  · have n0 : ((q : Int) == 0) = false := beq_eq_false_iff_ne.2 (by omega)
    have n1 : ((q : Int) == 1) = false := beq_eq_false_iff_ne.2 (by omega)
    have n2 : ((q : Int) == 2) = false := beq_eq_false_iff_ne.2 (by omega)
    have n3 : ((q : Int) == 3) = false := beq_eq_false_iff_ne.2 (by omega)
    have n4 : ((q : Int) == 4) = false := beq_eq_false_iff_ne.2 (by omega)
    have n5 : ((q : Int) == 5) = false := beq_eq_false_iff_ne.2 (by omega)
    have n6 : ((q : Int) == 6) = false := beq_eq_false_iff_ne.2 (by omega)
    have n7 : ((q : Int) == 7) = false := beq_eq_false_iff_ne.2 (by omega)
    have n8 : ((q : Int) == 8) = false := beq_eq_false_iff_ne.2 (by omega)
    have n9 : ((q : Int) == 9) = false := beq_eq_false_iff_ne.2 (by omega)
    have c8 := HW7.out.bx.cell (i := 8) (by simp [subC])
    simp only [subC, List.getElem_cons_succ, List.getElem_cons_zero] at c8
    have HSQ := Lib.hid (src_msgs (P := Tryd.prog) (HRQ.out.below stays_cm HBW.out) Tryd.underlying33)
    have hql := HSM.out.ql
    go_wp2_with (at_builtin; refine wpList_own rfl (.tmp 29) (.tmp 31) 33 33 rfl W.heap.size 55 (.agg #[.int .i64 0, .string .empty, .string .empty, .int .i64 0, .int .i64 0, .bool false, .string .empty, .int .i64 0]) 8 88 Tryd.underlying33 infoMsg rfl rfl (World.ownsRow_nil _ _ _ _) rfl HSQ.out (Below.refl _ _) (Nat.le_refl _) ?_ ?_ ?_ ?_)
    · unfold maxLen; omega
    · omega
    · exact Nat.le_refl _
    intro v5 w5 hown5 hbel5 _
    have hown5 : w5.ownsRow W.heap.size 55 8 v5 m.queue.length (m.queue.map msgC).flatten := by simpa using hown5
    obtain ⟨A5, c5, rfl, _⟩ := own_shape hown5
    have HO5 := Lib.hid hown5
    have HB5 := Lib.hid hbel5
    clear hown5 hbel5 c8 n0 n1 n2 n3 n4 n5 n6 n7 n8 n9 HSQ
    obtain ⟨r3, hr3⟩ : ∃ r, r = k % 3 := ⟨_, rfl⟩
    obtain ⟨r2, hr2⟩ : ∃ r, r = k % 2 := ⟨_, rfl⟩
    have t3 : (k : Int).tmod 3 = (r3 : Int) := by rw [Int.tmod_eq_emod_of_nonneg (by omega)]; omega
    have t2 : (k : Int).tmod 2 = (r2 : Int) := by rw [Int.tmod_eq_emod_of_nonneg (by omega)]; omega
    have hr33 : r3 < 3 := by omega
    have hr22 : r2 < 2 := by omega
    obtain ⟨bd, hbd⟩ : ∃ bd, bd = ((r2 : Int) == 0) := ⟨_, rfl⟩
    have HBD := Lib.hid hbd
    have hmd1 := hmd.n0
    have hmd2 := hmd.n1
    have hl3 := HW3.out.lt
    have c1 := HW3.out.bx.cell (i := 1) (by simp)
    simp only [List.getElem_cons_succ, List.getElem_cons_zero] at c1
    clear hr3 hr2
    go_wp2_with fail
    refine wp_region_held_drew (S := fun W2 => Below W.heap.size W W2) (by kernel_rfl) HB5.out.drew (fun hHeld => ?_)
    refine tkC 0 ?_
    refine tkC 1 ?_
    refine tkA 2 (v := .int .i64 n) ?_ ?_
    · intro W2 hSw; have hq := (hSw.cell (p := ⟨w.heap.size, 1, none⟩) hl3).trans c1; go_simp; try (with_reducible rfl)
    try simp only [Act.put, zA, zB, zC]
    refine tkA 3 (v := .int .i64 (n - 1)) ?_ ?_
    · intro W2 hSw; go_simp; try (first | done | go_num | (rw [IntKind.wrap_i64]; omega) | (rw [IntKind.wrap_u8]; omega))
    try simp only [Act.put, zA, zB, zC]
    refine tkC 4 ?_
    refine tkA 5 (v := .int .i64 (nn.tmod 1000)) ?_ ?_
    · intro W2 hSw; go_simp; try (first | done | go_num | (rw [IntKind.wrap_i64]; omega) | (rw [IntKind.wrap_u8]; omega))
    try simp only [Act.put, zA, zB, zC]
    refine tkC 6 ?_
    refine tkA 7 (v := .int .u8 (r3 : Nat)) ?_ ?_
    · intro W2 hSw; go_simp; try (first | done | rw [t3])
    try simp only [Act.put, zA, zB, zC]
    refine tkA 8 (v := .int .i64 (r3 : Nat)) ?_ ?_
    · intro W2 hSw; go_simp; try (first | done | go_num | (rw [IntKind.wrap_i64]; omega) | (rw [IntKind.wrap_u8]; omega))
    try simp only [Act.put, zA, zB, zC]
    refine tkC 9 ?_
    refine tkA 10 (v := .int .u8 (r2 : Nat)) ?_ ?_
    · intro W2 hSw; go_simp; try (first | done | rw [t2])
    try simp only [Act.put, zA, zB, zC]
    refine tkA 11 (v := .bool bd) ?_ ?_
    · intro W2 hSw; go_simp; try (first | done | rw [hbd])
    try simp only [Act.put, zA, zB, zC]
    clear hbd HBD
    refine tkC 13 ?_
    refine tkA 14 (v := .int .u8 (r3 : Nat)) ?_ ?_
    · intro W2 hSw; go_simp; try (first | done | rw [t3])
    try simp only [Act.put, zA, zB, zC]
    refine rdA (rs := [12]) (arC (i := 12) fun K hK => ?_)
    have hHeld2 : Below W.heap.size W (w5.drew.alloc (.cells #[.string ⟨#[]⟩, .string ⟨#[110, 97, 99, 107]⟩, .string ⟨#[120]⟩] 9)) := HB5.out.drew.alloc HB5.out.size _
    go_simp
    refine hK.out _ _ ?_ (fun _ => ?_)
    · exact hHeld2
    clear hK K hHeld
    obtain ⟨wl, hwl⟩ : ∃ wl, wl = whyL r3 := ⟨_, rfl⟩
    obtain ⟨Wb, hWb⟩ : ∃ W2, W2 = (w5.alloc (.cells #[.string ⟨#[]⟩, .string ⟨#[110, 97, 99, 107]⟩, .string ⟨#[120]⟩] 9)).drew := ⟨_, rfl⟩
    have hHeld : Below W.heap.size W Wb := by rw [hWb]; exact hHeld2
    have hwb : Wh Wb w5.heap.size [.string ⟨#[]⟩, .string ⟨#[110, 97, 99, 107]⟩, .string ⟨#[120]⟩] 9 := by rw [hWb]; exact Wh.new w5 [.string ⟨#[]⟩, .string ⟨#[110, 97, 99, 107]⟩, .string ⟨#[120]⟩] 9
    have hob : Wb.ownsRow W.heap.size 55 8 (.slice A5 m.queue.length c5) m.queue.length (m.queue.map msgC).flatten := by rw [hWb]; exact HO5.out.alloc _
    have hcb : Wb.cell? ⟨w5.heap.size, r3, none⟩ = some (sv wl) := by
      rw [hwl]
      rcases (show r3 = 0 ∨ r3 = 1 ∨ r3 = 2 by omega) with h | h | h <;> rw [h] <;> exact hwb.bx.cell (i := _) (by simp)
    rw [← hWb]
    clear hWb hHeld2 hwb hwl
    try simp only [Act.put, zA, zB, zC]
    refine tkA 15 (v := .pointer (some ⟨w5.heap.size, r3, none⟩)) ?_ ?_
    · intro W2 hSw; go_simp; try (first | done | rw [if_pos (by omega)] | (intro h; exact absurd h (by omega)))
    try simp only [Act.put, zA, zB, zC]
    refine rdA (rs := [16]) (arC (i := 16) fun K hK => ?_)
    go_simp
    refine hK.out _ _ ?_ (fun _ => ?_)
    · exact hHeld
    clear hK K
    try simp only [Act.put, zA, zB, zC]
    refine tkA 17 (v := .agg #[.int .i64 (n - 1), .string ⟨#[]⟩, .string ⟨#[]⟩, .int .i64 (r3 : Nat), .int .i64 (nn.tmod 1000), .bool bd, sv wl, .int .i64 0]) ?_ ?_
    · intro W2 hSw; go_simp; try (first | done | rfl)
    try simp only [Act.put, zA, zB, zC]
    refine rdA (rs := [18]) (arC (i := 18) fun K hK => ?_)
    have hHeld2 : Below W.heap.size W (Wb.alloc (.cells #[.int .i64 (n - 1), .string ⟨#[]⟩, .string ⟨#[]⟩, .int .i64 (r3 : Nat), .int .i64 (nn.tmod 1000), .bool bd, sv wl, .int .i64 0] 55)) := hHeld.alloc hHeld.size _
    have HSR := Lib.hid (show Src Tryd.prog 8 33 (.slice (some ⟨Wb.heap.size, 0, none⟩) 1 1) 1 (msgC ⟨n - 1, [], [], (r3 : Nat), nn.tmod 1000, bd, wl, 0⟩) (Wb.alloc (.cells #[.int .i64 (n - 1), .string ⟨#[]⟩, .string ⟨#[]⟩, .int .i64 (r3 : Nat), .int .i64 (nn.tmod 1000), .bool bd, sv wl, .int .i64 0] 55)) from src_cells (P := Tryd.prog) Wb rfl Tryd.underlying33 55 (msgC ⟨n - 1, [], [], (r3 : Nat), nn.tmod 1000, bd, wl, 0⟩) (msg_one _))
    go_simp
    refine hK.out _ _ ?_ (fun _ => ?_)
    · exact hHeld2
    clear hK K
    try simp only [Act.put, zA, zB, zC]
    refine rdA (rs := [19]) (arC (i := 19) fun K hK => ?_)
    refine step_own rfl (.tmp 33) (.tmp 51) 33 33 rfl W.heap.size 55 (.agg #[.int .i64 0, .string .empty, .string .empty, .int .i64 0, .int .i64 0, .bool false, .string .empty, .int .i64 0]) 8 88 Tryd.underlying33 infoMsg rfl rfl (hob.alloc _) rfl HSR.out hHeld2 (Nat.le_refl _) ?_ ?_ ?_ ?_
    · unfold maxLen; omega
    · omega
    · have := hHeld2.size; omega
    intro v8 w8 hown8 hbel8 _
    refine hK.out _ _ ?_ (fun _ => ?_)
    · exact hbel8
    clear hK K
    try simp only [Act.put, zA, zB, zC]
    refine tkC 20 ?_
    refine wpAnyH_done (by kernel_rfl) ?_ _
    obtain ⟨A8, c8, rfl, _⟩ := own_shape hown8
    have hom : OM W.heap.size w8 (.slice A8 (m.queue.length + 1) c8) (m.queue ++ [⟨n - 1, [], [], (r3 : Nat), nn.tmod 1000, bd, wl, 0⟩]) := by
      unfold OM
      rw [List.length_append, List.map_append, List.flatten_append]
      simpa using hown8
    have hw3 := HW3.out.below hbel8
    have hw6 := HW6.out.below hbel8
    have hw7 := HW7.out.below hbel8
    have hbw := HBW.out.trans (hbel8.mono HBW.out.size)
    have hsz8 := hbel8.size
    clear HW3 HW6 HW7 HBW hbel8 hown8 hHeld hHeld2 HSR hob hcb c1 t2 t3
    have HOM := Lib.hid hom
    have HW3 := Lib.hid hw3
    have HW6 := Lib.hid hw6
    have HW7 := Lib.hid hw7
    have HBW := Lib.hid hbw
    clear hw3 hw6 hw7 hbw hom
    have fi := HW7.out.frozen 8
    have ci := HW7.out.bx.cell (i := 8) (by simp [subC])
    simp only [subC, List.getElem_cons_succ, List.getElem_cons_zero] at ci
    have H7 := Lib.hid (show Wh (w8.setCell ⟨g, 8, none⟩ (.slice A8 (m.queue.length + 1) c8)) g (subC { m with queue := m.queue ++ [⟨n - 1, [], [], (r3 : Nat), nn.tmod 1000, bd, wl, 0⟩] } (.slice Aa m.acks.length ka) (.slice A8 (m.queue.length + 1) c8)) 35 from HW7.out.set1 8 (.slice A8 (m.queue.length + 1) c8))
    have H3 := Lib.hid (show Wh (w8.setCell ⟨g, 8, none⟩ (.slice A8 (m.queue.length + 1) c8)) w.heap.size (stC c n la (.slice (some ⟨bb, off, none⟩) xs.length ca)) 24 from HW3.out.set1Other (k := g) (by omega) 8 (.slice A8 (m.queue.length + 1) c8))
    have H6 := Lib.hid (show Wh (w8.setCell ⟨g, 8, none⟩ (.slice A8 (m.queue.length + 1) c8)) (w.heap.size + 1) (stC 0 0 0 (.slice none 0 0)) 24 from HW6.out.set1Other (k := g) (by omega) 8 (.slice A8 (m.queue.length + 1) c8))
    have HB := Lib.hid (HBW.out.setCell (p := ⟨g, 8, none⟩) (show w.heap.size ≤ g by omega) (.slice A8 (m.queue.length + 1) c8))
    have HOM2 := Lib.hid (own_apart HOM.out (grown_cell w8 g 8 (.slice A8 (m.queue.length + 1) c8)) (fun k hk => by have := (HOM.out.lt k hk).1; omega))
    have HTI := Lib.hid (show nn.tmod 1000 ≤ 9223372036854775807 by have := Int.tmod_lt_of_pos nn (show (0 : Int) < 1000 by omega); omega)
    have HOK := Lib.hid (show BtOk { m with queue := m.queue ++ [⟨n - 1, [], [], (r3 : Nat), nn.tmod 1000, bd, wl, 0⟩] } from by have b := HSM.out.bt; exact ⟨⟨b.ok.name, b.ok.topic, b.ok.want, fun z hz => by rcases List.mem_append.1 hz with e | e; exact b.ok.attr z e; rw [List.mem_singleton.1 e]; exact Nat.zero_le _⟩, fun z hz => by rcases List.mem_append.1 hz with e | e; exact b.til z e; rw [List.mem_singleton.1 e]; exact HTI.out⟩)
    have hb0 : Below w.heap.size w ((w8.setCell ⟨g, 8, none⟩ (.slice A8 (m.queue.length + 1) c8)).setRow (w.heap.size + 1) #[]) := below_setRow HB.out (by omega) #[]
    have HPU := Lib.hid (put_any c n la (.slice (some ⟨bb, off, none⟩) xs.length ca) xs { m with queue := m.queue ++ [⟨n - 1, [], [], (r3 : Nat), nn.tmod 1000, bd, wl, 0⟩] } (.slice Aa m.acks.length ka) (.slice A8 (m.queue.length + 1) c8) ((w8.setCell ⟨g, 8, none⟩ (.slice A8 (m.queue.length + 1) c8)).setRow (w.heap.size + 1) #[]) (w8.setCell ⟨g, 8, none⟩ (.slice A8 (m.queue.length + 1) c8)) (rso_mk HV.out hb0 HB.out) (HRA.out.below stays_ci hb0) (rl_block fixed_cm (OM.rl HOM2.out) (by simp) (fun k hk => setRow_other _ (w.heap.size + 1) k _ (by have := (HOM.out.lt k hk).1; omega))) (by omega))
    have HN0 := Lib.hid (fun off => by have := cell_of_row ((w8.setCell ⟨g, 8, none⟩ (.slice A8 (m.queue.length + 1) c8)).setRow (w.heap.size + 1) #[]) (w.heap.size + 1) off #[] 24 (0, 0) (H6.out.set []); simpa using this : ∀ off, ((w8.setCell ⟨g, 8, none⟩ (.slice A8 (m.queue.length + 1) c8)).setRow (w.heap.size + 1) #[]).cell? ⟨w.heap.size + 1, off, none⟩ = none)
    clear hb0
    go_wp2_with (first
      | (refine wpList_load_midG (by rfl) 24 (.tmp 3) rfl w.heap.size 0 rfl _ _ H3.out.range Tryd.underlying24 rfl size24 ?_)
      | (refine wpList_load_midG (by rfl) 35 (.tmp 7) rfl g 0 rfl _ _ H7.out.range Tryd.underlying35 rfl size35 ?_))
    refine HPU.out.mono ?_
    rintro e w9 ⟨v9, rfl, hr9, hb9⟩
    have H69 := Lib.hid (H6.out.below hb9)
    have HR9 := Lib.hid hr9
    have HB9 := Lib.hid hb9
    have hone9 := rl_one hr9
    clear hr9 hb9 HPU
    go_wp2_with (refine wpList_store_row rfl 24 (.tmp 6) (.tmp 97) rfl (w.heap.size + 1) (stC c n la v9).toArray rfl rfl 24 #[.int .i64 0, .int .i64 0, .int .i64 0, .slice none 0 0] H69.out size24 rfl (st_all c n la hone9) ?_)
    refine bodyPost_ret (results_cell_row rfl _ _ (w.heap.size + 1) 24 (stC c n la v9).toArray (0, 0) _ rfl (H69.out.set (stC c n la v9)) Tryd.underlying24 rfl size24) rfl ?_
    have hfin : Below w.heap.size w (w9.setRow (w.heap.size + 1) (stC c n la v9).toArray) := below_setRow (HB.out.trans (HB9.out.mono HB.out.size)) (by omega) _
    exact ⟨c, n, la, v9, putS xs { m with queue := m.queue ++ [⟨n - 1, [], [], (r3 : Nat), nn.tmod 1000, bd, wl, 0⟩] }, rfl, rso_end (c := 0) (n := 0) (l := 0) (u := .slice none 0 0) H69.out (by have := HB9.out.size; simpa using this) (fun p hp hl => (HB9.out.block p (by simpa using hl)).trans (setRow_other (w8.setCell ⟨g, 8, none⟩ (.slice A8 (m.queue.length + 1) c8)) (w.heap.size + 1) p #[] hp).symm) HN0.out HR9.out _, hfin, fun y hy => by
      rcases mem_put.1 hy with rfl | ⟨hy, _⟩
      · exact HOK.out
      · exact (HMD.out.ok y hy).2.2.2.bt⟩
end Go.Proofs.YtcmkmdghekkkhaaDoor
