/-
  The statements' own sub (layer one): a subscription of choices, that is told and read again.; The walk of OneKeys.
-/
import Derived.BigQuiet
import Derived.Deep.QuietTactic
import Derived.Test.YtmdkonfmbbbepaaDoorKUCG
import Derived.Test.YtmdkonfmbbbepaaDoorKUCJ
import Derived.Test.YtmdkonfmbbbepaaDoorKUDB
set_option linter.unusedVariables false
set_option linter.unusedVariables false
set_option linter.unusedSimpArgs false
namespace Go.Proofs.YtmdkonfmbbbepaaDoor
open Go.RowKit Go.Rst Go.Tp Go.Ts Go.Tk Go.Crc Go.On Go.Pg
theorem cell_mem {W : World} {cb : Nat} {Z : List Value} {t : TypeId} (h : Wh W cb Z t) {i : Nat} {v : Value} (hv : W.cell? ⟨cb, i, none⟩ = some v) : v ∈ Z := by
  rw [cell_of_row W cb i Z.toArray t (0, 0) h] at hv
  simp at hv
  exact List.mem_of_getElem? hv
theorem ri_box {W : World} {cb : Nat} {Z : List Value} {t : TypeId} (h : Wh W cb Z t) (hz : ∀ n : Int, Value.int .i64 n ∈ Z → n = 0) {v : Value} {l : List Int} (hr : Go.Ts.RI W v l) (hn : ∀ n ∈ l, n ≠ 0) (C : Array Value) : Go.Ts.RI (W.setRow cb C) v l := by
  obtain ⟨A, c, h1, h2, h3, h4⟩ := hr
  refine ⟨A, c, h1, h2, h3, ?_⟩
  rcases h4 with h4 | ⟨b, off, h5, h6, h7⟩
  · exact .inl h4
  · refine .inr ⟨b, off, h5, by simpa using h6, fun j hj => ?_⟩
    obtain ⟨cs, h8, h9⟩ := h7 j hj
    refine ⟨cs, h8, fun i hi => ?_⟩
    by_cases hb : b = cb
    · exfalso
      have h8 : cs = [.int .i64 l[j]] := h8
      have := h9 0 (by rw [h8]; simp)
      rw [hb] at this
      have := cell_mem h this
      rw [show cs[0]'(by rw [h8]; simp) = .int .i64 l[j] by simp [h8]] at this
      exact hn _ (List.getElem_mem hj) (hz _ this)
    · exact (World.cell?_of_block (a := ⟨b, off + j * 1 + i, none⟩) (setRow_other W cb b C hb)).trans (h9 i hi)
theorem rm_box {W : World} {cb : Nat} {Z : List Value} {t : TypeId} (h : Wh W cb Z t) (hz : ∀ d : Bool, ¬ Value.bool d ∈ Z) {v : Value} {l : List Msg} (hr : RM W v l) (C : Array Value) : RM (W.setRow cb C) v l := by
  obtain ⟨A, c, h1, h2, h3, h4⟩ := hr
  refine ⟨A, c, h1, h2, h3, ?_⟩
  rcases h4 with h4 | ⟨b, off, h5, h6, h7⟩
  · exact .inl h4
  · refine .inr ⟨b, off, h5, by simpa using h6, fun j hj => ?_⟩
    obtain ⟨cs, h8, h9⟩ := h7 j hj
    refine ⟨cs, h8, fun i hi => ?_⟩
    by_cases hb : b = cb
    · exfalso
      have h8 : cs = msgC l[j] := h8
      have := h9 5 (by rw [h8]; simp [msgC])
      rw [hb] at this
      have := cell_mem h this
      rw [show cs[5]'(by rw [h8]; simp [msgC]) = .bool l[j].dead by simp [h8, msgC]] at this
      exact hz _ this
    · exact (World.cell?_of_block (a := ⟨b, off + j * 8 + i, none⟩) (setRow_other W cb b C hb)).trans (h9 i hi)
def GivesB1 (w : World) (id : Int) (e : Ending) (w' : World) : Prop := ∃ (x : Ts.Sub) (av qv : Value), e = .returned (.agg (subC x av qv).toArray) ∧ Go.Ts.RI w' av x.acks ∧ RM w' qv x.queue ∧ Below w.heap.size w w' ∧ x.id = id ∧ BackOk x ∧ x.acks.length ≤ 20 ∧ x.queue.length ≤ 30
set_option maxRecDepth 100000 in
set_option maxHeartbeats 4000000 in
theorem sub12_any {cv : Value} {l : List UInt8} {w : World} (k : Nat) (hk : k ≤ 255) (h : RB w cv l) : Calls Tryd.prog 6 #[cv, .int .u8 k] w (GivesB1 w (1 + (k : Int))) := by
  obtain ⟨W0, hW0⟩ : ∃ W0, W0 = w.alloc (.cells #[.int .i64 0, .string ⟨#[]⟩, .string ⟨#[]⟩, .string ⟨#[]⟩, .int .i64 0, .int .i64 0, .int .i64 0, .slice none 0 0, .slice none 0 0, .string ⟨#[]⟩] 27) := ⟨_, rfl⟩
  have hb0 : Below w.heap.size w W0 := by rw [hW0]; exact (Below.refl _ w).alloc (Nat.le_refl _) _
  have hw0 : Wh W0 w.heap.size [.int .i64 0, .string ⟨#[]⟩, .string ⟨#[]⟩, .string ⟨#[]⟩, .int .i64 0, .int .i64 0, .int .i64 0, .slice none 0 0, .slice none 0 0, .string ⟨#[]⟩] 27 := by rw [hW0]; exact Wh.new w _ _
  have HS := Lib.hid (sub_any (1 + (k : Int)) 9 (2 + (k : Int)) (by omega) (by omega) (by omega) (by omega) (h.below hb0))
  have HB0 := Lib.hid hb0
  have HW0 := Lib.hid hw0
  clear h hb0 hw0
  go_enter Tryd.func6, Tryd.ntmps6
  go_wp2_with fail
  rw [← hW0]
  clear hW0
  refine HS.out.mono ?_
  rintro e w1 ⟨x, av, qv, rfl, ha, hq, hb1, hid, hgood, hal, hql, hms, hnl, htl, hwl⟩
  have hback := good_back (hgood (by omega) (by omega)) (by omega) (by omega) htl hwl hms
  obtain ⟨C, hC⟩ : ∃ C, C = subC x av qv := ⟨_, rfl⟩
  have HC := Lib.hid (show Cub C by rw [hC]; exact Cub.mk_ x (rl_one ha) (rl_one hq))
  have HCE := Lib.hid hC
  have HW1 := Lib.hid (HW0.out.below hb1)
  have HB1 := Lib.hid (HB0.out.trans (hb1.mono HB0.out.size))
  have HA := Lib.hid ha
  have HQ := Lib.hid hq
  have hnz : ∀ n ∈ x.acks, n ≠ 0 := fun n hn => by
    have h1 := hgood (by omega) (by omega)
    unfold goodB fieldsB at h1
    simp only [Bool.and_eq_true, decide_eq_true_eq] at h1
    have := ack_all h1.1.2 n hn
    omega
  have HX := Lib.hid (And.intro hid (And.intro hback (And.intro hal (And.intro hql hnz))))
  have HL1 := Lib.hid (show w.heap.size < W0.heap.size from HW0.out.lt)
  rw [← hC]
  clear ha hq hb1 hid hgood hal hql hms hnl htl hwl hback hC hnz
  go_wp2_with (first | (refine wpList_store_row rfl 27 (.tmp 4) (.tmp 12) rfl w.heap.size C.toArray rfl rfl 27 #[.int .i64 0, .string ⟨#[]⟩, .string ⟨#[]⟩, .string ⟨#[]⟩, .int .i64 0, .int .i64 0, .int .i64 0, .slice none 0 0, .slice none 0 0, .string ⟨#[]⟩] HW1.out HC.out.info HC.out.old HC.out.all ?_))
  refine bodyPost_ret (results_cell_row rfl _ _ w.heap.size 27 C.toArray (0, 0) _ rfl (HW1.out.set C) Tryd.underlying27 rfl HC.out.info) rfl ?_
  have hg := grown_row w1 w.heap.size C.toArray
  refine ⟨x, av, qv, by rw [HCE.out], ?_, ?_, below_setRow HB1.out (Nat.le_refl _) _, HX.out.1, HX.out.2.1, HX.out.2.2.1, HX.out.2.2.2.1⟩
  · exact ri_box HW1.out (fun n hn => by simp at hn; exact hn) HA.out HX.out.2.2.2.2 _
  · exact rm_box HW1.out (fun d hd => by simp at hd) HQ.out _
end Go.Proofs.YtmdkonfmbbbepaaDoor
set_option linter.unusedVariables false
set_option linter.unusedSimpArgs false
namespace Go.Proofs.YtmdkonfmbbbepaaDoor
open Go.RowKit Go.Rst Go.Tp Go.Ts Go.Tk Go.Crc Go.On Go.Pg
theorem refParts_ky (t : UInt8) (id s : Int) (ht : 97 ≤ t.toNat ∧ t.toNat ≤ 122) (hi : 0 ≤ id ∧ id ≤ 9999999999) (hs : 0 ≤ s ∧ s ≤ 9999999999) (W : World) (hp : Pow W) : Calls Tryd.prog 13 #[.string (ky t id s)] W fun e w' => e = .returned (.tuple #[.int .i64 1, .int .u8 t.toNat, .int .i64 id, .int .i64 s, .bool true]) ∧ Below W.heap.size W w' := by
  have := refParts_any 1 t id.toNat s.toNat (by decide) ht.1 ht.2 (by omega) (by omega) W hp
  rw [show ((id.toNat : Nat) : Int) = id by omega, show ((s.toNat : Nat) : Int) = s by omega] at this
  exact this
set_option maxRecDepth 100000 in
set_option maxHeartbeats 16000000 in
theorem keys_walk (cv : Value) (l : List UInt8) (k : Nat) (w : World) (hcv : RB w cv l) (hlm : l.length ≤ 140737488351232) (hk : k ≤ 255) (hp : Pow w) :
    Calls Tryd.prog 4 #[cv, .int .u8 k] w fun e w' => e = .returned (.bool true) ∧ Below w.heap.size w w' := by
  have HS := Lib.hid (sub12_any k hk hcv)
  have HP := Lib.hid hp
  clear hcv hp hlm
  go_enter Tryd.func4, Tryd.ntmps4
  go_wp2_with fail
  refine HS.out.mono ?_
  rintro e w1 ⟨x, av, qv, rfl, ha, hq, hb1, hid, hback, hal, hql⟩
  obtain ⟨Aq, cq, hqe, _⟩ := hq.shape
  obtain ⟨C, hC⟩ : ∃ C, C = subC x av qv := ⟨_, rfl⟩
  have HC := Lib.hid (show Cub C by rw [hC]; exact Cub.mk_ x (rl_one ha) (rl_one hq))
  have HB2 := Lib.hid (box_below w1 C)
  have HW2 := Lib.hid (box_wh w1 C)
  have HB1 := Lib.hid hb1
  have HEN := Lib.hid (by have := encode_any x av qv (boxW w1 C) (ha.below stays_ci HB2.out) (hq.below stays_cm HB2.out) (back_enc hback (by omega) (by omega)) (HP.out.below (hb1.trans (HB2.out.mono hb1.size))); rw [← hC] at this; exact this : Calls Tryd.prog 7 #[.agg C.toArray] (boxW w1 C) (GivesRw (boxW w1 C) (enc1L x)))
  have HC0 := Lib.hid (show C[0]? = some (.int .i64 x.id) by rw [hC]; rfl)
  have HC8 := Lib.hid (show C[8]? = some (.slice Aq x.queue.length cq) by rw [hC, hqe]; rfl)
  have HRW := Lib.hid (enc_rows hback)
  have HPW := Lib.hid (enc_pair hback)
  have HCN := Lib.hid (enc_count x)
  have HID := Lib.hid hback.id
  rw [← hC]
  clear ha hq hb1 hid hback hal hqe hC
  obtain ⟨rs, hrs⟩ : ∃ rs, rs = enc1L x := ⟨_, rfl⟩
  rw [← hrs] at HEN HRW HPW HCN
  obtain ⟨qn, hqn⟩ : ∃ qn, qn = x.queue.length := ⟨_, rfl⟩
  rw [← hqn] at HC8 HCN hql
  obtain ⟨xi, hxi⟩ : ∃ xi, xi = x.id := ⟨_, rfl⟩
  rw [← hxi] at HC0 HRW HID
  clear hrs hqn hxi
  go_wp2_with (first | (refine wpList_load_midG (by rfl) 27 (.tmp 5) rfl w1.heap.size 0 rfl _ _ HW2.out.range Tryd.underlying27 rfl HC.out.infoL ?_) | (refine wpList_store_row rfl 27 (.tmp 5) (.tmp 15) rfl w1.heap.size C.toArray rfl rfl 27 #[.int .i64 0, .string ⟨#[]⟩, .string ⟨#[]⟩, .string ⟨#[]⟩, .int .i64 0, .int .i64 0, .int .i64 0, .slice none 0 0, .slice none 0 0, .string ⟨#[]⟩] (box_old w1) HC.out.info HC.out.old HC.out.all ?_; rw [box_def]))
  refine HEN.out.mono ?_
  rintro e w3 ⟨v3, rfl, hor, hb3⟩
  have hrr := OR.rr hor
  obtain ⟨A3, c3, rfl⟩ := or_shape hor
  have HRR := Lib.hid hrr
  have hcc : (c3 : Int) ≤ 9223372036854775807 ∧ rs.length ≤ c3 := by
    obtain ⟨A, c, he, h1, h2, _⟩ := hrr
    injection he with _ _ he
    subst he
    unfold maxLen at h2
    omega
  have HB3 := Lib.hid ((HB1.out.trans (HB2.out.mono HB1.out.size)).trans (hb3.mono (by have := HB1.out.size; have := HB2.out.size; omega)))
  have HX3 := Lib.hid (HW2.out.below hb3)
  clear hor hrr hb3
  go_wp2_with fail
  go_loopw [7] (fun i wr => ∃ k : Nat, k ≤ rs.length ∧ i = .int .i64 k ∧ Below w3.heap.size w3 wr) (fun i _ => rs.length - (intOf i).toNat)
  case atStart => exact ⟨0, Nat.zero_le _, rfl, Below.refl _ _⟩
  case round =>
    obtain ⟨k, hk, rfl, hbel⟩ := hrel
    have HBL := Lib.hid hbel
    by_cases hlt : k < rs.length
    · obtain ⟨b, off, u, rfl, hbl, hrg, hru, hu1⟩ := rr_two HRR.out hlt
      obtain ⟨t, s, ht1, ht2, hs1, hs2, hkey, hvl⟩ := HRW.out rs[k] (List.getElem_mem hlt)
      have q2 : (k : Int) < (rs.length : Int) := by omega
      have d0 := (hbel.cell (p := ⟨b, off + k * 2 + 0, none⟩) hbl).trans (hrg 0 _ rfl)
      rw [Nat.add_zero, hkey] at d0
      have HPK := Lib.hid (refParts_ky t xi s ⟨ht1, ht2⟩ HID.out ⟨hs1, hs2⟩ wr (HP.out.below (HB3.out.trans (hbel.mono HB3.out.size))))
      obtain ⟨Au, cu, hue, _⟩ := hru
      obtain ⟨vl, hvln⟩ : ∃ vl, vl = rs[k].2.length := ⟨_, rfl⟩
      rw [← hvln] at hvl hue
      have HD0 := Lib.hid (fun W (h : Below w3.heap.size w3 W) => by have := (h.cell (p := ⟨b, off + k * 2 + 0, none⟩) hbl).trans (hrg 0 _ rfl); rw [Nat.add_zero] at this; exact this : ∀ W (h : Below w3.heap.size w3 W), W.cell? ⟨b, off + k * 2, none⟩ = some (.string rs[k].1))
      have HD1 := Lib.hid (fun W (h : Below w3.heap.size w3 W) => by have := (h.cell (p := ⟨b, off + k * 2 + 1, none⟩) hbl).trans (hrg 1 _ rfl); rw [hue] at this; exact this : ∀ W (h : Below w3.heap.size w3 W), W.cell? ⟨b, off + k * 2 + 1, none⟩ = some (.slice Au vl cu))
      have q3 : ¬ (150 : Int) < (vl : Int) := by omega
      have q8 : IntKind.i64.wrap (k : Int) = (k : Int) := by rw [IntKind.wrap_i64]; omega
      clear hkey hrg hue hvl hvln hbel ht1 ht2 hs1 hs2 hu1
      go_wp2_with fail
      refine HPK.out.mono ?_
      rintro e w5 ⟨rfl, hb5⟩
      have hb35 : Below w3.heap.size w3 w5 := HBL.out.trans (hb5.mono HBL.out.size)
      have HX5 := Lib.hid (fun W (h : Below w5.heap.size w5 W) => wh_cell ((HX3.out.below hb35).below h) HC0.out)
      have HK0 := Lib.hid (fun W (h : Below w5.heap.size w5 W) => HD0.out W (hb35.trans (h.mono hb35.size)))
      have HK1 := Lib.hid (fun W (h : Below w5.heap.size w5 W) => HD1.out W (hb35.trans (h.mono hb35.size)))
      have HB35 := Lib.hid hb35
      clear hb5 hb35 d0 HPK
      rcases Nat.eq_zero_or_pos k with hk0 | hkp
      · subst hk0
        have q4 : ¬ (0 : Int) < ((0 : Nat) : Int) := by omega
        go_wp2_with fail
        refine wp_region_held_drew (S := SB [w5]) (by kernel_rfl) (SB.start _) (fun hHeld => ?_)
        refine tkC 0 ?_
        refine tkA 1 (v := .bool false) ?_ ?_
        · intro W hSw; go_simp; try rfl
        try simp only [Act.put, zA, zB, zC]
        refine tkA 2 (v := .bool false) ?_ ?_
        · intro W hSw; go_simp; try rfl
        try simp only [Act.put, zA, zB, zC]
        refine tkC 3 ?_
        refine tkA 4 (v := .bool false) ?_ ?_
        · intro W hSw; go_simp; try rfl
        try simp only [Act.put, zA, zB, zC]
        refine tkA 5 (v := .bool false) ?_ ?_
        · intro W hSw; go_simp; try rfl
        try simp only [Act.put, zA, zB, zC]
        refine tkA 6 (v := .bool false) ?_ ?_
        · intro W hSw; go_simp; try rfl
        try simp only [Act.put, zA, zB, zC]
        refine tkC 7 ?_
        refine tkC 8 ?_
        refine tkA 9 (v := ?_) ?_ ?_
        rotate_left
        · intro W hSw; have hq := HX5.out W (SB.b0 hSw); go_simp; try (with_reducible rfl)
        try simp only [Act.put, zA, zB, zC]
        refine tkA 10 (v := .bool false) ?_ ?_
        · intro W hSw; go_simp; try simp
        try simp only [Act.put, zA, zB, zC]
        refine tkA 11 (v := .bool false) ?_ ?_
        · intro W hSw; go_simp; try rfl
        try simp only [Act.put, zA, zB, zC]
        refine tkA 12 (v := .bool false) ?_ ?_
        · intro W hSw; go_simp; try rfl
        try simp only [Act.put, zA, zB, zC]
        refine tkC 13 ?_
        refine tkC 14 ?_
        refine tkC 15 ?_
        refine tkC 16 ?_
        refine tkA 17 (v := ?_) ?_ ?_
        rotate_left
        · intro W hSw; have hq := HK1.out W (SB.b0 hSw); go_simp; try (with_reducible rfl)
        try simp only [Act.put, zA, zB, zC]
        refine tkC 18 ?_
        refine tkA 19 (v := .bool false) ?_ ?_
        · intro W hSw; go_simp; try simp [q3]; try omega
        try simp only [Act.put, zA, zB, zC]
        refine tkA 20 (v := .bool false) ?_ ?_
        · intro W hSw; go_simp; try rfl
        try simp only [Act.put, zA, zB, zC]
        refine tkA 21 (v := .bool false) ?_ ?_
        · intro W hSw; go_simp; try rfl
        try simp only [Act.put, zA, zB, zC]
        refine tkC 22 ?_
        refine tkA 23 (v := .bool false) ?_ ?_
        · intro W hSw; go_simp; try simp; try omega
        try simp only [Act.put, zA, zB, zC]
        refine tkA 24 (v := .bool false) ?_ ?_
        · intro W hSw; go_simp; try rfl
        try simp only [Act.put, zA, zB, zC]
        refine tkB 25 ?_
        refine tkB 26 ?_
        refine tkB 27 ?_
        refine tkB 28 ?_
        refine tkB 29 ?_
        refine tkB 30 ?_
        refine tkB 31 ?_
        refine tkB 32 ?_
        refine tkB 33 ?_
        refine tkB 34 ?_
        refine tkB 35 ?_
        refine tkB 36 ?_
        refine tkA 37 (v := .bool false) ?_ ?_
        · intro W hSw; go_simp; try rfl
        try simp only [Act.put, zA, zB, zC]
        refine tkA 38 (v := .bool false) ?_ ?_
        · intro W hSw; go_simp; try rfl
        try simp only [Act.put, zA, zB, zC]
        refine wpAnyH_done (by kernel_rfl) ?_ _
        go_wp2
        go_roundw
        case rel => exact ⟨0 + 1, by omega, by go_num, by first | exact HB35.out | exact HB35.out.drew⟩
        case measure => simp [intOf]; omega
      · obtain ⟨j, hj⟩ : ∃ j, k = j + 1 := ⟨k - 1, by omega⟩
        have hjl : j < rs.length := by omega
        obtain ⟨b2, off2, u2, hAe, hbl2, hrg2, _, _⟩ := rr_two HRR.out hjl
        injection hAe with hAe
        injection hAe with e1 e2 _
        subst e1
        subst e2
        have HKP := Lib.hid (fun W (h : Below w5.heap.size w5 W) => by have p0 := ((HB35.out.trans (h.mono HB35.out.size)).cell (p := ⟨b, off + j * 2 + 0, none⟩) hbl).trans (hrg2 0 _ rfl); rw [Nat.add_zero] at p0; exact p0 : ∀ W (h : Below w5.heap.size w5 W), W.cell? ⟨b, off + j * 2, none⟩ = some (.string rs[j].1))
        have hless : Op.bytesLess rs[j].1.toList rs[k].1.toList = true := List.pairwise_iff_getElem.1 HPW.out j k hjl hlt (by omega)
        have hle2 : Op.bytesLess rs[k].1.toList rs[j].1.toList = false := by
          cases h : Op.bytesLess rs[k].1.toList rs[j].1.toList with
          | false => rfl
          | true => have := Go.Pg.bl_trans _ _ _ hless h; rw [Go.Pg.bl_irrefl] at this; cases this
        have hne2 : ¬ rs[k].1.toList = rs[j].1.toList := fun h => by rw [h, Go.Pg.bl_irrefl] at hless; cases hless
        have q4 : (0 : Int) < (k : Int) := by omega
        have q5 : (k : Int) - 1 = (j : Int) := by omega
        have q6 : (j : Int) < (rs.length : Int) := by omega
        have q7 : IntKind.i64.wrap (j : Int) = (j : Int) := by rw [IntKind.wrap_i64]; omega
        generalize rs[j].1 = x1 at *
        generalize rs[k].1 = x2 at *
        clear hrg2 hj
        go_wp2_with fail
        refine wp_region_held_drew (S := SB [w5]) (by kernel_rfl) (SB.start _) (fun hHeld => ?_)
        refine tkC 0 ?_
        refine tkA 1 (v := .bool false) ?_ ?_
        · intro W hSw; go_simp; try rfl
        try simp only [Act.put, zA, zB, zC]
        refine tkA 2 (v := .bool false) ?_ ?_
        · intro W hSw; go_simp; try rfl
        try simp only [Act.put, zA, zB, zC]
        refine tkC 3 ?_
        refine tkA 4 (v := .bool false) ?_ ?_
        · intro W hSw; go_simp; try rfl
        try simp only [Act.put, zA, zB, zC]
        refine tkA 5 (v := .bool false) ?_ ?_
        · intro W hSw; go_simp; try rfl
        try simp only [Act.put, zA, zB, zC]
        refine tkA 6 (v := .bool false) ?_ ?_
        · intro W hSw; go_simp; try rfl
        try simp only [Act.put, zA, zB, zC]
        refine tkC 7 ?_
        refine tkC 8 ?_
        refine tkA 9 (v := ?_) ?_ ?_
        rotate_left
        · intro W hSw; have hq := HX5.out W (SB.b0 hSw); go_simp; try (with_reducible rfl)
        try simp only [Act.put, zA, zB, zC]
        refine tkA 10 (v := .bool false) ?_ ?_
        · intro W hSw; go_simp; try simp
        try simp only [Act.put, zA, zB, zC]
        refine tkA 11 (v := .bool false) ?_ ?_
        · intro W hSw; go_simp; try rfl
        try simp only [Act.put, zA, zB, zC]
        refine tkA 12 (v := .bool false) ?_ ?_
        · intro W hSw; go_simp; try rfl
        try simp only [Act.put, zA, zB, zC]
        refine tkC 13 ?_
        refine tkC 14 ?_
        refine tkC 15 ?_
        refine tkC 16 ?_
        refine tkA 17 (v := ?_) ?_ ?_
        rotate_left
        · intro W hSw; have hq := HK1.out W (SB.b0 hSw); go_simp; try (with_reducible rfl)
        try simp only [Act.put, zA, zB, zC]
        refine tkC 18 ?_
        refine tkA 19 (v := .bool false) ?_ ?_
        · intro W hSw; go_simp; try simp [q3]; try omega
        try simp only [Act.put, zA, zB, zC]
        refine tkA 20 (v := .bool false) ?_ ?_
        · intro W hSw; go_simp; try rfl
        try simp only [Act.put, zA, zB, zC]
        refine tkA 21 (v := .bool false) ?_ ?_
        · intro W hSw; go_simp; try rfl
        try simp only [Act.put, zA, zB, zC]
        refine tkC 22 ?_
        refine tkA 23 (v := .bool true) ?_ ?_
        · intro W hSw; go_simp; try simp; try omega
        try simp only [Act.put, zA, zB, zC]
        refine tkA 24 (v := .bool true) ?_ ?_
        · intro W hSw; go_simp; try rfl
        try simp only [Act.put, zA, zB, zC]
        refine tkC 25 ?_
        refine tkC 26 ?_
        refine tkC 27 ?_
        refine tkC 28 ?_
        refine tkA 29 (v := ?_) ?_ ?_
        rotate_left
        · intro W hSw; have hq := HK0.out W (SB.b0 hSw); go_simp; try (with_reducible rfl)
        try simp only [Act.put, zA, zB, zC]
        refine tkC 30 ?_
        refine tkC 31 ?_
        refine tkC 32 ?_
        refine tkC 33 ?_
        refine tkC 34 ?_
        refine tkA 35 (v := ?_) ?_ ?_
        rotate_left
        · intro W hSw; have hq := HKP.out W (SB.b0 hSw); go_simp; try (with_reducible rfl)
        try simp only [Act.put, zA, zB, zC]
        refine tkA 36 (v := .bool false) ?_ ?_
        · intro W hSw; go_simp; try simp [hle2, hne2]
        try simp only [Act.put, zA, zB, zC]
        refine tkA 37 (v := .bool false) ?_ ?_
        · intro W hSw; go_simp; try rfl
        try simp only [Act.put, zA, zB, zC]
        refine tkA 38 (v := .bool false) ?_ ?_
        · intro W hSw; go_simp; try rfl
        try simp only [Act.put, zA, zB, zC]
        refine wpAnyH_done (by kernel_rfl) ?_ _
        go_wp2
        go_roundw
        case rel => exact ⟨k + 1, by omega, by go_num, by first | exact HB35.out | exact HB35.out.drew⟩
        case measure => simp [intOf]; omega
    · have q2 : ¬ (k : Int) < (rs.length : Int) := by omega
      have hbw := HB3.out.trans (HBL.out.mono HB3.out.size)
      have HKN := Lib.hid (known12_any wr (HP.out.below hbw))
      have HBW := Lib.hid hbw
      have HCC := Lib.hid (show (1 : Int) + (qn : Int) ≤ (rs.length : Int) by have := HCN.out; omega)
      clear hbw hbel
      go_wp2_with fail
      refine HKN.out.mono ?_
      rintro e w5 ⟨rfl, hb5⟩
      have x8 := wh_cell (HX3.out.below (HBL.out.trans (hb5.mono HBL.out.size))) HC8.out
      have HBE := Lib.hid (HBW.out.trans (hb5.mono HBW.out.size))
      have q9 := HCC.out
      clear hb5
      go_wp2
      go_ret
      exact ⟨rfl, HBE.out⟩
end Go.Proofs.YtmdkonfmbbbepaaDoor
