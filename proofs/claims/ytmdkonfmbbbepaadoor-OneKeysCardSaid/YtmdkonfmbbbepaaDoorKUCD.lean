/-
  The contract of the program's queue (layer one).; The contracts of the program's death and extras (layer one).; The contracts of slices.Grow and slices.Concat of rows, and of the program's Encode (layer one).
-/
import Derived.Test.YtmdkonfmbbbepaaDoorKUBJ
set_option linter.unusedVariables false
set_option linter.unusedVariables false
set_option linter.unusedSimpArgs false
namespace Go.Proofs.YtmdkonfmbbbepaaDoor
open Go.RowKit Go.Rst Go.Tp Go.Ts Go.Tk Go.Crc Go.On Go.Pg
set_option maxRecDepth 100000 in
set_option maxHeartbeats 8000000 in
theorem queue1_any (x : Ts.Sub) (av qv : Value) (w : World) (ha : Go.Ts.RI w av x.acks) (hq : RM w qv x.queue) (hx : EncOk x) (hp : Pow w) :
    Calls Tryd.prog 18 #[.agg (subC x av qv).toArray] w (GivesRw w (queL x.id x.queue)) := by
  have hI := InB.mk_ ha hq hx hp
  obtain ⟨Aq, kq, rfl, hkq, hqm⟩ := hq.shape
  unfold maxLen at hqm
  obtain ⟨W0, hW0⟩ : ∃ W0, W0 = w.alloc (.cells (subC x av (.slice Aq x.queue.length kq)).toArray 27) := ⟨_, rfl⟩
  rw [← hW0] at hI
  obtain ⟨C, hC⟩ : ∃ C, C = subC x av (.slice Aq x.queue.length kq) := ⟨_, rfl⟩
  rw [← hC] at hI hW0 ⊢
  have HI := Lib.hid hI
  have HQ := Lib.hid hq
  have d8 : C[8]? = some (.slice Aq x.queue.length kq) := by rw [hC]; rfl
  have hql := hx.queue
  have HMG := Lib.hid hx.msg
  obtain ⟨id, hid⟩ : ∃ id, id = x.id := ⟨_, rfl⟩
  obtain ⟨qs, hqs⟩ : ∃ qs, qs = x.queue := ⟨_, rfl⟩
  rw [← hqs] at d8 hql HMG HQ hkq ⊢
  rw [← hid]
  have HID := Lib.hid hid
  clear hI ha hq hx hp hC hid hqs
  go_enter Tryd.func18, Tryd.ntmps18
  go_wp2_with fail
  rw [← hW0]
  clear hW0 d8
  go_loopw [3, 10] (fun lv i wr => ∃ k : Nat, k ≤ qs.length ∧ i = .int .i64 k ∧ OR 5 42 wr W0.heap.size lv (queL id (qs.take k)) ∧ Below W0.heap.size W0 wr) (fun _ i _ => qs.length - (intOf i).toNat)
  case atStart => exact ⟨0, Nat.zero_le _, rfl, OR.nil_ _ _ _ _, Below.refl _ _⟩
  case round =>
    obtain ⟨k, hk, rfl, hor, hbel⟩ := hrel
    obtain ⟨us, hus, ho, hfs⟩ := hor
    have husl : us.length ≤ 100000 := by have := congrArg List.length hus; simp [queL] at this; omega
    have HUS := Lib.hid hus
    have HO := Lib.hid ho
    have HFS := Lib.hid hfs
    have HB := Lib.hid hbel
    obtain ⟨Ao, co, rfl, _⟩ := own_shape ho
    clear hus ho hfs hbel
    by_cases hlt : k < qs.length
    · have q2 : (k : Int) < (qs.length : Int) := by omega
      have hbw : Below w.heap.size w wr := HI.out.bel.trans (HB.out.mono HI.out.bel.size)
      obtain ⟨b, off, rfl, hbq, hrg0⟩ := rm_at (HQ.out.below stays_cm hbw) hlt
      have hmk := HMG.out qs[k] (List.getElem_mem hlt)
      have htk := que_snoc id (qs.take k) qs[k]
      rw [← List.take_succ_eq_append_getElem hlt] at htk
      obtain ⟨m, hm⟩ : ∃ m, m = qs[k] := ⟨_, rfl⟩
      rw [← hm] at hrg0 hmk htk
      obtain ⟨seq, body, attr, tries, til, dead, why, prio⟩ := m
      simp only [msgC] at hmk htk
      obtain ⟨M, hM⟩ : ∃ M, M = msgC ⟨seq, body, attr, tries, til, dead, why, prio⟩ := ⟨_, rfl⟩
      rw [← hM] at hrg0
      have HM8 := Lib.hid (show M.length = 8 by rw [hM]; rfl)
      have HML := Lib.hid (show (Tryd.prog.info? 45).map (·.size) = some M.length by rw [hM]; exact size57)
      have HMA := Lib.hid (show (Tryd.prog.info? 45).map (·.size) = some M.toArray.size by rw [hM]; exact size57)
      have HMZ := Lib.hid (show (#[.int .i64 0, .string ⟨#[]⟩, .string ⟨#[]⟩, .int .i64 0, .int .i64 0, .bool false, .string ⟨#[]⟩, .int .i64 0] : Array Value).size = M.toArray.size by rw [hM]; rfl)
      have HMI := Lib.hid (And.intro (show M[0]? = some (.int .i64 seq) by rw [hM]; rfl) (And.intro (show M[1]? = some (sv body) by rw [hM]; rfl) (And.intro (show M[2]? = some (sv attr) by rw [hM]; rfl) (And.intro (show M[3]? = some (.int .i64 tries) by rw [hM]; rfl) (And.intro (show M[4]? = some (.int .i64 til) by rw [hM]; rfl) (And.intro (show M[5]? = some (.bool dead) by rw [hM]; rfl) (show M[7]? = some (.int .i64 prio) by rw [hM]; rfl)))))))
      have HRG := Lib.hid hrg0
      have HTK := Lib.hid htk
      have HMK := Lib.hid hmk
      have HNW := Lib.hid (Wh.new wr [.int .i64 0, .string ⟨#[]⟩, .string ⟨#[]⟩, .int .i64 0, .int .i64 0, .bool false, .string ⟨#[]⟩, .int .i64 0] 45)
      obtain ⟨W5, hW5⟩ : ∃ W5, W5 = (wr.alloc (.cells #[.int .i64 0, .string ⟨#[]⟩, .string ⟨#[]⟩, .int .i64 0, .int .i64 0, .bool false, .string ⟨#[]⟩, .int .i64 0] 45)).setRow wr.heap.size M.toArray := ⟨_, rfl⟩
      have hm5 : Wh W5 wr.heap.size M 45 := by rw [hW5]; exact HNW.out.set M
      have hb5 : Below wr.heap.size wr W5 := by rw [hW5]; exact below_setRow ((Below.refl _ wr).alloc (Nat.le_refl _) _) (Nat.le_refl _) _
      have HM5 := Lib.hid hm5
      have HB5 := Lib.hid hb5
      have hb05 := HB.out.trans (hb5.mono HB.out.size)
      have hone : M.toArray.all (·.oneCell') = true := by rw [hM]; simp [msgC, Value.oneCell']
      have HON := Lib.hid hone
      have ho5 := own_below HO.out hb5
      have hf5 : ∀ y ∈ us, FB 5 W5 W0.heap.size y.2.2 y.2.1 := fun y hy => (HFS.out y hy).below hb5
      have hd5 := wh_cell hm5 HMI.out.2.2.2.2.2.1
      have hd7 := wh_cell hm5 HMI.out.2.2.2.2.2.2
      have HW5 := Lib.hid hW5
      clear hW5
      clear hm hbw hmk htk hrg0 hm5 hone hM
      have HT1 := Lib.hid (fun W => textS_any body HMK.out.2.2.1 W)
      have HT2 := Lib.hid (fun W => textS_any attr HMK.out.2.2.2.1 W)
      have HN3 := Lib.hid (fun W => numS_any tries W)
      have HN4 := Lib.hid (fun W => numS_any til W)
      have main : ∀ dv : Int, dv = (if dead then 1 else 0) → queL id (qs.take (k + 1)) = queL id (qs.take k) ++ [(ky 113 id seq, textL body ++ textL attr ++ nL tries ++ nL til ++ nL dv)] := by
        intro dv hdv
        rw [HTK.out, hdv]
        rfl
      have HMAIN := Lib.hid main
      clear main
      have HVLE := Lib.hid (fun (dv : Int) => by
        simp only [List.length_append]
        have := textL_le HMK.out.2.2.1
        have := textL_le HMK.out.2.2.2.1
        have := nL_le tries
        have := nL_le til
        have := nL_le dv
        omega : ∀ dv : Int, (textL body ++ textL attr ++ nL tries ++ nL til ++ nL dv).length ≤ 1000000)
      cases dead
      all_goals (
        go_wp2_with (first | (refine wpList_load_midG (by rfl) 45 (.tmp 12) rfl b (off + k * 8) rfl _ _ HRG.out Tryd.underlying45 rfl HML.out ?_) | (refine wpList_store_row rfl 45 (.tmp 5) (.tmp 13) rfl wr.heap.size M.toArray rfl rfl 45 #[.int .i64 0, .string ⟨#[]⟩, .string ⟨#[]⟩, .int .i64 0, .int .i64 0, .bool false, .string ⟨#[]⟩, .int .i64 0] HNW.out HMA.out HMZ.out HON.out ?_; rw [← HW5.out]))
        clear HW5 hd5 hd7)
      · have HN5 := Lib.hid (fun W => numS_any 0 W)
        obtain ⟨V, hV⟩ : ∃ V, V = textL body ++ textL attr ++ nL tries ++ nL til ++ nL 0 := ⟨_, rfl⟩
        have HTK2 := Lib.hid (HMAIN.out 0 (by simp))
        have HVL := Lib.hid (HVLE.out 0)
        rw [← hV] at HTK2 HVL
        have HCAT := Lib.hid (fun (v1 v2 v3 v4 v5 : Value) => by rw [hV]; simp [cat] : ∀ (v1 v2 v3 v4 v5 : Value), cat [(v1, textL body), (v2, textL attr), (v3, nL tries), (v4, nL til), (v5, nL 0)] = V)
        clear hV
        have ho : W5.drew.ownsRow W0.heap.size 42 2 _ us.length (rowCells us) := ho5
        have hf : ∀ y ∈ us, FB 5 W5.drew W0.heap.size y.2.2 y.2.1 := hf5
        clear ho5 hf5
        have hb5s := HB5.out.size
        refine wp_region_held_drew (S := SQ W0 wr.heap.size M) (by kernel_rfl) ⟨hb05.drew, HM5.out⟩ (fun hHeld => ?_)
        refine tkC 0 ?_
        refine tkA 1 (v := .agg C.toArray) (fun W hSw => exec_load_mid 27 (.tmp 1) rfl w.heap.size 0 rfl _ _ (HI.out.range hSw.a) Tryd.underlying27 rfl HI.out.cub.infoL) ?_
        try simp only [Act.put, zA, zB, zC]
        refine tkC 2 ?_
        refine tkA 3 (v := ?_) ?_ ?_
        rotate_left
        · intro W hSw; have hq := wh_cell hSw.b HMI.out.1; go_simp; try (with_reducible rfl)
        try simp only [Act.put, zA, zB, zC]
        refine tkC 4 ?_
        refine tkA 5 (v := ?_) ?_ ?_
        rotate_left
        · intro W hSw; have hq := wh_cell hSw.b HMI.out.2.1; go_simp; try (with_reducible rfl)
        try simp only [Act.put, zA, zB, zC]
        refine tkC 7 ?_
        refine tkA 8 (v := ?_) ?_ ?_
        rotate_left
        · intro W hSw; have hq := wh_cell hSw.b HMI.out.2.2.1; go_simp; try (with_reducible rfl)
        try simp only [Act.put, zA, zB, zC]
        refine tkC 10 ?_
        refine tkA 11 (v := ?_) ?_ ?_
        rotate_left
        · intro W hSw; have hq := wh_cell hSw.b HMI.out.2.2.2.1; go_simp; try (with_reducible rfl)
        try simp only [Act.put, zA, zB, zC]
        refine tkC 13 ?_
        refine tkA 14 (v := ?_) ?_ ?_
        rotate_left
        · intro W hSw; have hq := wh_cell hSw.b HMI.out.2.2.2.2.1; go_simp; try (with_reducible rfl)
        try simp only [Act.put, zA, zB, zC]
        refine tkC 16 ?_
        refine rdA (rs := [6]) (arC (i := 6) fun K hK => ?_)
        go_simp
        refine (HT1.out _).mono ?_
        rintro e wc1 ⟨vc1, rfl, hown1, hb⟩
        obtain ⟨A1, c1, rfl, _⟩ := own_shape hown1
        have hv1 := RB.own hown1
        clear hown1
        have hsz1 : W5.heap.size ≤ wc1.heap.size := hb.size
        have ho := own_below ho hb
        have hf : ∀ y ∈ us, FB 5 wc1 W0.heap.size y.2.2 y.2.1 := fun y hy => (hf y hy).below hb
        try (go_wp2_with fail)
        have hHeld' := hHeld.step hb
        refine hK.out _ _ ?_ (fun _ => ?_)
        · exact hHeld'
        clear hK K hHeld
        have hHeld := hHeld'
        clear hHeld'
        try simp only [Act.put, zA, zB, zC]
        refine rdA (rs := [9]) (arC (i := 9) fun K hK => ?_)
        go_simp
        refine (HT2.out _).mono ?_
        rintro e wc2 ⟨vc2, rfl, hown2, hb⟩
        obtain ⟨A2, c2, rfl, _⟩ := own_shape hown2
        have hv2 := RB.own hown2
        clear hown2
        have hv1 := hv1.below hb
        have hsz2 : wc1.heap.size ≤ wc2.heap.size := hb.size
        have ho := own_below ho hb
        have hf : ∀ y ∈ us, FB 5 wc2 W0.heap.size y.2.2 y.2.1 := fun y hy => (hf y hy).below hb
        try (go_wp2_with fail)
        have hHeld' := hHeld.step hb
        refine hK.out _ _ ?_ (fun _ => ?_)
        · exact hHeld'
        clear hK K hHeld
        have hHeld := hHeld'
        clear hHeld'
        try simp only [Act.put, zA, zB, zC]
        refine rdA (rs := [12]) (arC (i := 12) fun K hK => ?_)
        go_simp
        refine (HN3.out _).mono ?_
        rintro e wc3 ⟨vc3, rfl, hown3, hb⟩
        obtain ⟨A3, c3, rfl, _⟩ := own_shape hown3
        have hv3 := RB.own hown3
        clear hown3
        have hv1 := hv1.below hb
        have hv2 := hv2.below hb
        have hsz3 : wc2.heap.size ≤ wc3.heap.size := hb.size
        have ho := own_below ho hb
        have hf : ∀ y ∈ us, FB 5 wc3 W0.heap.size y.2.2 y.2.1 := fun y hy => (hf y hy).below hb
        try (go_wp2_with fail)
        have hHeld' := hHeld.step hb
        refine hK.out _ _ ?_ (fun _ => ?_)
        · exact hHeld'
        clear hK K hHeld
        have hHeld := hHeld'
        clear hHeld'
        try simp only [Act.put, zA, zB, zC]
        refine rdA (rs := [15]) (arC (i := 15) fun K hK => ?_)
        go_simp
        refine (HN4.out _).mono ?_
        rintro e wc4 ⟨vc4, rfl, hown4, hb⟩
        obtain ⟨A4, c4, rfl, _⟩ := own_shape hown4
        have hv4 := RB.own hown4
        clear hown4
        have hv1 := hv1.below hb
        have hv2 := hv2.below hb
        have hv3 := hv3.below hb
        have hsz4 : wc3.heap.size ≤ wc4.heap.size := hb.size
        have ho := own_below ho hb
        have hf : ∀ y ∈ us, FB 5 wc4 W0.heap.size y.2.2 y.2.1 := fun y hy => (hf y hy).below hb
        try (go_wp2_with fail)
        have hHeld' := hHeld.step hb
        refine hK.out _ _ ?_ (fun _ => ?_)
        · exact hHeld'
        clear hK K hHeld
        have hHeld := hHeld'
        clear hHeld'
        try simp only [Act.put, zA, zB, zC]
        refine rdA (rs := [17]) (arC (i := 17) fun K hK => ?_)
        go_simp
        refine (HN5.out _).mono ?_
        rintro e wc5 ⟨vc5, rfl, hown5, hb⟩
        obtain ⟨A5, c5, rfl, _⟩ := own_shape hown5
        have hv5 := RB.own hown5
        clear hown5
        have hv1 := hv1.below hb
        have hv2 := hv2.below hb
        have hv3 := hv3.below hb
        have hv4 := hv4.below hb
        have hsz5 : wc4.heap.size ≤ wc5.heap.size := hb.size
        have ho := own_below ho hb
        have hf : ∀ y ∈ us, FB 5 wc5 W0.heap.size y.2.2 y.2.1 := fun y hy => (hf y hy).below hb
        try (go_wp2_with fail)
        have hHeld' := hHeld.step hb
        refine hK.out _ _ ?_ (fun _ => ?_)
        · exact hHeld'
        clear hK K hHeld
        have hHeld := hHeld'
        clear hHeld'
        try simp only [Act.put, zA, zB, zC]
        refine rdA (rs := [18]) (arC (i := 18) fun K hK => ?_)
        go_simp
        obtain ⟨w6, hw6, hb⟩ : ∃ w6, w6 = wc5.alloc (.cells #[.slice A1 (textL body).length c1, .slice A2 (textL attr).length c2, .slice A3 (nL tries).length c3, .slice A4 (nL til).length c4, .slice A5 (nL 0).length c5] 22) ∧ Below wc5.heap.size wc5 w6 := ⟨_, rfl, (Below.refl _ _).alloc (Nat.le_refl _) _⟩
        rw [← hw6]
        have HPS := Lib.hid (ps_five _ hv1 hv2 hv3 hv4 hv5 hw6 rfl)
        have ho := own_below ho hb
        have hf : ∀ y ∈ us, FB 5 w6 W0.heap.size y.2.2 y.2.1 := fun y hy => (hf y hy).below hb
        have hsz6 : wc5.heap.size ≤ w6.heap.size := hb.size
        clear hw6
        try (go_wp2_with fail)
        have hHeld' := hHeld.step hb
        refine hK.out _ _ ?_ (fun _ => ?_)
        · exact hHeld'
        clear hK K hHeld
        have hHeld := hHeld'
        clear hHeld'
        try simp only [Act.put, zA, zB, zC]
        refine rdA (rs := [19]) (arC (i := 19) fun K hK => ?_)
        go_simp
        refine (HI.out.row hHeld.a 113 113 rfl seq ⟨HMK.out.1, HMK.out.2.1⟩ _ _ HPS.out (by rw [HCAT.out]; exact HVL.out)).mono ?_
        rintro e w7 ⟨u, rfl, hu, hb⟩
        rw [HCAT.out] at hu
        rw [← HID.out]
        obtain ⟨A7, c7, rfl⟩ := hu.shape
        have ho := own_below ho hb
        have hf : ∀ y ∈ us, FB 5 w7 W0.heap.size y.2.2 y.2.1 := fun y hy => (hf y hy).below hb
        have hsz7 : w6.heap.size ≤ w7.heap.size := hb.size
        try (go_wp2_with fail)
        have hHeld' := hHeld.step hb
        refine hK.out _ _ ?_ (fun _ => ?_)
        · exact hHeld'
        clear hK K hHeld
        have hHeld := hHeld'
        clear hHeld'
        try simp only [Act.put, zA, zB, zC]
        refine rdA (rs := [20]) (arC (i := 20) fun K hK => ?_)
        go_simp
        obtain ⟨ky0, hky⟩ : ∃ ky0, ky0 = ky 113 id seq := ⟨_, rfl⟩
        rw [← hky]
        have HKY := Lib.hid hky
        clear hky
        have hbu := hu.base_ (base' := W0.heap.size) (by have := hb05.size; omega)
        obtain ⟨w8, hw8, hb⟩ : ∃ w8, w8 = w7.alloc (.cells #[.string ky0, .slice A7 (V).length c7] 42) ∧ Below w7.heap.size w7 w8 := ⟨_, rfl, (Below.refl _ _).alloc (Nat.le_refl _) _⟩
        have hsr := src_cells (P := Tryd.prog) w7 rfl Tryd.underlying29 42 [.string ky0, .slice A7 (V).length c7] (fun v hv => by simp at hv; rcases hv with rfl | rfl <;> rfl)
        have hsr : Src Tryd.prog 2 29 (.slice (some ⟨w7.heap.size, 0, none⟩) 1 1) 1 [.string ky0, .slice A7 (V).length c7] w8 := by rw [hw8]; exact hsr
        rw [← hw8]
        have ho := own_below ho hb
        have hf : ∀ y ∈ us, FB 5 w8 W0.heap.size y.2.2 y.2.1 := fun y hy => (hf y hy).below hb
        have hbu := hbu.below hb
        have hsz8 : w7.heap.size ≤ w8.heap.size := hb.size
        clear hw8
        try (go_wp2_with fail)
        have hHeld' := hHeld.step hb
        refine hK.out _ _ ?_ (fun _ => ?_)
        · exact hHeld'
        clear hK K hHeld
        have hHeld := hHeld'
        clear hHeld'
        try simp only [Act.put, zA, zB, zC]
        refine rdA (rs := [21]) (arC (i := 21) fun K hK => ?_)
        refine step_own rfl (.tmp 16) (.tmp 36) 29 29 rfl W0.heap.size 42 _ 2 40 Tryd.underlying29 info42 rfl rfl ho rfl hsr hHeld.a (Nat.le_refl _) (by unfold maxLen; omega) (by omega) (by have := hb05.size; omega) ?_
        intro v9 w9 hown9 hbel9 hgr
        have hor9 := OR.push (e := 5) (by decide) ho hf hbu hown9 hgr
        rw [HUS.out, HKY.out, ← HTK2.out] at hor9
        obtain ⟨A9, c9, rfl, _⟩ := own_shape hown9
        try (go_wp2_with fail)
        have hHeld' := SQ.mk hbel9 (wh_grown hHeld.b ho (by decide) hgr)
        refine hK.out _ _ ?_ (fun _ => ?_)
        · exact hHeld'
        clear hK K hHeld
        have hHeld := hHeld'
        clear hHeld'
        try simp only [Act.put, zA, zB, zC]
        refine tkC 22 ?_
        refine wpAnyH_done (by kernel_rfl) ?_ _
        clear ho hf hsr hbu hgr hown9
        have HOR9 := Lib.hid hor9
        have HB9 := Lib.hid hbel9
        clear hor9 hbel9
        go_wp2
        go_roundw
        case rel => exact ⟨k + 1, by omega, by go_num, HOR9.out, HB9.out⟩
        case measure => simp [intOf]; omega
      · have HN5 := Lib.hid (fun W => numS_any 1 W)
        obtain ⟨V, hV⟩ : ∃ V, V = textL body ++ textL attr ++ nL tries ++ nL til ++ nL 1 := ⟨_, rfl⟩
        have HTK2 := Lib.hid (HMAIN.out 1 (by simp))
        have HVL := Lib.hid (HVLE.out 1)
        rw [← hV] at HTK2 HVL
        have HCAT := Lib.hid (fun (v1 v2 v3 v4 v5 : Value) => by rw [hV]; simp [cat] : ∀ (v1 v2 v3 v4 v5 : Value), cat [(v1, textL body), (v2, textL attr), (v3, nL tries), (v4, nL til), (v5, nL 1)] = V)
        clear hV
        have ho : W5.drew.ownsRow W0.heap.size 42 2 _ us.length (rowCells us) := ho5
        have hf : ∀ y ∈ us, FB 5 W5.drew W0.heap.size y.2.2 y.2.1 := hf5
        clear ho5 hf5
        have hb5s := HB5.out.size
        refine wp_region_held_drew (S := SQ W0 wr.heap.size M) (by kernel_rfl) ⟨hb05.drew, HM5.out⟩ (fun hHeld => ?_)
        refine tkC 0 ?_
        refine tkA 1 (v := .agg C.toArray) (fun W hSw => exec_load_mid 27 (.tmp 1) rfl w.heap.size 0 rfl _ _ (HI.out.range hSw.a) Tryd.underlying27 rfl HI.out.cub.infoL) ?_
        try simp only [Act.put, zA, zB, zC]
        refine tkC 2 ?_
        refine tkA 3 (v := ?_) ?_ ?_
        rotate_left
        · intro W hSw; have hq := wh_cell hSw.b HMI.out.1; go_simp; try (with_reducible rfl)
        try simp only [Act.put, zA, zB, zC]
        refine tkC 4 ?_
        refine tkA 5 (v := ?_) ?_ ?_
        rotate_left
        · intro W hSw; have hq := wh_cell hSw.b HMI.out.2.1; go_simp; try (with_reducible rfl)
        try simp only [Act.put, zA, zB, zC]
        refine tkC 7 ?_
        refine tkA 8 (v := ?_) ?_ ?_
        rotate_left
        · intro W hSw; have hq := wh_cell hSw.b HMI.out.2.2.1; go_simp; try (with_reducible rfl)
        try simp only [Act.put, zA, zB, zC]
        refine tkC 10 ?_
        refine tkA 11 (v := ?_) ?_ ?_
        rotate_left
        · intro W hSw; have hq := wh_cell hSw.b HMI.out.2.2.2.1; go_simp; try (with_reducible rfl)
        try simp only [Act.put, zA, zB, zC]
        refine tkC 13 ?_
        refine tkA 14 (v := ?_) ?_ ?_
        rotate_left
        · intro W hSw; have hq := wh_cell hSw.b HMI.out.2.2.2.2.1; go_simp; try (with_reducible rfl)
        try simp only [Act.put, zA, zB, zC]
        refine tkC 16 ?_
        refine rdA (rs := [6]) (arC (i := 6) fun K hK => ?_)
        go_simp
        refine (HT1.out _).mono ?_
        rintro e wc1 ⟨vc1, rfl, hown1, hb⟩
        obtain ⟨A1, c1, rfl, _⟩ := own_shape hown1
        have hv1 := RB.own hown1
        clear hown1
        have hsz1 : W5.heap.size ≤ wc1.heap.size := hb.size
        have ho := own_below ho hb
        have hf : ∀ y ∈ us, FB 5 wc1 W0.heap.size y.2.2 y.2.1 := fun y hy => (hf y hy).below hb
        try (go_wp2_with fail)
        have hHeld' := hHeld.step hb
        refine hK.out _ _ ?_ (fun _ => ?_)
        · exact hHeld'
        clear hK K hHeld
        have hHeld := hHeld'
        clear hHeld'
        try simp only [Act.put, zA, zB, zC]
        refine rdA (rs := [9]) (arC (i := 9) fun K hK => ?_)
        go_simp
        refine (HT2.out _).mono ?_
        rintro e wc2 ⟨vc2, rfl, hown2, hb⟩
        obtain ⟨A2, c2, rfl, _⟩ := own_shape hown2
        have hv2 := RB.own hown2
        clear hown2
        have hv1 := hv1.below hb
        have hsz2 : wc1.heap.size ≤ wc2.heap.size := hb.size
        have ho := own_below ho hb
        have hf : ∀ y ∈ us, FB 5 wc2 W0.heap.size y.2.2 y.2.1 := fun y hy => (hf y hy).below hb
        try (go_wp2_with fail)
        have hHeld' := hHeld.step hb
        refine hK.out _ _ ?_ (fun _ => ?_)
        · exact hHeld'
        clear hK K hHeld
        have hHeld := hHeld'
        clear hHeld'
        try simp only [Act.put, zA, zB, zC]
        refine rdA (rs := [12]) (arC (i := 12) fun K hK => ?_)
        go_simp
        refine (HN3.out _).mono ?_
        rintro e wc3 ⟨vc3, rfl, hown3, hb⟩
        obtain ⟨A3, c3, rfl, _⟩ := own_shape hown3
        have hv3 := RB.own hown3
        clear hown3
        have hv1 := hv1.below hb
        have hv2 := hv2.below hb
        have hsz3 : wc2.heap.size ≤ wc3.heap.size := hb.size
        have ho := own_below ho hb
        have hf : ∀ y ∈ us, FB 5 wc3 W0.heap.size y.2.2 y.2.1 := fun y hy => (hf y hy).below hb
        try (go_wp2_with fail)
        have hHeld' := hHeld.step hb
        refine hK.out _ _ ?_ (fun _ => ?_)
        · exact hHeld'
        clear hK K hHeld
        have hHeld := hHeld'
        clear hHeld'
        try simp only [Act.put, zA, zB, zC]
        refine rdA (rs := [15]) (arC (i := 15) fun K hK => ?_)
        go_simp
        refine (HN4.out _).mono ?_
        rintro e wc4 ⟨vc4, rfl, hown4, hb⟩
        obtain ⟨A4, c4, rfl, _⟩ := own_shape hown4
        have hv4 := RB.own hown4
        clear hown4
        have hv1 := hv1.below hb
        have hv2 := hv2.below hb
        have hv3 := hv3.below hb
        have hsz4 : wc3.heap.size ≤ wc4.heap.size := hb.size
        have ho := own_below ho hb
        have hf : ∀ y ∈ us, FB 5 wc4 W0.heap.size y.2.2 y.2.1 := fun y hy => (hf y hy).below hb
        try (go_wp2_with fail)
        have hHeld' := hHeld.step hb
        refine hK.out _ _ ?_ (fun _ => ?_)
        · exact hHeld'
        clear hK K hHeld
        have hHeld := hHeld'
        clear hHeld'
        try simp only [Act.put, zA, zB, zC]
        refine rdA (rs := [17]) (arC (i := 17) fun K hK => ?_)
        go_simp
        refine (HN5.out _).mono ?_
        rintro e wc5 ⟨vc5, rfl, hown5, hb⟩
        obtain ⟨A5, c5, rfl, _⟩ := own_shape hown5
        have hv5 := RB.own hown5
        clear hown5
        have hv1 := hv1.below hb
        have hv2 := hv2.below hb
        have hv3 := hv3.below hb
        have hv4 := hv4.below hb
        have hsz5 : wc4.heap.size ≤ wc5.heap.size := hb.size
        have ho := own_below ho hb
        have hf : ∀ y ∈ us, FB 5 wc5 W0.heap.size y.2.2 y.2.1 := fun y hy => (hf y hy).below hb
        try (go_wp2_with fail)
        have hHeld' := hHeld.step hb
        refine hK.out _ _ ?_ (fun _ => ?_)
        · exact hHeld'
        clear hK K hHeld
        have hHeld := hHeld'
        clear hHeld'
        try simp only [Act.put, zA, zB, zC]
        refine rdA (rs := [18]) (arC (i := 18) fun K hK => ?_)
        go_simp
        obtain ⟨w6, hw6, hb⟩ : ∃ w6, w6 = wc5.alloc (.cells #[.slice A1 (textL body).length c1, .slice A2 (textL attr).length c2, .slice A3 (nL tries).length c3, .slice A4 (nL til).length c4, .slice A5 (nL 1).length c5] 22) ∧ Below wc5.heap.size wc5 w6 := ⟨_, rfl, (Below.refl _ _).alloc (Nat.le_refl _) _⟩
        rw [← hw6]
        have HPS := Lib.hid (ps_five _ hv1 hv2 hv3 hv4 hv5 hw6 rfl)
        have ho := own_below ho hb
        have hf : ∀ y ∈ us, FB 5 w6 W0.heap.size y.2.2 y.2.1 := fun y hy => (hf y hy).below hb
        have hsz6 : wc5.heap.size ≤ w6.heap.size := hb.size
        clear hw6
        try (go_wp2_with fail)
        have hHeld' := hHeld.step hb
        refine hK.out _ _ ?_ (fun _ => ?_)
        · exact hHeld'
        clear hK K hHeld
        have hHeld := hHeld'
        clear hHeld'
        try simp only [Act.put, zA, zB, zC]
        refine rdA (rs := [19]) (arC (i := 19) fun K hK => ?_)
        go_simp
        refine (HI.out.row hHeld.a 113 113 rfl seq ⟨HMK.out.1, HMK.out.2.1⟩ _ _ HPS.out (by rw [HCAT.out]; exact HVL.out)).mono ?_
        rintro e w7 ⟨u, rfl, hu, hb⟩
        rw [HCAT.out] at hu
        rw [← HID.out]
        obtain ⟨A7, c7, rfl⟩ := hu.shape
        have ho := own_below ho hb
        have hf : ∀ y ∈ us, FB 5 w7 W0.heap.size y.2.2 y.2.1 := fun y hy => (hf y hy).below hb
        have hsz7 : w6.heap.size ≤ w7.heap.size := hb.size
        try (go_wp2_with fail)
        have hHeld' := hHeld.step hb
        refine hK.out _ _ ?_ (fun _ => ?_)
        · exact hHeld'
        clear hK K hHeld
        have hHeld := hHeld'
        clear hHeld'
        try simp only [Act.put, zA, zB, zC]
        refine rdA (rs := [20]) (arC (i := 20) fun K hK => ?_)
        go_simp
        obtain ⟨ky0, hky⟩ : ∃ ky0, ky0 = ky 113 id seq := ⟨_, rfl⟩
        rw [← hky]
        have HKY := Lib.hid hky
        clear hky
        have hbu := hu.base_ (base' := W0.heap.size) (by have := hb05.size; omega)
        obtain ⟨w8, hw8, hb⟩ : ∃ w8, w8 = w7.alloc (.cells #[.string ky0, .slice A7 (V).length c7] 42) ∧ Below w7.heap.size w7 w8 := ⟨_, rfl, (Below.refl _ _).alloc (Nat.le_refl _) _⟩
        have hsr := src_cells (P := Tryd.prog) w7 rfl Tryd.underlying29 42 [.string ky0, .slice A7 (V).length c7] (fun v hv => by simp at hv; rcases hv with rfl | rfl <;> rfl)
        have hsr : Src Tryd.prog 2 29 (.slice (some ⟨w7.heap.size, 0, none⟩) 1 1) 1 [.string ky0, .slice A7 (V).length c7] w8 := by rw [hw8]; exact hsr
        rw [← hw8]
        have ho := own_below ho hb
        have hf : ∀ y ∈ us, FB 5 w8 W0.heap.size y.2.2 y.2.1 := fun y hy => (hf y hy).below hb
        have hbu := hbu.below hb
        have hsz8 : w7.heap.size ≤ w8.heap.size := hb.size
        clear hw8
        try (go_wp2_with fail)
        have hHeld' := hHeld.step hb
        refine hK.out _ _ ?_ (fun _ => ?_)
        · exact hHeld'
        clear hK K hHeld
        have hHeld := hHeld'
        clear hHeld'
        try simp only [Act.put, zA, zB, zC]
        refine rdA (rs := [21]) (arC (i := 21) fun K hK => ?_)
        refine step_own rfl (.tmp 16) (.tmp 36) 29 29 rfl W0.heap.size 42 _ 2 40 Tryd.underlying29 info42 rfl rfl ho rfl hsr hHeld.a (Nat.le_refl _) (by unfold maxLen; omega) (by omega) (by have := hb05.size; omega) ?_
        intro v9 w9 hown9 hbel9 hgr
        have hor9 := OR.push (e := 5) (by decide) ho hf hbu hown9 hgr
        rw [HUS.out, HKY.out, ← HTK2.out] at hor9
        obtain ⟨A9, c9, rfl, _⟩ := own_shape hown9
        try (go_wp2_with fail)
        have hHeld' := SQ.mk hbel9 (wh_grown hHeld.b ho (by decide) hgr)
        refine hK.out _ _ ?_ (fun _ => ?_)
        · exact hHeld'
        clear hK K hHeld
        have hHeld := hHeld'
        clear hHeld'
        try simp only [Act.put, zA, zB, zC]
        refine tkC 22 ?_
        refine wpAnyH_done (by kernel_rfl) ?_ _
        clear ho hf hsr hbu hgr hown9
        have HOR9 := Lib.hid hor9
        have HB9 := Lib.hid hbel9
        clear hor9 hbel9
        go_wp2
        go_roundw
        case rel => exact ⟨k + 1, by omega, by go_num, HOR9.out, HB9.out⟩
        case measure => simp [intOf]; omega
    · have q2 : ¬ (k : Int) < (qs.length : Int) := by omega
      have hke : qs.take k = qs := List.take_of_length_le (by omega)
      have hus2 := HUS.out
      rw [hke] at hus2
      have HUS2 := Lib.hid hus2
      clear hke hus2 HUS
      go_wp2
      go_ret
      refine GivesRw.mk ?_ (HI.out.bel.trans (HB.out.mono HI.out.bel.size))
      rw [← HUS2.out]
      exact OR.base_ ⟨us, rfl, HO.out, HFS.out⟩ HI.out.bel.size
end Go.Proofs.YtmdkonfmbbbepaaDoor
set_option linter.unusedVariables false
set_option linter.unusedSimpArgs false
namespace Go.Proofs.YtmdkonfmbbbepaaDoor
open Go.RowKit Go.Rst Go.Tp Go.Ts Go.Tk Go.Crc Go.On Go.Pg
set_option maxRecDepth 100000 in
set_option maxHeartbeats 2000000 in
theorem why1_any (w : World) : Calls Tryd.prog 52 #[.int .i64 1] w fun e w' => e = .returned (sv [110, 97, 99, 107]) ∧ w = w' := by
  go_enter Tryd.func52, Tryd.ntmps52
  go_wp2
  go_ret
  exact ⟨rfl, rfl⟩
set_option maxRecDepth 100000 in
set_option maxHeartbeats 2000000 in
theorem death_any (m : Msg) (w : World) (hl : m.why.length ≤ 300000) : Calls Tryd.prog 36 #[.agg (msgC m).toArray] w fun e w' => e = .returned (.int .i64 (kindN m)) ∧ Below w.heap.size w w' := by
  obtain ⟨kd, hkd⟩ : ∃ kd, kd = kindN m := ⟨_, rfl⟩
  rw [← hkd]
  obtain ⟨seq, body, attr, tries, til, dead, why, prio⟩ := m
  have hb := fun cs => (Below.refl w.heap.size w).alloc (Nat.le_refl _) (Obj.cells cs 45)
  have HB := Lib.hid hb
  simp only [msgC]
  clear hb
  cases dead with
  | false =>
    have hk : kd = 0 := by rw [hkd]; rfl
    subst hk
    go_enter Tryd.func36, Tryd.ntmps36
    go_wp2
    go_ret
    exact ⟨rfl, HB.out _⟩
  | true =>
    obtain ⟨W0, hW0⟩ : ∃ W0, W0 = w.alloc (.cells #[.int .i64 seq, sv body, sv attr, .int .i64 tries, .int .i64 til, .bool true, sv why, .int .i64 prio] 45) := ⟨_, rfl⟩
    have hw0 : Wh W0 w.heap.size [.int .i64 seq, sv body, sv attr, .int .i64 tries, .int .i64 til, .bool true, sv why, .int .i64 prio] 45 := by rw [hW0]; exact Wh.new w _ _
    have HC6 := Lib.hid (fun W (h : Below W0.heap.size W0 W) => wh_cell (hw0.below h) (i := 6) rfl)
    have HB0 := Lib.hid (show Below w.heap.size w W0 by rw [hW0]; exact HB.out _)
    clear hw0
    by_cases hw : why = [110, 97, 99, 107]
    · have hk : kd = 1 := by rw [hkd]; simp [kindN, hw]
      subst hk
      have q1 : (why == [110, 97, 99, 107]) = true := by simpa using hw
      clear hw hkd
      go_enter Tryd.func36, Tryd.ntmps36
      go_wp2_with fail
      rw [← hW0]
      clear hW0
      refine wp_region_held_drew (S := SB [W0]) (by kernel_rfl) (SB.start _) (fun hHeld => ?_)
      refine tkC 0 ?_
      refine tkA 1 (v := ?_) ?_ ?_
      rotate_left
      · intro W hSw; have hq := HC6.out W (SB.b0 hSw); go_simp; try (with_reducible rfl)
      try simp only [Act.put, zA, zB, zC]
      refine rdA (rs := [2]) (arC (i := 2) fun K hK => ?_)
      go_simp
      refine (why1_any _).mono ?_
      rintro e w3 ⟨rfl, hw3⟩
      subst w3
      try (go_wp2_with fail)
      have hHeld' := hHeld
      refine hK.out _ _ ?_ (fun _ => ?_)
      · exact hHeld'
      clear hK K hHeld
      have hHeld := hHeld'
      clear hHeld'
      try simp only [Act.put, zA, zB, zC]
      refine tkA 3 (v := .bool true) ?_ ?_
      · intro W hSw; go_simp; try rfl
      try simp only [Act.put, zA, zB, zC]
      refine tkC 4 ?_
      refine wpAnyH_done (by kernel_rfl) ?_ _
      go_wp2
      go_ret
      exact ⟨rfl, HB0.out.trans ((SB.b0 hHeld).mono HB0.out.size)⟩
    · have hk : kd = 2 := by rw [hkd]; simp [kindN, hw]
      subst hk
      have q1 : (why == [110, 97, 99, 107]) = false := by simpa using hw
      clear hw hkd
      go_enter Tryd.func36, Tryd.ntmps36
      go_wp2_with fail
      rw [← hW0]
      clear hW0
      refine wp_region_held_drew (S := SB [W0]) (by kernel_rfl) (SB.start _) (fun hHeld => ?_)
      refine tkC 0 ?_
      refine tkA 1 (v := ?_) ?_ ?_
      rotate_left
      · intro W hSw; have hq := HC6.out W (SB.b0 hSw); go_simp; try (with_reducible rfl)
      try simp only [Act.put, zA, zB, zC]
      refine rdA (rs := [2]) (arC (i := 2) fun K hK => ?_)
      go_simp
      refine (why1_any _).mono ?_
      rintro e w3 ⟨rfl, hw3⟩
      subst w3
      try (go_wp2_with fail)
      have hHeld' := hHeld
      refine hK.out _ _ ?_ (fun _ => ?_)
      · exact hHeld'
      clear hK K hHeld
      have hHeld := hHeld'
      clear hHeld'
      try simp only [Act.put, zA, zB, zC]
      refine tkA 3 (v := .bool false) ?_ ?_
      · intro W hSw; go_simp; try rfl
      try simp only [Act.put, zA, zB, zC]
      refine tkC 4 ?_
      refine wpAnyH_done (by kernel_rfl) ?_ _
      go_wp2
      go_ret
      exact ⟨rfl, HB0.out.trans ((SB.b0 hHeld).mono HB0.out.size)⟩
set_option maxRecDepth 100000 in
set_option maxHeartbeats 8000000 in
theorem extras_any (x : Ts.Sub) (av qv : Value) (w : World) (ha : Go.Ts.RI w av x.acks) (hq : RM w qv x.queue) (hx : EncOk x) (hp : Pow w) :
    Calls Tryd.prog 21 #[.agg (subC x av qv).toArray] w (GivesRw w (extL x.id x.queue)) := by
  have hI := InB.mk_ ha hq hx hp
  obtain ⟨Aq, kq, rfl, hkq, hqm⟩ := hq.shape
  unfold maxLen at hqm
  obtain ⟨W0, hW0⟩ : ∃ W0, W0 = w.alloc (.cells (subC x av (.slice Aq x.queue.length kq)).toArray 27) := ⟨_, rfl⟩
  rw [← hW0] at hI
  obtain ⟨C, hC⟩ : ∃ C, C = subC x av (.slice Aq x.queue.length kq) := ⟨_, rfl⟩
  rw [← hC] at hI hW0 ⊢
  have HI := Lib.hid hI
  have HQ := Lib.hid hq
  have d8 : C[8]? = some (.slice Aq x.queue.length kq) := by rw [hC]; rfl
  have hql := hx.queue
  have HMG := Lib.hid hx.msg
  obtain ⟨id, hid⟩ : ∃ id, id = x.id := ⟨_, rfl⟩
  obtain ⟨qs, hqs⟩ : ∃ qs, qs = x.queue := ⟨_, rfl⟩
  rw [← hqs] at d8 hql HMG HQ hkq ⊢
  rw [← hid]
  have HID := Lib.hid hid
  clear hI ha hq hx hp hC hid hqs
  go_enter Tryd.func21, Tryd.ntmps21
  go_wp2_with fail
  rw [← hW0]
  clear hW0 d8
  go_loopw [3, 9] (fun lv i wr => ∃ k : Nat, k ≤ qs.length ∧ i = .int .i64 k ∧ OR 5 42 wr W0.heap.size lv (extL id (qs.take k)) ∧ Below W0.heap.size W0 wr) (fun _ i _ => qs.length - (intOf i).toNat)
  case atStart => exact ⟨0, Nat.zero_le _, rfl, OR.nil_ _ _ _ _, Below.refl _ _⟩
  case round =>
    obtain ⟨k, hk, rfl, hor, hbel⟩ := hrel
    obtain ⟨us, hus, ho, hfs⟩ := hor
    have husl : us.length ≤ 100000 := by have := congrArg List.length hus; have h2 := List.length_filter_le extB (qs.take k); simp [extL] at this h2; omega
    have HUS := Lib.hid hus
    have HO := Lib.hid ho
    have HFS := Lib.hid hfs
    have HB := Lib.hid hbel
    obtain ⟨Ao, co, rfl, _⟩ := own_shape ho
    clear hus ho hfs hbel
    by_cases hlt : k < qs.length
    · have q2 : (k : Int) < (qs.length : Int) := by omega
      have hbw : Below w.heap.size w wr := HI.out.bel.trans (HB.out.mono HI.out.bel.size)
      obtain ⟨b, off, rfl, hbq, hrg0⟩ := rm_at (HQ.out.below stays_cm hbw) hlt
      have hmk := HMG.out qs[k] (List.getElem_mem hlt)
      have htk := ext_snoc id (qs.take k) qs[k]
      rw [← List.take_succ_eq_append_getElem hlt] at htk
      obtain ⟨m, hm⟩ : ∃ m, m = qs[k] := ⟨_, rfl⟩
      rw [← hm] at hrg0 hmk htk
      obtain ⟨seq, body, attr, tries, til, dead, why, prio⟩ := m
      simp only [msgC] at hmk htk
      obtain ⟨M, hM⟩ : ∃ M, M = msgC ⟨seq, body, attr, tries, til, dead, why, prio⟩ := ⟨_, rfl⟩
      rw [← hM] at hrg0
      have HM8 := Lib.hid (show M.length = 8 by rw [hM]; rfl)
      have HML := Lib.hid (show (Tryd.prog.info? 45).map (·.size) = some M.length by rw [hM]; exact size57)
      have HMA := Lib.hid (show (Tryd.prog.info? 45).map (·.size) = some M.toArray.size by rw [hM]; exact size57)
      have HMZ := Lib.hid (show (#[.int .i64 0, .string ⟨#[]⟩, .string ⟨#[]⟩, .int .i64 0, .int .i64 0, .bool false, .string ⟨#[]⟩, .int .i64 0] : Array Value).size = M.toArray.size by rw [hM]; rfl)
      have HMI := Lib.hid (And.intro (show M[0]? = some (.int .i64 seq) by rw [hM]; rfl) (And.intro (show M[1]? = some (sv body) by rw [hM]; rfl) (And.intro (show M[2]? = some (sv attr) by rw [hM]; rfl) (And.intro (show M[3]? = some (.int .i64 tries) by rw [hM]; rfl) (And.intro (show M[4]? = some (.int .i64 til) by rw [hM]; rfl) (And.intro (show M[5]? = some (.bool dead) by rw [hM]; rfl) (show M[7]? = some (.int .i64 prio) by rw [hM]; rfl)))))))
      have HRG := Lib.hid hrg0
      have HTK := Lib.hid htk
      have HMK := Lib.hid hmk
      have HNW := Lib.hid (Wh.new wr [.int .i64 0, .string ⟨#[]⟩, .string ⟨#[]⟩, .int .i64 0, .int .i64 0, .bool false, .string ⟨#[]⟩, .int .i64 0] 45)
      obtain ⟨W5, hW5⟩ : ∃ W5, W5 = (wr.alloc (.cells #[.int .i64 0, .string ⟨#[]⟩, .string ⟨#[]⟩, .int .i64 0, .int .i64 0, .bool false, .string ⟨#[]⟩, .int .i64 0] 45)).setRow wr.heap.size M.toArray := ⟨_, rfl⟩
      have hm5 : Wh W5 wr.heap.size M 45 := by rw [hW5]; exact HNW.out.set M
      have hb5 : Below wr.heap.size wr W5 := by rw [hW5]; exact below_setRow ((Below.refl _ wr).alloc (Nat.le_refl _) _) (Nat.le_refl _) _
      have HM5 := Lib.hid hm5
      have HB5 := Lib.hid hb5
      have hb05 := HB.out.trans (hb5.mono HB.out.size)
      have hone : M.toArray.all (·.oneCell') = true := by rw [hM]; simp [msgC, Value.oneCell']
      have HON := Lib.hid hone
      have ho5 := own_below HO.out hb5
      have hf5 : ∀ y ∈ us, FB 5 W5 W0.heap.size y.2.2 y.2.1 := fun y hy => (HFS.out y hy).below hb5
      have hd5 := wh_cell hm5 HMI.out.2.2.2.2.2.1
      have hd7 := wh_cell hm5 HMI.out.2.2.2.2.2.2
      have HW5 := Lib.hid hW5
      clear hW5
      clear hm hbw hmk htk hrg0 hm5 hone
      have hM2 := hM
      clear hM
      obtain ⟨kd, hkd⟩ : ∃ kd, kd = kindN ⟨seq, body, attr, tries, til, dead, why, prio⟩ := ⟨_, rfl⟩
      have HN1 := Lib.hid (fun W => numS_any prio W)
      have HN2 := Lib.hid (fun W => numS_any kd W)
      have HDE := Lib.hid (fun W => by have h := death_any ⟨seq, body, attr, tries, til, dead, why, prio⟩ W HMK.out.2.2.2.2; rw [← hM2, ← hkd] at h; exact h : ∀ W, Calls Tryd.prog 36 #[.agg M.toArray] W fun e w' => e = .returned (.int .i64 kd) ∧ Below W.heap.size W w')
      obtain ⟨V, hV⟩ : ∃ V, V = nL prio ++ nL kd := ⟨_, rfl⟩
      have HVX := Lib.hid (show V = extraV ⟨seq, body, attr, tries, til, dead, why, prio⟩ by rw [hV, hkd]; rfl)
      have HVL := Lib.hid (show V.length ≤ 1000000 by rw [hV, List.length_append]; have := nL_le prio; have := nL_le kd; omega)
      have HCAT := Lib.hid (fun (v1 v2 : Value) => by rw [hV]; simp [cat] : ∀ (v1 v2 : Value), cat [(v1, nL prio), (v2, nL kd)] = V)
      clear hV hkd hM2
      have NO : extB ⟨seq, body, attr, tries, til, dead, why, prio⟩ = false → extL id (qs.take (k + 1)) = extL id (qs.take k) := fun h => by rw [HTK.out, if_neg (by rw [h]; decide), List.append_nil]
      have YES : extB ⟨seq, body, attr, tries, til, dead, why, prio⟩ = true → extL id (qs.take (k + 1)) = extL id (qs.take k) ++ [(ky 120 id seq, V)] := fun h => by rw [HTK.out, if_pos h, HVX.out]
      have HNO := Lib.hid NO
      have HYES := Lib.hid YES
      clear NO YES
      by_cases hp0 : prio = 0
      · cases dead
        · have HEQ := Lib.hid (HNO.out (by simp [extB, hp0]))
          have q5 : (prio != 0) = false := by rw [hp0]; rfl
          clear hp0
          go_wp2_with (first | (refine wpList_load_midG (by rfl) 45 (.tmp 11) rfl b (off + k * 8) rfl _ _ HRG.out Tryd.underlying45 rfl HML.out ?_) | (refine wpList_store_row rfl 45 (.tmp 5) (.tmp 12) rfl wr.heap.size M.toArray rfl rfl 45 #[.int .i64 0, .string ⟨#[]⟩, .string ⟨#[]⟩, .int .i64 0, .int .i64 0, .bool false, .string ⟨#[]⟩, .int .i64 0] HNW.out HMA.out HMZ.out HON.out ?_; rw [← HW5.out]))
          have HO5 := Lib.hid ho5
          have HF5 := Lib.hid hf5
          have HB05 := Lib.hid hb05
          clear HW5 hd5 hd7 ho5 hf5 hb05
          go_roundw
          case rel => exact ⟨k + 1, by omega, by go_num, ⟨us, by rw [HEQ.out]; exact HUS.out, HO5.out, HF5.out⟩, HB05.out⟩
          case measure => simp [intOf]; omega
        · have HTK2 := Lib.hid (HYES.out (by simp [extB]))
          have q5 : (prio != 0) = false := by rw [hp0]; rfl
          clear hp0
          go_wp2_with (first | (refine wpList_load_midG (by rfl) 45 (.tmp 11) rfl b (off + k * 8) rfl _ _ HRG.out Tryd.underlying45 rfl HML.out ?_) | (refine wpList_store_row rfl 45 (.tmp 5) (.tmp 12) rfl wr.heap.size M.toArray rfl rfl 45 #[.int .i64 0, .string ⟨#[]⟩, .string ⟨#[]⟩, .int .i64 0, .int .i64 0, .bool false, .string ⟨#[]⟩, .int .i64 0] HNW.out HMA.out HMZ.out HON.out ?_; rw [← HW5.out]))
          clear HW5 hd5 hd7
          have ho : W5.drew.ownsRow W0.heap.size 42 2 _ us.length (rowCells us) := ho5
          have hf : ∀ y ∈ us, FB 5 W5.drew W0.heap.size y.2.2 y.2.1 := hf5
          clear ho5 hf5
          have hb5s := HB5.out.size
          refine wp_region_held_drew (S := SQ W0 wr.heap.size M) (by kernel_rfl) ⟨hb05.drew, HM5.out⟩ (fun hHeld => ?_)
          refine tkC 0 ?_
          refine tkA 1 (v := .agg C.toArray) (fun W hSw => exec_load_mid 27 (.tmp 1) rfl w.heap.size 0 rfl _ _ (HI.out.range hSw.a) Tryd.underlying27 rfl HI.out.cub.infoL) ?_
          try simp only [Act.put, zA, zB, zC]
          refine tkC 2 ?_
          refine tkA 3 (v := ?_) ?_ ?_
          rotate_left
          · intro W hSw; have hq := wh_cell hSw.b HMI.out.1; go_simp; try (with_reducible rfl)
          try simp only [Act.put, zA, zB, zC]
          refine tkC 4 ?_
          refine tkA 5 (v := ?_) ?_ ?_
          rotate_left
          · intro W hSw; have hq := wh_cell hSw.b HMI.out.2.2.2.2.2.2; go_simp; try (with_reducible rfl)
          try simp only [Act.put, zA, zB, zC]
          refine tkA 7 (v := .agg M.toArray) (fun W hSw => exec_load_mid 45 (.tmp 5) rfl wr.heap.size 0 rfl _ _ hSw.b.range Tryd.underlying45 rfl HML.out) ?_
          try simp only [Act.put, zA, zB, zC]
          refine rdA (rs := [6]) (arC (i := 6) fun K hK => ?_)
          go_simp
          refine (HN1.out _).mono ?_
          rintro e wc1 ⟨vc1, rfl, hown1, hb⟩
          obtain ⟨A1, c1, rfl, _⟩ := own_shape hown1
          have hv1 := RB.own hown1
          clear hown1
          have ho := own_below ho hb
          have hf : ∀ y ∈ us, FB 5 wc1 W0.heap.size y.2.2 y.2.1 := fun y hy => (hf y hy).below hb
          have hsz1 : W5.heap.size ≤ wc1.heap.size := hb.size
          try (go_wp2_with fail)
          have hHeld' := hHeld.step hb
          refine hK.out _ _ ?_ (fun _ => ?_)
          · exact hHeld'
          clear hK K hHeld
          have hHeld := hHeld'
          clear hHeld'
          try simp only [Act.put, zA, zB, zC]
          refine rdA (rs := [8]) (arC (i := 8) fun K hK => ?_)
          go_simp
          refine (HDE.out _).mono ?_
          rintro e wc2 ⟨rfl, hb⟩
          have hv1 := hv1.below hb
          have ho := own_below ho hb
          have hf : ∀ y ∈ us, FB 5 wc2 W0.heap.size y.2.2 y.2.1 := fun y hy => (hf y hy).below hb
          have hsz2 : wc1.heap.size ≤ wc2.heap.size := hb.size
          try (go_wp2_with fail)
          have hHeld' := hHeld.step hb
          refine hK.out _ _ ?_ (fun _ => ?_)
          · exact hHeld'
          clear hK K hHeld
          have hHeld := hHeld'
          clear hHeld'
          try simp only [Act.put, zA, zB, zC]
          refine rdA (rs := [9]) (arC (i := 9) fun K hK => ?_)
          go_simp
          refine (HN2.out _).mono ?_
          rintro e wc3 ⟨vc3, rfl, hown3, hb⟩
          obtain ⟨A3, c3, rfl, _⟩ := own_shape hown3
          have hv3 := RB.own hown3
          clear hown3
          have hv1 := hv1.below hb
          have ho := own_below ho hb
          have hf : ∀ y ∈ us, FB 5 wc3 W0.heap.size y.2.2 y.2.1 := fun y hy => (hf y hy).below hb
          have hsz3 : wc2.heap.size ≤ wc3.heap.size := hb.size
          try (go_wp2_with fail)
          have hHeld' := hHeld.step hb
          refine hK.out _ _ ?_ (fun _ => ?_)
          · exact hHeld'
          clear hK K hHeld
          have hHeld := hHeld'
          clear hHeld'
          try simp only [Act.put, zA, zB, zC]
          refine rdA (rs := [10]) (arC (i := 10) fun K hK => ?_)
          go_simp
          obtain ⟨w6, hw6, hb⟩ : ∃ w6, w6 = wc3.alloc (.cells #[.slice A1 (nL prio).length c1, .slice A3 (nL kd).length c3] 22) ∧ Below wc3.heap.size wc3 w6 := ⟨_, rfl, (Below.refl _ _).alloc (Nat.le_refl _) _⟩
          rw [← hw6]
          have HPS := Lib.hid (ps_two _ hv1 hv3 hw6 rfl)
          have ho := own_below ho hb
          have hf : ∀ y ∈ us, FB 5 w6 W0.heap.size y.2.2 y.2.1 := fun y hy => (hf y hy).below hb
          have hsz6 : wc3.heap.size ≤ w6.heap.size := hb.size
          clear hw6
          try (go_wp2_with fail)
          have hHeld' := hHeld.step hb
          refine hK.out _ _ ?_ (fun _ => ?_)
          · exact hHeld'
          clear hK K hHeld
          have hHeld := hHeld'
          clear hHeld'
          try simp only [Act.put, zA, zB, zC]
          refine rdA (rs := [11]) (arC (i := 11) fun K hK => ?_)
          go_simp
          refine (HI.out.row hHeld.a 120 120 rfl seq ⟨HMK.out.1, HMK.out.2.1⟩ _ _ HPS.out (by rw [HCAT.out]; exact HVL.out)).mono ?_
          rintro e w7 ⟨u, rfl, hu, hb⟩
          rw [HCAT.out] at hu
          rw [← HID.out]
          obtain ⟨A7, c7, rfl⟩ := hu.shape
          have ho := own_below ho hb
          have hf : ∀ y ∈ us, FB 5 w7 W0.heap.size y.2.2 y.2.1 := fun y hy => (hf y hy).below hb
          have hsz7 : w6.heap.size ≤ w7.heap.size := hb.size
          try (go_wp2_with fail)
          have hHeld' := hHeld.step hb
          refine hK.out _ _ ?_ (fun _ => ?_)
          · exact hHeld'
          clear hK K hHeld
          have hHeld := hHeld'
          clear hHeld'
          try simp only [Act.put, zA, zB, zC]
          refine rdA (rs := [12]) (arC (i := 12) fun K hK => ?_)
          go_simp
          obtain ⟨ky0, hky⟩ : ∃ ky0, ky0 = ky 120 id seq := ⟨_, rfl⟩
          rw [← hky]
          have HKY := Lib.hid hky
          clear hky
          have hbu := hu.base_ (base' := W0.heap.size) (by have := hb05.size; omega)
          obtain ⟨w8, hw8, hb⟩ : ∃ w8, w8 = w7.alloc (.cells #[.string ky0, .slice A7 (V).length c7] 42) ∧ Below w7.heap.size w7 w8 := ⟨_, rfl, (Below.refl _ _).alloc (Nat.le_refl _) _⟩
          have hsr := src_cells (P := Tryd.prog) w7 rfl Tryd.underlying29 42 [.string ky0, .slice A7 (V).length c7] (fun v hv => by simp at hv; rcases hv with rfl | rfl <;> rfl)
          have hsr : Src Tryd.prog 2 29 (.slice (some ⟨w7.heap.size, 0, none⟩) 1 1) 1 [.string ky0, .slice A7 (V).length c7] w8 := by rw [hw8]; exact hsr
          rw [← hw8]
          have ho := own_below ho hb
          have hf : ∀ y ∈ us, FB 5 w8 W0.heap.size y.2.2 y.2.1 := fun y hy => (hf y hy).below hb
          have hbu := hbu.below hb
          have hsz8 : w7.heap.size ≤ w8.heap.size := hb.size
          clear hw8
          try (go_wp2_with fail)
          have hHeld' := hHeld.step hb
          refine hK.out _ _ ?_ (fun _ => ?_)
          · exact hHeld'
          clear hK K hHeld
          have hHeld := hHeld'
          clear hHeld'
          try simp only [Act.put, zA, zB, zC]
          refine rdA (rs := [13]) (arC (i := 13) fun K hK => ?_)
          refine step_own rfl (.tmp 20) (.tmp 32) 29 29 rfl W0.heap.size 42 _ 2 40 Tryd.underlying29 info42 rfl rfl ho rfl hsr hHeld.a (Nat.le_refl _) (by unfold maxLen; omega) (by omega) (by have := hb05.size; omega) ?_
          intro v9 w9 hown9 hbel9 hgr
          have hor9 := OR.push (e := 5) (by decide) ho hf hbu hown9 hgr
          rw [HUS.out, HKY.out, ← HTK2.out] at hor9
          obtain ⟨A9, c9, rfl, _⟩ := own_shape hown9
          try (go_wp2_with fail)
          have hHeld' := SQ.mk hbel9 (wh_grown hHeld.b ho (by decide) hgr)
          refine hK.out _ _ ?_ (fun _ => ?_)
          · exact hHeld'
          clear hK K hHeld
          have hHeld := hHeld'
          clear hHeld'
          try simp only [Act.put, zA, zB, zC]
          refine tkC 14 ?_
          refine wpAnyH_done (by kernel_rfl) ?_ _
          clear ho hf hsr hbu hgr hown9
          have HOR9 := Lib.hid hor9
          have HB9 := Lib.hid hbel9
          clear hor9 hbel9
          go_wp2
          go_roundw
          case rel => exact ⟨k + 1, by omega, by go_num, HOR9.out, HB9.out⟩
          case measure => simp [intOf]; omega
      · have HTK2 := Lib.hid (HYES.out (by simp [extB, hp0]))
        have q5 : (prio != 0) = true := by simpa using hp0
        clear hp0
        go_wp2_with (first | (refine wpList_load_midG (by rfl) 45 (.tmp 11) rfl b (off + k * 8) rfl _ _ HRG.out Tryd.underlying45 rfl HML.out ?_) | (refine wpList_store_row rfl 45 (.tmp 5) (.tmp 12) rfl wr.heap.size M.toArray rfl rfl 45 #[.int .i64 0, .string ⟨#[]⟩, .string ⟨#[]⟩, .int .i64 0, .int .i64 0, .bool false, .string ⟨#[]⟩, .int .i64 0] HNW.out HMA.out HMZ.out HON.out ?_; rw [← HW5.out]))
        clear HW5 hd5 hd7
        have ho : W5.drew.ownsRow W0.heap.size 42 2 _ us.length (rowCells us) := ho5
        have hf : ∀ y ∈ us, FB 5 W5.drew W0.heap.size y.2.2 y.2.1 := hf5
        clear ho5 hf5
        have hb5s := HB5.out.size
        refine wp_region_held_drew (S := SQ W0 wr.heap.size M) (by kernel_rfl) ⟨hb05.drew, HM5.out⟩ (fun hHeld => ?_)
        refine tkC 0 ?_
        refine tkA 1 (v := .agg C.toArray) (fun W hSw => exec_load_mid 27 (.tmp 1) rfl w.heap.size 0 rfl _ _ (HI.out.range hSw.a) Tryd.underlying27 rfl HI.out.cub.infoL) ?_
        try simp only [Act.put, zA, zB, zC]
        refine tkC 2 ?_
        refine tkA 3 (v := ?_) ?_ ?_
        rotate_left
        · intro W hSw; have hq := wh_cell hSw.b HMI.out.1; go_simp; try (with_reducible rfl)
        try simp only [Act.put, zA, zB, zC]
        refine tkC 4 ?_
        refine tkA 5 (v := ?_) ?_ ?_
        rotate_left
        · intro W hSw; have hq := wh_cell hSw.b HMI.out.2.2.2.2.2.2; go_simp; try (with_reducible rfl)
        try simp only [Act.put, zA, zB, zC]
        refine tkA 7 (v := .agg M.toArray) (fun W hSw => exec_load_mid 45 (.tmp 5) rfl wr.heap.size 0 rfl _ _ hSw.b.range Tryd.underlying45 rfl HML.out) ?_
        try simp only [Act.put, zA, zB, zC]
        refine rdA (rs := [6]) (arC (i := 6) fun K hK => ?_)
        go_simp
        refine (HN1.out _).mono ?_
        rintro e wc1 ⟨vc1, rfl, hown1, hb⟩
        obtain ⟨A1, c1, rfl, _⟩ := own_shape hown1
        have hv1 := RB.own hown1
        clear hown1
        have ho := own_below ho hb
        have hf : ∀ y ∈ us, FB 5 wc1 W0.heap.size y.2.2 y.2.1 := fun y hy => (hf y hy).below hb
        have hsz1 : W5.heap.size ≤ wc1.heap.size := hb.size
        try (go_wp2_with fail)
        have hHeld' := hHeld.step hb
        refine hK.out _ _ ?_ (fun _ => ?_)
        · exact hHeld'
        clear hK K hHeld
        have hHeld := hHeld'
        clear hHeld'
        try simp only [Act.put, zA, zB, zC]
        refine rdA (rs := [8]) (arC (i := 8) fun K hK => ?_)
        go_simp
        refine (HDE.out _).mono ?_
        rintro e wc2 ⟨rfl, hb⟩
        have hv1 := hv1.below hb
        have ho := own_below ho hb
        have hf : ∀ y ∈ us, FB 5 wc2 W0.heap.size y.2.2 y.2.1 := fun y hy => (hf y hy).below hb
        have hsz2 : wc1.heap.size ≤ wc2.heap.size := hb.size
        try (go_wp2_with fail)
        have hHeld' := hHeld.step hb
        refine hK.out _ _ ?_ (fun _ => ?_)
        · exact hHeld'
        clear hK K hHeld
        have hHeld := hHeld'
        clear hHeld'
        try simp only [Act.put, zA, zB, zC]
        refine rdA (rs := [9]) (arC (i := 9) fun K hK => ?_)
        go_simp
        refine (HN2.out _).mono ?_
        rintro e wc3 ⟨vc3, rfl, hown3, hb⟩
        obtain ⟨A3, c3, rfl, _⟩ := own_shape hown3
        have hv3 := RB.own hown3
        clear hown3
        have hv1 := hv1.below hb
        have ho := own_below ho hb
        have hf : ∀ y ∈ us, FB 5 wc3 W0.heap.size y.2.2 y.2.1 := fun y hy => (hf y hy).below hb
        have hsz3 : wc2.heap.size ≤ wc3.heap.size := hb.size
        try (go_wp2_with fail)
        have hHeld' := hHeld.step hb
        refine hK.out _ _ ?_ (fun _ => ?_)
        · exact hHeld'
        clear hK K hHeld
        have hHeld := hHeld'
        clear hHeld'
        try simp only [Act.put, zA, zB, zC]
        refine rdA (rs := [10]) (arC (i := 10) fun K hK => ?_)
        go_simp
        obtain ⟨w6, hw6, hb⟩ : ∃ w6, w6 = wc3.alloc (.cells #[.slice A1 (nL prio).length c1, .slice A3 (nL kd).length c3] 22) ∧ Below wc3.heap.size wc3 w6 := ⟨_, rfl, (Below.refl _ _).alloc (Nat.le_refl _) _⟩
        rw [← hw6]
        have HPS := Lib.hid (ps_two _ hv1 hv3 hw6 rfl)
        have ho := own_below ho hb
        have hf : ∀ y ∈ us, FB 5 w6 W0.heap.size y.2.2 y.2.1 := fun y hy => (hf y hy).below hb
        have hsz6 : wc3.heap.size ≤ w6.heap.size := hb.size
        clear hw6
        try (go_wp2_with fail)
        have hHeld' := hHeld.step hb
        refine hK.out _ _ ?_ (fun _ => ?_)
        · exact hHeld'
        clear hK K hHeld
        have hHeld := hHeld'
        clear hHeld'
        try simp only [Act.put, zA, zB, zC]
        refine rdA (rs := [11]) (arC (i := 11) fun K hK => ?_)
        go_simp
        refine (HI.out.row hHeld.a 120 120 rfl seq ⟨HMK.out.1, HMK.out.2.1⟩ _ _ HPS.out (by rw [HCAT.out]; exact HVL.out)).mono ?_
        rintro e w7 ⟨u, rfl, hu, hb⟩
        rw [HCAT.out] at hu
        rw [← HID.out]
        obtain ⟨A7, c7, rfl⟩ := hu.shape
        have ho := own_below ho hb
        have hf : ∀ y ∈ us, FB 5 w7 W0.heap.size y.2.2 y.2.1 := fun y hy => (hf y hy).below hb
        have hsz7 : w6.heap.size ≤ w7.heap.size := hb.size
        try (go_wp2_with fail)
        have hHeld' := hHeld.step hb
        refine hK.out _ _ ?_ (fun _ => ?_)
        · exact hHeld'
        clear hK K hHeld
        have hHeld := hHeld'
        clear hHeld'
        try simp only [Act.put, zA, zB, zC]
        refine rdA (rs := [12]) (arC (i := 12) fun K hK => ?_)
        go_simp
        obtain ⟨ky0, hky⟩ : ∃ ky0, ky0 = ky 120 id seq := ⟨_, rfl⟩
        rw [← hky]
        have HKY := Lib.hid hky
        clear hky
        have hbu := hu.base_ (base' := W0.heap.size) (by have := hb05.size; omega)
        obtain ⟨w8, hw8, hb⟩ : ∃ w8, w8 = w7.alloc (.cells #[.string ky0, .slice A7 (V).length c7] 42) ∧ Below w7.heap.size w7 w8 := ⟨_, rfl, (Below.refl _ _).alloc (Nat.le_refl _) _⟩
        have hsr := src_cells (P := Tryd.prog) w7 rfl Tryd.underlying29 42 [.string ky0, .slice A7 (V).length c7] (fun v hv => by simp at hv; rcases hv with rfl | rfl <;> rfl)
        have hsr : Src Tryd.prog 2 29 (.slice (some ⟨w7.heap.size, 0, none⟩) 1 1) 1 [.string ky0, .slice A7 (V).length c7] w8 := by rw [hw8]; exact hsr
        rw [← hw8]
        have ho := own_below ho hb
        have hf : ∀ y ∈ us, FB 5 w8 W0.heap.size y.2.2 y.2.1 := fun y hy => (hf y hy).below hb
        have hbu := hbu.below hb
        have hsz8 : w7.heap.size ≤ w8.heap.size := hb.size
        clear hw8
        try (go_wp2_with fail)
        have hHeld' := hHeld.step hb
        refine hK.out _ _ ?_ (fun _ => ?_)
        · exact hHeld'
        clear hK K hHeld
        have hHeld := hHeld'
        clear hHeld'
        try simp only [Act.put, zA, zB, zC]
        refine rdA (rs := [13]) (arC (i := 13) fun K hK => ?_)
        refine step_own rfl (.tmp 20) (.tmp 32) 29 29 rfl W0.heap.size 42 _ 2 40 Tryd.underlying29 info42 rfl rfl ho rfl hsr hHeld.a (Nat.le_refl _) (by unfold maxLen; omega) (by omega) (by have := hb05.size; omega) ?_
        intro v9 w9 hown9 hbel9 hgr
        have hor9 := OR.push (e := 5) (by decide) ho hf hbu hown9 hgr
        rw [HUS.out, HKY.out, ← HTK2.out] at hor9
        obtain ⟨A9, c9, rfl, _⟩ := own_shape hown9
        try (go_wp2_with fail)
        have hHeld' := SQ.mk hbel9 (wh_grown hHeld.b ho (by decide) hgr)
        refine hK.out _ _ ?_ (fun _ => ?_)
        · exact hHeld'
        clear hK K hHeld
        have hHeld := hHeld'
        clear hHeld'
        try simp only [Act.put, zA, zB, zC]
        refine tkC 14 ?_
        refine wpAnyH_done (by kernel_rfl) ?_ _
        clear ho hf hsr hbu hgr hown9
        have HOR9 := Lib.hid hor9
        have HB9 := Lib.hid hbel9
        clear hor9 hbel9
        go_wp2
        go_roundw
        case rel => exact ⟨k + 1, by omega, by go_num, HOR9.out, HB9.out⟩
        case measure => simp [intOf]; omega
    · have q2 : ¬ (k : Int) < (qs.length : Int) := by omega
      have hke : qs.take k = qs := List.take_of_length_le (by omega)
      have hus2 := HUS.out
      rw [hke] at hus2
      have HUS2 := Lib.hid hus2
      clear hke hus2 HUS
      go_wp2
      go_ret
      refine GivesRw.mk ?_ (HI.out.bel.trans (HB.out.mono HI.out.bel.size))
      rw [← HUS2.out]
      exact OR.base_ ⟨us, rfl, HO.out, HFS.out⟩ HI.out.bel.size
end Go.Proofs.YtmdkonfmbbbepaaDoor
set_option linter.unusedVariables false
set_option linter.unusedSimpArgs false
namespace Go.Proofs.YtmdkonfmbbbepaaDoor
open Go.RowKit Go.Rst Go.Tp Go.Ts Go.Tk Go.Crc Go.On Go.Pg
set_option maxRecDepth 100000 in
set_option maxHeartbeats 400000 in
theorem growR_zero (w : World) : Calls Tryd.prog 32 #[.slice none 0 0, .int .i64 0] w fun e w' => e = .returned (.slice none 0 0) ∧ w = w' := by
  go_enter Tryd.func32, Tryd.ntmps32
  go_wp2
  go_ret
  exact ⟨rfl, rfl⟩
def RoomR (w : World) (e : Ending) (w' : World) : Prop := ∃ v, e = .returned v ∧ w'.ownsRow w.heap.size 42 2 v 0 [] ∧ Below w.heap.size w w'
theorem roomR_new {w : World} {c : Nat} {cs : Array Value} (hm : c ≤ maxLen) (hs : cs.size = c * 2) :
    RoomR w (.returned (.slice (some ⟨w.heap.size, 0, none⟩) 0 c)) (w.drew.alloc (.cells cs 42)) :=
  ⟨_, rfl, ⟨by simp, .inr ⟨w.heap.size, c, cs, rfl, Nat.le_refl _, heap_alloc_new w.drew _, Nat.zero_le _, hm, hs, by simp⟩⟩, (Below.refl _ _).drew.alloc (Nat.le_refl _) _⟩
set_option maxRecDepth 100000 in
set_option maxHeartbeats 400000 in
theorem growR_pos (n : Nat) (h0 : 0 < n) (hn : n ≤ 2000000) (w : World) : Calls Tryd.prog 32 #[.slice none 0 0, .int .i64 n] w (RoomR w) := by
  obtain ⟨i, hi, hz, hsz, hb⟩ := info_parts info42
  obtain ⟨t, ht⟩ : ∃ t : TypeId, t = 42 := ⟨_, rfl⟩
  have hcap : n ≤ grownCap w n 0 42 := grownCap_ge w n 0 _
  have hcm : grownCap w n 0 42 ≤ maxLen := grownCap_le_maxLen w n 0 _ (by unfold maxLen; omega)
  have hrun : ∀ ty, (Builtin.append_ #[29, 3] ty #[.slice none 0 0, .int .i64 n]).run Tryd.prog w =
      .ok (.slice (some ⟨w.heap.size, 0, none⟩) n (grownCap w n 0 42)) (w.drew.alloc (.cells ((#[] : Array Value) ++ Builtin.zeroCells (Value.cells (.agg #[.string ⟨#[]⟩, .slice none 0 0])) n ++ Builtin.zeroCells (Value.cells (.agg #[.string ⟨#[]⟩, .slice none 0 0])) (grownCap w n 0 42 - n)) 42)) := fun ty => by
    have h := Lib.run_append_grow_zeros (P := Tryd.prog) w 29 3 ty 42 i (.agg #[.string ⟨#[]⟩, .slice none 0 0]) .i64 .i64 Tryd.underlying29 Tryd.underlying3 hi hz none 0 0 [] (by rw [hsz]; exact run_firstCells_none w.drew 2 0 0 0) n h0 (by rw [hsz]; decide) (by omega) (by omega) (by rw [hb]; omega)
      (growslice_fits (by omega) (by rw [hb]; omega))
    simpa using h
  have hsize : ((#[] : Array Value) ++ Builtin.zeroCells (Value.cells (.agg #[.string ⟨#[]⟩, .slice none 0 0])) n ++ Builtin.zeroCells (Value.cells (.agg #[.string ⟨#[]⟩, .slice none 0 0])) (grownCap w n 0 42 - n)).size = grownCap w n 0 42 * 2 := by
    simp only [Array.size_append, size_zeroCells]
    simp [Value.cells]
    omega
  generalize ((#[] : Array Value) ++ Builtin.zeroCells (Value.cells (.agg #[.string ⟨#[]⟩, .slice none 0 0])) n ++ Builtin.zeroCells (Value.cells (.agg #[.string ⟨#[]⟩, .slice none 0 0])) (grownCap w n 0 42 - n)) = cs at *
  generalize grownCap w n 0 42 = c at *
  have hend := roomR_new (w := w) hcm hsize
  have HE := Lib.hid hend
  have hc63 : c ≤ 9223372036854775807 := by unfold maxLen at hcm; omega
  have HR := Lib.hid hrun
  clear hend hcm hsize hrun hi hz hsz hb ht
  go_enter Tryd.func32, Tryd.ntmps32
  go_wp2_with (at_builtin; refine Lib.wpList_append_run _ rfl _ _ _ _ rfl _ _ rfl rfl _ _ (HR.out _) ?_)
  go_ret
  exact HE.out
theorem growR_any (n : Nat) (hn : n ≤ 2000000) (w : World) : Calls Tryd.prog 32 #[.slice none 0 0, .int .i64 n] w (RoomR w) := by
  rcases Nat.eq_zero_or_pos n with h | h
  · subst h
    refine (growR_zero w).mono ?_
    rintro e w' ⟨rfl, rfl⟩
    exact ⟨_, rfl, World.ownsRow_nil _ _ _ _, Below.refl _ _⟩
  · exact growR_pos n h hn w
def PR (w : World) (b0 : Nat) (v : Value) (ps : List (Value × List On.Rw)) : Prop :=
  ∃ g off c, v = .slice (some ⟨g, off, none⟩) ps.length c ∧ ps.length ≤ c ∧ c ≤ maxLen ∧ g < w.heap.size ∧ ∀ j (h : j < ps.length), w.cell? ⟨g, off + j, none⟩ = some ps[j].1 ∧ OR 5 42 w b0 ps[j].1 ps[j].2
theorem PR.made {w : World} {b0 : Nat} {vs : List Value} {ls : List (List On.Rw)} {e : TypeId} {n : Nat} (hn : vs.length = n) (hl : ls.length = n) (hm : n ≤ 1000) (h : ∀ j (h1 : j < vs.length) (h2 : j < ls.length), OR 5 42 w b0 vs[j] ls[j]) :
    PR (w.alloc (.cells vs.toArray e)) b0 (.slice (some ⟨w.heap.size, 0, none⟩) n n) (vs.zip ls) := by
  have hz : (vs.zip ls).length = n := by rw [List.length_zip]; omega
  refine ⟨w.heap.size, 0, n, by rw [hz], by omega, by unfold maxLen; omega, by simp, fun j hj => ?_⟩
  have hc := cell_of_row (w.alloc (.cells vs.toArray e)) w.heap.size (0 + j) vs.toArray e (0, 0) (heap_alloc_new w _)
  have h1 : j < vs.length := by omega
  have h2 : j < ls.length := by omega
  rw [hc, List.getElem_zip]
  exact ⟨by simp [h1], (h j h1 h2).alloc _⟩
def catR (ps : List (Value × List On.Rw)) : List On.Rw := ps.flatMap fun p => p.2
theorem catR_take {ps : List (Value × List On.Rw)} {k : Nat} (h : k < ps.length) : catR (ps.take (k + 1)) = catR (ps.take k) ++ ps[k].2 := by
  unfold catR
  rw [List.take_succ_eq_append_getElem h, List.flatMap_append]
  simp
theorem catR_le (ps : List (Value × List On.Rw)) (k : Nat) : (catR (ps.take k)).length ≤ (catR ps).length := by
  conv => rhs; rw [← List.take_append_drop k ps]
  unfold catR
  rw [List.flatMap_append, List.length_append]
  omega
set_option maxRecDepth 100000 in
set_option maxHeartbeats 2000000 in
theorem concatR_any (v : Value) (ps : List (Value × List On.Rw)) (w : World) (b0 : Nat) (hb0 : b0 ≤ w.heap.size) (hv : PR w b0 v ps) (hl : (catR ps).length ≤ 1000000) :
    Calls Tryd.prog 15 #[v] w fun e w' => ∃ v', e = .returned v' ∧ OR 5 42 w' b0 v' (catR ps) ∧ Below w.heap.size w w' := by
  obtain ⟨g, off, c, rfl, hlc, hcm, hg, hcells⟩ := hv
  simp only [maxLen] at hcm
  have HC := Lib.hid hcells
  clear hcells
  go_enter Tryd.func15, Tryd.ntmps15
  go_wp2
  go_loop [3, 11] (fun n i => ∃ k : Nat, k ≤ ps.length ∧ i = .int .i64 k ∧ n = .int .i64 ((catR (ps.take k)).length : Nat)) (fun _ i => ps.length - (intOf i).toNat)
  case atStart => exact ⟨0, Nat.zero_le _, rfl, rfl⟩
  case round =>
    obtain ⟨k, hk, rfl, rfl⟩ := hrel
    by_cases hlt : k < ps.length
    · obtain ⟨hc, hr⟩ := HC.out k hlt
      have ht := congrArg List.length (catR_take hlt)
      rw [List.length_append] at ht
      have hle := catR_le ps (k + 1)
      rw [ht] at hle
      obtain ⟨p, hp⟩ : ∃ p, p = ps[k] := ⟨_, rfl⟩
      rw [← hp] at hc hr ht hle
      obtain ⟨pv, pl⟩ := p
      obtain ⟨A, c', he⟩ := or_shape hr
      simp only at he
      subst he
      generalize (catR (ps.take k)).length = n at *
      have HT := Lib.hid ht
      simp only at hc hle
      clear hp ht hr
      go_wp2
      go_round
      case rel => exact ⟨k + 1, by omega, by go_num, by rw [HT.out]; go_num⟩
      case measure => simp [intOf]; omega
    · have e : k = ps.length := by omega
      rw [e, List.take_length]
      have hn : (catR ps).length ≤ 2000000 := by omega
      have HE := Lib.hid e
      clear e
      go_wp2_with fail
      refine (growR_any _ hn _).mono ?_
      rintro e w1 ⟨v1, rfl, hown, hbel⟩
      have HO := Lib.hid hown
      have HB := Lib.hid hbel
      clear hown hbel
      go_wp2
      go_loopw [6, 27] (fun b i wr => ∃ k : Nat, k ≤ ps.length ∧ i = .int .i64 k ∧ (∃ us : List (ByteArray × List UInt8 × Value), us.map (fun x => (x.1, x.2.1)) = catR (ps.take k) ∧ wr.ownsRow w.heap.size 42 2 b us.length (rowCells us) ∧ ∀ x ∈ us, FB 5 wr b0 x.2.2 x.2.1) ∧ Below w.heap.size w wr) (fun _ i _ => ps.length - (intOf i).toNat)
      case atStart => exact ⟨0, Nat.zero_le _, rfl, ⟨[], rfl, HO.out, fun _ h => by cases h⟩, HB.out⟩
      case round =>
        clear HO HB
        obtain ⟨k, hk, rfl, ⟨us, hus, ho, hf⟩, hbel⟩ := hrel
        by_cases hlt : k < ps.length
        · obtain ⟨hc, hr⟩ := HC.out k hlt
          have hc' := (hbel.cell (p := ⟨g, off + k, none⟩) hg).trans hc
          have ht := catR_take hlt
          have hle := catR_le ps (k + 1)
          rw [ht, List.length_append] at hle
          obtain ⟨p, hp⟩ : ∃ p, p = ps[k] := ⟨_, rfl⟩
          rw [← hp] at hc' hr ht hle
          obtain ⟨pv, pl⟩ := p
          obtain ⟨ws, hws, how, hwf⟩ := hr.below hbel
          simp only at hws how hc' hle ht
          have hul : us.length = (catR (ps.take k)).length := by rw [← hus, List.length_map]
          have hwl : ws.length = pl.length := by rw [← hws, List.length_map]
          have hlen : us.length + ws.length ≤ 1000000 := by omega
          obtain ⟨Au, cu, hue, _⟩ := own_shape how
          subst hue
          obtain ⟨A6, c6, rfl, _⟩ := own_shape ho
          have HT := Lib.hid (show catR (ps.take (k + 1)) = us.map (fun x => (x.1, x.2.1)) ++ ws.map (fun x => (x.1, x.2.1)) by rw [ht, hus, hws])
          have HO := Lib.hid ho
          have HF := Lib.hid hf
          have HWF := Lib.hid hwf
          have HB := Lib.hid hbel
          have HSRC := Lib.hid (OR.src how hwf (tx := 29) Tryd.underlying29)
          clear hp ht hus ho hf hbel hc hr how hwf hle hul hwl hws HE
          go_wp2_with (at_builtin; refine wpList_own rfl (.tmp 31) (.tmp 32) 29 29 rfl w.heap.size 42 _ 2 40 Tryd.underlying29 info42 rfl rfl HO.out rfl HSRC.out HB.out (Nat.le_refl _) ?_ ?_ ?_ ?_)
          · unfold maxLen; omega
          · omega
          · exact HB.out.size
          · intro v2 w2 hown2 hbel2 hgr
            have hrow : w2.ownsRow w.heap.size 42 2 v2 (us ++ ws).length (rowCells (us ++ ws)) := by rw [List.length_append, rowCells_append]; exact hown2
            have hfb : ∀ x ∈ us ++ ws, FB 5 w2 b0 x.2.2 x.2.1 := by
              intro x hx
              rcases List.mem_append.1 hx with hx | hx
              · exact (HF.out x hx).grown HO.out (by decide) hgr
              · exact (HWF.out x hx).grown HO.out (by decide) hgr
            have HR2 := Lib.hid hrow
            have HF2 := Lib.hid hfb
            have HB2 := Lib.hid hbel2
            obtain ⟨A9, c9, rfl, _⟩ := own_shape hown2
            clear hown2 hbel2 hgr hrow hfb
            go_wp2
            go_roundw
            case rel => exact ⟨k + 1, by omega, by go_num, ⟨us ++ ws, by rw [HT.out, List.map_append], HR2.out, HF2.out⟩, HB2.out⟩
            case measure => simp [intOf]; omega
        · have e : k = ps.length := by omega
          rw [e, List.take_length] at hus
          have HO := Lib.hid ho
          have HF := Lib.hid hf
          have HB := Lib.hid hbel
          have HU := Lib.hid hus
          clear ho hf hbel e HE hus
          go_wp2
          go_ret
          exact ⟨_, rfl, ⟨us, HU.out, own_base HO.out hb0, HF.out⟩, HB.out⟩
theorem pr_six {w w' : World} {b0 g : Nat} {A1 A2 A3 A4 A5 A6 : Option Addr} {c1 c2 c3 c4 c5 c6 n1 n2 n3 n4 n5 n6 : Nat} {l1 l2 l3 l4 l5 l6 : List On.Rw} (e : TypeId) (h1 : OR 5 42 w b0 (.slice A1 n1 c1) l1) (h2 : OR 5 42 w b0 (.slice A2 n2 c2) l2) (h3 : OR 5 42 w b0 (.slice A3 n3 c3) l3) (h4 : OR 5 42 w b0 (.slice A4 n4 c4) l4) (h5 : OR 5 42 w b0 (.slice A5 n5 c5) l5) (h6 : OR 5 42 w b0 (.slice A6 n6 c6) l6)
    (hw : w' = w.alloc (.cells #[.slice A1 n1 c1, .slice A2 n2 c2, .slice A3 n3 c3, .slice A4 n4 c4, .slice A5 n5 c5, .slice A6 n6 c6] e)) (hg : g = w.heap.size) :
    PR w' b0 (.slice (some ⟨g, 0, none⟩) 6 6) [(.slice A1 n1 c1, l1), (.slice A2 n2 c2, l2), (.slice A3 n3 c3, l3), (.slice A4 n4 c4, l4), (.slice A5 n5 c5, l5), (.slice A6 n6 c6, l6)] := by
  subst hw; subst hg
  exact PR.made (vs := [.slice A1 n1 c1, .slice A2 n2 c2, .slice A3 n3 c3, .slice A4 n4 c4, .slice A5 n5 c5, .slice A6 n6 c6]) (ls := [l1, l2, l3, l4, l5, l6]) (n := 6) rfl rfl (by omega) (fun j i1 i2 => by
    match j, i1 with
    | 0, _ => exact h1
    | 1, _ => exact h2
    | 2, _ => exact h3
    | 3, _ => exact h4
    | 4, _ => exact h5
    | 5, _ => exact h6)
theorem enc_len {x : Ts.Sub} (hx : EncOk x) : (enc1L x).length ≤ 1000000 := by
  have h1 := hx.acks
  have h2 := hx.queue
  have h3 := List.length_filter_le extB x.queue
  unfold enc1L acksL noteL queL subL wantL extL
  simp only [List.length_append, List.length_map, List.length_cons, List.length_nil]
  split <;> split <;> simp <;> omega
set_option maxRecDepth 100000 in
set_option maxHeartbeats 4000000 in
theorem encode_any (x : Ts.Sub) (av qv : Value) (w : World) (ha : Go.Ts.RI w av x.acks) (hq : RM w qv x.queue) (hx : EncOk x) (hp : Pow w) :
    Calls Tryd.prog 7 #[.agg (subC x av qv).toArray] w (GivesRw w (enc1L x)) := by
  have hI := InB.mk_ ha hq hx hp
  obtain ⟨W0, hW0⟩ : ∃ W0, W0 = w.alloc (.cells (subC x av qv).toArray 27) := ⟨_, rfl⟩
  rw [← hW0] at hI
  obtain ⟨C, hC⟩ : ∃ C, C = subC x av qv := ⟨_, rfl⟩
  rw [← hC] at hI hW0 ⊢
  have HI := Lib.hid hI
  have hbw : ∀ W, Below W0.heap.size W0 W → Below w.heap.size w W := fun W h => hI.bel.trans (h.mono hI.bel.size)
  have HE1 := Lib.hid (fun W (h : Below W0.heap.size W0 W) => by have := acks_any x av qv W (ha.below stays_ci (hbw W h)) (hq.below stays_cm (hbw W h)) hx (hp.below (hbw W h)); rw [← hC] at this; exact this : ∀ W (h : Below W0.heap.size W0 W), Calls Tryd.prog 16 #[.agg C.toArray] W (GivesRw W (acksL x.id x.acks)))
  have HE2 := Lib.hid (fun W (h : Below W0.heap.size W0 W) => by have := note_any x av qv W (ha.below stays_ci (hbw W h)) (hq.below stays_cm (hbw W h)) hx (hp.below (hbw W h)); rw [← hC] at this; exact this : ∀ W (h : Below W0.heap.size W0 W), Calls Tryd.prog 17 #[.agg C.toArray] W (GivesRw W (noteL x)))
  have HE3 := Lib.hid (fun W (h : Below W0.heap.size W0 W) => by have := queue1_any x av qv W (ha.below stays_ci (hbw W h)) (hq.below stays_cm (hbw W h)) hx (hp.below (hbw W h)); rw [← hC] at this; exact this : ∀ W (h : Below W0.heap.size W0 W), Calls Tryd.prog 18 #[.agg C.toArray] W (GivesRw W (queL x.id x.queue)))
  have HE4 := Lib.hid (fun W (h : Below W0.heap.size W0 W) => by have := sub1_any x av qv W (ha.below stays_ci (hbw W h)) (hq.below stays_cm (hbw W h)) hx (hp.below (hbw W h)); rw [← hC] at this; exact this : ∀ W (h : Below W0.heap.size W0 W), Calls Tryd.prog 19 #[.agg C.toArray] W (GivesRw W (subL x)))
  have HE5 := Lib.hid (fun W (h : Below W0.heap.size W0 W) => by have := want_any x av qv W (ha.below stays_ci (hbw W h)) (hq.below stays_cm (hbw W h)) hx (hp.below (hbw W h)); rw [← hC] at this; exact this : ∀ W (h : Below W0.heap.size W0 W), Calls Tryd.prog 20 #[.agg C.toArray] W (GivesRw W (wantL x)))
  have HE6 := Lib.hid (fun W (h : Below W0.heap.size W0 W) => by have := extras_any x av qv W (ha.below stays_ci (hbw W h)) (hq.below stays_cm (hbw W h)) hx (hp.below (hbw W h)); rw [← hC] at this; exact this : ∀ W (h : Below W0.heap.size W0 W), Calls Tryd.prog 21 #[.agg C.toArray] W (GivesRw W (extL x.id x.queue)))
  have HEN := Lib.hid (enc_len hx)
  have HCAT := Lib.hid (fun (v1 v2 v3 v4 v5 v6 : Value) => by simp [catR, enc1L] : ∀ (v1 v2 v3 v4 v5 v6 : Value), catR [(v1, acksL x.id x.acks), (v2, noteL x), (v3, queL x.id x.queue), (v4, subL x), (v5, wantL x), (v6, extL x.id x.queue)] = enc1L x)
  have HSZ := Lib.hid hI.size
  clear hI ha hq hx hp hC hbw
  go_enter Tryd.func7, Tryd.ntmps7
  go_wp2_with fail
  rw [← hW0]
  clear hW0
  refine wp_region_held_drew (S := SB [W0]) (by kernel_rfl) (SB.start _) (fun hHeld => ?_)
  refine tkA 0 (v := .agg C.toArray) (fun W hSw => exec_load_mid 27 (.tmp 1) rfl w.heap.size 0 rfl _ _ (HI.out.range (SB.b0 hSw)) Tryd.underlying27 rfl HI.out.cub.infoL) ?_
  try simp only [Act.put, zA, zB, zC]
  refine tkA 2 (v := .agg C.toArray) (fun W hSw => exec_load_mid 27 (.tmp 1) rfl w.heap.size 0 rfl _ _ (HI.out.range (SB.b0 hSw)) Tryd.underlying27 rfl HI.out.cub.infoL) ?_
  try simp only [Act.put, zA, zB, zC]
  refine tkA 4 (v := .agg C.toArray) (fun W hSw => exec_load_mid 27 (.tmp 1) rfl w.heap.size 0 rfl _ _ (HI.out.range (SB.b0 hSw)) Tryd.underlying27 rfl HI.out.cub.infoL) ?_
  try simp only [Act.put, zA, zB, zC]
  refine tkA 6 (v := .agg C.toArray) (fun W hSw => exec_load_mid 27 (.tmp 1) rfl w.heap.size 0 rfl _ _ (HI.out.range (SB.b0 hSw)) Tryd.underlying27 rfl HI.out.cub.infoL) ?_
  try simp only [Act.put, zA, zB, zC]
  refine tkA 8 (v := .agg C.toArray) (fun W hSw => exec_load_mid 27 (.tmp 1) rfl w.heap.size 0 rfl _ _ (HI.out.range (SB.b0 hSw)) Tryd.underlying27 rfl HI.out.cub.infoL) ?_
  try simp only [Act.put, zA, zB, zC]
  refine tkA 10 (v := .agg C.toArray) (fun W hSw => exec_load_mid 27 (.tmp 1) rfl w.heap.size 0 rfl _ _ (HI.out.range (SB.b0 hSw)) Tryd.underlying27 rfl HI.out.cub.infoL) ?_
  try simp only [Act.put, zA, zB, zC]
  refine rdA (rs := [1]) (arC (i := 1) fun K hK => ?_)
  go_simp
  refine (HE1.out _ (SB.b0 hHeld)).mono ?_
  rintro e wc1 ⟨vc1, rfl, ho1, hb⟩
  have ho1 := ho1.base_ (base' := w.heap.size) (by have := (SB.b0 hHeld).size; have := HSZ.out; omega)
  obtain ⟨A1, c1, rfl⟩ := or_shape ho1
  try (go_wp2_with fail)
  have hHeld' := SB.step hHeld hb
  refine hK.out _ _ ?_ (fun _ => ?_)
  · exact hHeld'
  clear hK K hHeld
  have hHeld := hHeld'
  clear hHeld'
  try simp only [Act.put, zA, zB, zC]
  refine rdA (rs := [3]) (arC (i := 3) fun K hK => ?_)
  go_simp
  refine (HE2.out _ (SB.b0 hHeld)).mono ?_
  rintro e wc2 ⟨vc2, rfl, ho2, hb⟩
  have ho2 := ho2.base_ (base' := w.heap.size) (by have := (SB.b0 hHeld).size; have := HSZ.out; omega)
  obtain ⟨A2, c2, rfl⟩ := or_shape ho2
  have ho1 := ho1.below hb
  try (go_wp2_with fail)
  have hHeld' := SB.step hHeld hb
  refine hK.out _ _ ?_ (fun _ => ?_)
  · exact hHeld'
  clear hK K hHeld
  have hHeld := hHeld'
  clear hHeld'
  try simp only [Act.put, zA, zB, zC]
  refine rdA (rs := [5]) (arC (i := 5) fun K hK => ?_)
  go_simp
  refine (HE3.out _ (SB.b0 hHeld)).mono ?_
  rintro e wc3 ⟨vc3, rfl, ho3, hb⟩
  have ho3 := ho3.base_ (base' := w.heap.size) (by have := (SB.b0 hHeld).size; have := HSZ.out; omega)
  obtain ⟨A3, c3, rfl⟩ := or_shape ho3
  have ho1 := ho1.below hb
  have ho2 := ho2.below hb
  try (go_wp2_with fail)
  have hHeld' := SB.step hHeld hb
  refine hK.out _ _ ?_ (fun _ => ?_)
  · exact hHeld'
  clear hK K hHeld
  have hHeld := hHeld'
  clear hHeld'
  try simp only [Act.put, zA, zB, zC]
  refine rdA (rs := [7]) (arC (i := 7) fun K hK => ?_)
  go_simp
  refine (HE4.out _ (SB.b0 hHeld)).mono ?_
  rintro e wc4 ⟨vc4, rfl, ho4, hb⟩
  have ho4 := ho4.base_ (base' := w.heap.size) (by have := (SB.b0 hHeld).size; have := HSZ.out; omega)
  obtain ⟨A4, c4, rfl⟩ := or_shape ho4
  have ho1 := ho1.below hb
  have ho2 := ho2.below hb
  have ho3 := ho3.below hb
  try (go_wp2_with fail)
  have hHeld' := SB.step hHeld hb
  refine hK.out _ _ ?_ (fun _ => ?_)
  · exact hHeld'
  clear hK K hHeld
  have hHeld := hHeld'
  clear hHeld'
  try simp only [Act.put, zA, zB, zC]
  refine rdA (rs := [9]) (arC (i := 9) fun K hK => ?_)
  go_simp
  refine (HE5.out _ (SB.b0 hHeld)).mono ?_
  rintro e wc5 ⟨vc5, rfl, ho5, hb⟩
  have ho5 := ho5.base_ (base' := w.heap.size) (by have := (SB.b0 hHeld).size; have := HSZ.out; omega)
  obtain ⟨A5, c5, rfl⟩ := or_shape ho5
  have ho1 := ho1.below hb
  have ho2 := ho2.below hb
  have ho3 := ho3.below hb
  have ho4 := ho4.below hb
  try (go_wp2_with fail)
  have hHeld' := SB.step hHeld hb
  refine hK.out _ _ ?_ (fun _ => ?_)
  · exact hHeld'
  clear hK K hHeld
  have hHeld := hHeld'
  clear hHeld'
  try simp only [Act.put, zA, zB, zC]
  refine rdA (rs := [11]) (arC (i := 11) fun K hK => ?_)
  go_simp
  refine (HE6.out _ (SB.b0 hHeld)).mono ?_
  rintro e wc6 ⟨vc6, rfl, ho6, hb⟩
  have ho6 := ho6.base_ (base' := w.heap.size) (by have := (SB.b0 hHeld).size; have := HSZ.out; omega)
  obtain ⟨A6, c6, rfl⟩ := or_shape ho6
  have ho1 := ho1.below hb
  have ho2 := ho2.below hb
  have ho3 := ho3.below hb
  have ho4 := ho4.below hb
  have ho5 := ho5.below hb
  try (go_wp2_with fail)
  have hHeld' := SB.step hHeld hb
  refine hK.out _ _ ?_ (fun _ => ?_)
  · exact hHeld'
  clear hK K hHeld
  have hHeld := hHeld'
  clear hHeld'
  try simp only [Act.put, zA, zB, zC]
  refine rdA (rs := [12]) (arC (i := 12) fun K hK => ?_)
  go_simp
  obtain ⟨w7, hw7, hb⟩ : ∃ w7, w7 = wc6.alloc (.cells #[.slice A1 (acksL x.id x.acks).length c1, .slice A2 (noteL x).length c2, .slice A3 (queL x.id x.queue).length c3, .slice A4 (subL x).length c4, .slice A5 (wantL x).length c5, .slice A6 (extL x.id x.queue).length c6] 29) ∧ Below wc6.heap.size wc6 w7 := ⟨_, rfl, (Below.refl _ _).alloc (Nat.le_refl _) _⟩
  rw [← hw7]
  have HPR := Lib.hid (pr_six _ ho1 ho2 ho3 ho4 ho5 ho6 hw7 rfl)
  clear hw7
  try (go_wp2_with fail)
  have hHeld' := SB.step hHeld hb
  refine hK.out _ _ ?_ (fun _ => ?_)
  · exact hHeld'
  clear hK K hHeld
  have hHeld := hHeld'
  clear hHeld'
  try simp only [Act.put, zA, zB, zC]
  refine rdA (rs := [13]) (arC (i := 13) fun K hK => ?_)
  go_simp
  refine (concatR_any _ _ _ w.heap.size (by have := (SB.b0 hHeld).size; have := HSZ.out; omega) HPR.out (by rw [HCAT.out]; exact HEN.out)).mono ?_
  rintro e w8 ⟨v8, rfl, hor, hb⟩
  rw [HCAT.out] at hor
  obtain ⟨A8, c8, rfl⟩ := or_shape hor
  try (go_wp2_with fail)
  have hHeld' := SB.step hHeld hb
  refine hK.out _ _ ?_ (fun _ => ?_)
  · exact hHeld'
  clear hK K hHeld
  have hHeld := hHeld'
  clear hHeld'
  try simp only [Act.put, zA, zB, zC]
  refine tkC 14 ?_
  refine wpAnyH_done (by kernel_rfl) ?_ _
  have HOR := Lib.hid hor
  clear hor
  go_wp2
  go_ret
  exact GivesRw.mk HOR.out (HI.out.bel.trans ((SB.b0 hHeld).mono HI.out.bel.size))
end Go.Proofs.YtmdkonfmbbbepaaDoor
