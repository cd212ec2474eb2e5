/-
  The contracts of the program's ack (layer model).
-/
import Derived.Test.YtodckdkbheapfaaGreatKODD
import Derived.Test.YtodckdkbheapfaaGreatKODF
set_option linter.unusedVariables false
set_option linter.unusedVariables false
set_option linter.unusedSimpArgs false
namespace Go.Proofs.YtodckdkbheapfaaGreat
open Go.RowKit Go.Rst Go.Tp Go.Ts Go.Md
set_option maxRecDepth 100000 in
set_option maxHeartbeats 8000000 in
theorem ack_p (s : St) (v : Value) (o : Md.Op) (dv : Value) (w : World) (h : RS w v s.subs) (hr : Rt s) (ho : OpOk o) (hd : dv.oneCell' = true) :
    Calls Tryz.prog 48 #[.agg (askC s v o dv).toArray] w (GivesRes w (withX s o fun x => ackR s x o)) := by
  obtain ⟨A, ca, rfl, hca, hcm⟩ := h.shape
  obtain ⟨AC, hAC⟩ : ∃ AC, AC = askC s (.slice A s.subs.length ca) o dv := ⟨_, rfl⟩
  have HACE := Lib.hid hAC
  have HAI := Lib.hid (show (Tryz.prog.info? 73).map (·.size) = some AC.length by rw [hAC]; exact sizeA)
  have HPT := Lib.hid (fun W (h : Wh W w.heap.size AC 73) => ask_part (s := s) (v := .slice A s.subs.length ca) (o := o) (dv := dv) (by rw [← hAC]; exact h))
  have HR := Lib.hid h
  have HRT := Lib.hid hr
  have HOK := Lib.hid ho
  have HD := Lib.hid hd
  have HZ := Lib.hid hr.sized
  have HL := Lib.hid hr.len
  have HMF := Lib.hid (MF.start w AC)
  have HCV0 := Lib.hid (fun (W : World) (h : Wh W w.heap.size AC 73) => h.cv 0 (v := .int .i64 s.clock) (by rw [hAC]; rfl))
  have HCV1 := Lib.hid (fun (W : World) (h : Wh W w.heap.size AC 73) => h.cv 1 (v := .int .i64 s.next) (by rw [hAC]; rfl))
  have HCV2 := Lib.hid (fun (W : World) (h : Wh W w.heap.size AC 73) => h.cv 2 (v := .int .i64 s.last) (by rw [hAC]; rfl))
  have HCV3 := Lib.hid (fun (W : World) (h : Wh W w.heap.size AC 73) => h.cv 3 (v := .slice A s.subs.length ca) (by rw [hAC]; rfl))
  have HCV4 := Lib.hid (fun (W : World) (h : Wh W w.heap.size AC 73) => h.cv 4 (v := .int .i64 o.kind) (by rw [hAC]; rfl))
  have HCV5 := Lib.hid (fun (W : World) (h : Wh W w.heap.size AC 73) => h.cv 5 (v := .int .i64 o.sub) (by rw [hAC]; rfl))
  have HCV6 := Lib.hid (fun (W : World) (h : Wh W w.heap.size AC 73) => h.cv 6 (v := .int .i64 o.n) (by rw [hAC]; rfl))
  have HCV7 := Lib.hid (fun (W : World) (h : Wh W w.heap.size AC 73) => h.cv 7 (v := .int .i64 o.seq) (by rw [hAC]; rfl))
  have HCV8 := Lib.hid (fun (W : World) (h : Wh W w.heap.size AC 73) => h.cv 8 (v := sv o.name) (by rw [hAC]; rfl))
  have HCV9 := Lib.hid (fun (W : World) (h : Wh W w.heap.size AC 73) => h.cv 9 (v := sv o.topic) (by rw [hAC]; rfl))
  have HCV10 := Lib.hid (fun (W : World) (h : Wh W w.heap.size AC 73) => h.cv 10 (v := sv o.want) (by rw [hAC]; rfl))
  have HCV11 := Lib.hid (fun (W : World) (h : Wh W w.heap.size AC 73) => h.cv 11 (v := sv o.body) (by rw [hAC]; rfl))
  have HCV12 := Lib.hid (fun (W : World) (h : Wh W w.heap.size AC 73) => h.cv 12 (v := sv o.attr) (by rw [hAC]; rfl))
  have HCV13 := Lib.hid (fun (W : World) (h : Wh W w.heap.size AC 73) => h.cv 13 (v := dv) (by rw [hAC]; rfl))
  obtain ⟨W0, hW0⟩ : ∃ W0, W0 = A3 w AC := ⟨_, rfl⟩
  rw [← hW0] at HMF
  rw [← hAC]
  unfold A3 at hW0
  unfold maxLen at hcm
  clear h hr ho hd hAC
  have hla := HMF.out.a.range
  rw [hW0] at hla
  have HLA := Lib.hid hla
  clear hla
  have hF := leased_p s (.slice A s.subs.length ca) o dv
  have hfi := fun x (h : findS s.subs o.sub = some x) => find_some' h
  have HWX := Lib.hid (show withX s o (fun x => ackR s x o) = (match findS s.subs o.sub with | none => Res.no 30 | some x => (fun x => ackR s x o) x) from rfl)
  rw [HWX.out]
  generalize findS s.subs o.sub = fo at hF hfi ⊢
  have HF := Lib.hid hF
  have HFI := Lib.hid hfi
  clear hF hfi HWX
  go_enter Tryz.func48, Tryz.ntmps48
  go_wp2_with (first | (refine wpList_load_midG (by rfl) 73 (.tmp 1) rfl w.heap.size 0 rfl _ _ HLA.out Tryz.underlying73 rfl HAI.out ?_) | fail)
  rw [← hW0]
  clear hW0 HLA
  have hc := HF.out W0 (HR.out.below stays_cs HMF.out.b) HRT.out HD.out
  rw [← HACE.out] at hc
  refine hc.mono ?_
  clear hc
  rintro e w5 hg
  cases fo with
  | none =>
    obtain ⟨rfl, hb5⟩ := hg
    exact ⟨rfl, rfl, HMF.out.b.trans (hb5.mono HMF.out.b.size)⟩
  | some x =>
    have HX := Lib.hid (HFI.out x rfl)
    have HXG := Lib.hid (HRT.out.gd HX.out.1)
    unfold GivesL at hg
    simp only at hg
    cases hat : atQ x o.seq with
    | none =>
      rw [hat] at hg
      obtain ⟨rfl, hb5⟩ := hg
      refine ⟨rfl, ?_⟩
      show GivesRes w (ackR s x o) _ _
      rw [show ackR s x o = Res.no 30 from by unfold ackR leasedR; rw [hat]]
      exact ⟨rfl, HMF.out.b.trans (hb5.mono HMF.out.b.size)⟩
    | some i =>
      rw [hat] at hg
      simp only at hg
      obtain ⟨m, hm, hms⟩ := at_some hat
      rw [hm] at hg
      simp only at hg
      by_cases ht : m.til = 0
      · rw [if_pos ht] at hg
        obtain ⟨rfl, hb5⟩ := hg
        refine ⟨rfl, ?_⟩
        show GivesRes w (ackR s x o) _ _
        rw [show ackR s x o = Res.no 1 from by unfold ackR leasedR; rw [hat]; simp only [hm]; unfold need; simp [ht]]
        exact ⟨rfl, HMF.out.b.trans (hb5.mono HMF.out.b.size)⟩
      rw [if_neg ht] at hg
      obtain ⟨av, qv, rfl, hoa, hoq, hb5⟩ := hg
      have hil : i < x.queue.length := (List.getElem?_eq_some_iff.1 hm).1
      have hme : x.queue[i] = m := (List.getElem?_eq_some_iff.1 hm).2
      have htp := til_pos HXG.out HRT.out.c0 HRT.out.c1 (List.mem_of_getElem? hm)
      have HTP := Lib.hid htp
      obtain ⟨E, hE⟩ : ∃ E, E = subC x av qv := ⟨_, rfl⟩
      have HE := Lib.hid (show Cub E by rw [hE]; exact Cub.mk_ x (rl_one (OwnA.ri hoa)) (rl_one (OwnQ.rm hoq)))
      have HEE := Lib.hid hE
      rw [← hE]
      have HM1 := Lib.hid (HMF.out.below (hb5.trans ((box_below w5 E).mono hb5.size)))
      have HOA := Lib.hid (own_below hoa (box_below w5 E))
      have HBX := Lib.hid (box_wh w5 E)
      have HN5 := Lib.hid (show w.heap.size + 3 ≤ w5.heap.size from Nat.le_trans HMF.out.n hb5.size)
      have HNW := Lib.hid HMF.out.n
      obtain ⟨g, cq, hqs, hgb, hgl, hlc, hcm2⟩ := OwnQ.form hoq (by omega)
      subst hqs
      have HOQ := Lib.hid (own_below hoq (box_below w5 E))
      have HGL := Lib.hid (show w.heap.size + 3 ≤ g ∧ g < w5.heap.size from ⟨Nat.le_trans HMF.out.n hgb, hgl⟩)
      have HIL := Lib.hid hil
      have HME := Lib.hid hme
      have HMQ := Lib.hid hm
      have HSQ := Lib.hid hms
      have hNA := (HXG.out.pd.qr m (List.mem_of_getElem? hm)).2.2.1
      rw [hms] at hNA
      have HNA := Lib.hid hNA
      have HAT := Lib.hid hat
      have HTN := Lib.hid ht
      have q0 : (0 : Int) ≤ (i : Int) := by omega
      have q1 : (i : Int) < (x.queue.length : Int) := by omega
      clear hNA hms hE hoa hoq hb5 hgb hgl hme hat ht htp hm
      go_wp2_with (first | (refine wpList_store_row rfl 30 (.tmp 4) (.tmp 9) rfl w5.heap.size E.toArray rfl rfl 30 #[.int .i64 0, .string ⟨#[]⟩, .string ⟨#[]⟩, .string ⟨#[]⟩, .int .i64 0, .int .i64 0, .int .i64 0, .slice none 0 0, .slice none 0 0, .string ⟨#[]⟩] (box_old w5) HE.out.info HE.out.old HE.out.all ?_; rw [box_def]) | fail)
      obtain ⟨V, hV⟩ : ∃ V, V = boxW w5 E := ⟨_, rfl⟩
      rw [← hV] at HM1 HOA HBX HOQ ⊢
      have HVS := Lib.hid (show V.heap.size = w5.heap.size + 1 by rw [hV]; exact box_size w5 E)
      clear hV
      have HC8 := Lib.hid (HBX.out.cv 8 (v := .slice (some ⟨g, 0, none⟩) x.queue.length cq) (by rw [HEE.out]; rfl))
      have HC7 := Lib.hid (HBX.out.cv 7 (v := av) (by rw [HEE.out]; rfl))
      have hrg := OwnQ.at_ HOQ.out hil
      rw [HME.out] at hrg
      have hk0 := hrg 0 (.int .i64 m.seq) rfl
      rw [Nat.add_zero, HSQ.out] at hk0
      have HK0 := Lib.hid hk0
      have hGL := HGL.out
      obtain ⟨Aa, ka, hav, hka⟩ := own_shape HOA.out
      subst hav
      clear hrg hk0
      refine wp_region_held_drew (S := fun X => X.cell? ⟨w5.heap.size, 8, none⟩ = some (.slice (some ⟨g, 0, none⟩) x.queue.length cq) ∧ X.cell? ⟨g, i * 8, none⟩ = some (.int .i64 o.seq)) (by kernel_rfl) ⟨HC8.out, HK0.out⟩ (fun hHeld => ?_)
      refine tkC 0 ?_
      refine tkC 2 ?_
      refine tkA 3 (v := .slice (some ⟨g, 0, none⟩) x.queue.length cq) ?_ ?_
      · intro W hSw; have hq := hSw.1
        go_simp; try (with_reducible rfl)
      try simp only [Act.put, zA, zB, zC]
      refine tkC 4 ?_
      refine tkA 5 (v := .pointer (some ⟨g, i * 8, none⟩)) ?_ ?_
      · intro W hSw; go_simp; try (with_reducible rfl)
      try simp only [Act.put, zA, zB, zC]
      refine tkC 6 ?_
      refine tkA 7 (v := .int .i64 o.seq) ?_ ?_
      · intro W hSw; have hq := hSw.2
        go_simp; try (with_reducible rfl)
      try simp only [Act.put, zA, zB, zC]
      have HC7D := Lib.hid (show V.cell? ⟨w5.heap.size, 7, none⟩ = some (.slice Aa x.acks.length ka) from HC7.out)
      refine rdA (rs := [1, 8]) (arC2 (i := 1) (j := 8) (fun K hK => ?_) (fun K hK => ?_))
      · have hq := HC7D.out
        go_simp
        try (go_wp2_with fail)
        refine hK.out _ _ ?_ (fun _ => ?_)
        · exact hHeld
        clear hK K hq
        try simp only [Act.put, zA, zB, zC]
        refine rdA (rs := [8]) (arC (i := 8) fun K hK => ?_)
        have hHeld8 := And.intro (Lib.cell?_alloc_some (.cells #[.int .i64 o.seq] 3) hHeld.1) (Lib.cell?_alloc_some (.cells #[.int .i64 o.seq] 3) hHeld.2)
        go_simp
        try (go_wp2_with fail)
        refine hK.out _ _ ?_ (fun _ => ?_)
        · exact hHeld8
        clear hK K hHeld
        have hHeld := hHeld8
        clear hHeld8
        try simp only [Act.put, zA, zB, zC]
        have hbl : Below V.heap.size V (V.drew.alloc (.cells #[.int .i64 o.seq] 3)) := (SB.b0 (SB.start V)).alloc (Nat.le_refl _) _
        have hsr := src_cells V.drew (g := V.heap.size) rfl Tryz.underlying27 3 [.int .i64 o.seq] (by simp [Value.oneCell'])
        obtain ⟨V8, hV8⟩ : ∃ V8, V8 = (V.alloc (.cells #[.int .i64 o.seq] 3)).drew := ⟨_, rfl⟩
        have hE8 : V.drew.alloc (.cells #[.int .i64 o.seq] 3) = V8 := by rw [hV8]; rfl
        have hsr8 : Src Tryz.prog 1 27 (.slice (some ⟨V.heap.size, 0, none⟩) 1 1) 1 [.int .i64 o.seq] V8 := by rw [← hE8]; exact hsr
        rw [hE8] at hbl hHeld
        rw [← hV8]
        clear hsr hV8 hE8
        have hoa8 := own_below HOA.out hbl
        have hbx8 := HBX.out.below hbl
        have hoq8 := own_below HOQ.out hbl
        have hm8 := HM1.out.below hbl
        have hAL := HXG.out.al
        refine rdA (rs := [9]) (arC (i := 9) fun K hK => ?_)
        refine step_own rfl (.tmp 12) (.tmp 19) 27 27 rfl W0.heap.size 3 (.int .i64 0) 1 8 Tryz.underlying27 infoNum rfl rfl hoa8 rfl hsr8 (Below.refl W0.heap.size V8) (Nat.le_refl _) ?_ ?_ ?_ ?_
        · unfold maxLen; omega
        · omega
        · have := hoq8.lt g rfl; omega
        intro u w9 how hb9 hgr9
        obtain ⟨A9, k9, rfl, hk9⟩ := own_shape how
        have hou : OwnA w9 W0.heap.size (.slice A9 (x.acks.length + 1) k9) (x.acks ++ [o.seq]) := by unfold OwnA; simpa using how
        have hno : (Value.slice Aa x.acks.length ka).ownBlock ≠ some g := fun e => (own_ne_own hoa8 hoq8 (by decide)).elim (fun h => by rw [h] at e; cases e) (fun h => h e)
        clear how hb9 hsr8
        have h8' := hgr9.cell hHeld.1 (fun e => own_ne_wh hoa8 hbx8 (by decide) e.symm)
        have hq' := hgr9.cell hHeld.2 (fun e => hno e.symm)
        refine hK.out _ _ ?_ (fun _ => ?_)
        · exact ⟨h8', hq'⟩
        have hbx9 := hbx8.kept hgr9 (fun e => own_ne_wh hoa8 hbx8 (by decide) e.symm)
        have hoq9 : OwnQ w9 W0.heap.size _ x.queue := hoq8.kept hgr9 (own_ne_own hoq8 hoa8 (by decide))
        have hm9 := hm8.grownO hgr9 (fun k e => Nat.le_trans HMF.out.n (hoa8.lt k e).1)
        clear hK K hHeld hoa8 hoq8 hbx8 hm8 hgr9
        try simp only [Act.put, zA, zB, zC]
        refine tkA 10 (v := .pointer (some ⟨w5.heap.size, 7, none⟩)) ?_ ?_
        · intro W hSw; go_simp; try (with_reducible rfl)
        try simp only [Act.put, zA, zB, zC]
        refine rdA (rs := [11]) (arC (i := 11) fun K hK => ?_)
        have f7 := hbx9.frozen 7
        have k7 := hbx9.cv 7 (v := .slice Aa x.acks.length ka) (by rw [HEE.out]; rfl)
        have hgr := grown_cell w9 w5.heap.size 7 (.slice A9 (x.acks.length + 1) k9)
        have hb10 := hbx9.set1 7 (.slice A9 (x.acks.length + 1) k9)
        go_simp
        try (go_wp2_with fail)
        refine hK.out _ _ ?_ (fun _ => ?_)
        · exact ⟨hb10.cv 8 (by rw [HEE.out]; rfl), hgr.cell hq' (by simp; omega)⟩
        clear hK K f7 k7
        refine wpAnyH_done (by kernel_rfl) ?_ _
        have hoa10 : OwnA _ W0.heap.size _ (x.acks ++ [o.seq]) := hou.kept hgr (.inr (own_ne_wh hou hbx9 (by decide)))
        have hoq10 : OwnQ _ W0.heap.size _ x.queue := hoq9.kept hgr (.inr (own_ne_wh hoq9 hbx9 (by decide)))
        have hm10 := hm9.grown hgr HN5.out
        obtain ⟨W10, hW10⟩ : ∃ X, X = w9.setCell ⟨w5.heap.size, 7, none⟩ (.slice A9 (x.acks.length + 1) k9) := ⟨_, rfl⟩
        rw [← hW10] at hoa10 hoq10 hm10 hb10 ⊢
        clear hW10 hou hoq9 hbx9 hm9 hgr h8' hq' hno
        have k7 := hb10.cv 7 (v := .slice A9 (x.acks.length + 1) k9) (by rw [HEE.out]; rfl)
        go_wp2_with fail
        refine (sort_own W0.heap.size _ _ _ hoa10 (by simp) (by simp; omega)).mono ?_
        rintro e w11 ⟨rfl, hos, hgr11⟩
        rw [sort_ins_eq HXG.out.pd.sa HNA.out] at hos
        have hb11 := hb10.kept hgr11 (fun e => own_ne_wh hoa10 hb10 (by decide) e.symm)
        have hoq11 : OwnQ w11 W0.heap.size _ x.queue := hoq10.kept hgr11 (own_ne_own hoq10 hoa10 (by decide))
        have hm11 := hm10.grownO hgr11 (fun k e => Nat.le_trans HMF.out.n (hoa10.lt k e).1)
        clear k7 hoa10 hoq10 hb10 hm10 hgr11
        have k8 := hb11.cv 8 (v := .slice (some ⟨g, 0, none⟩) x.queue.length cq) (by rw [HEE.out]; rfl)
        have e6 : wrap64 ((i : Int) + 1) = (i : Int) + 1 := by have := HXG.out.pd.ql; unfold wrap64; omega
        go_wp2_with fail
        refine (delete_msg W0.heap.size i _ x.queue w11 hoq11 HIL.out).mono ?_
        rintro e w12 ⟨v', rfl, hoq12, hgr12⟩
        obtain ⟨Aq, kq, rfl, hkq⟩ := own_shape hoq12
        obtain ⟨Q, hQ⟩ : ∃ Q, Q = x.queue.take i ++ x.queue.drop (i + 1) := ⟨_, rfl⟩
        rw [← hQ] at hoq12 ⊢
        have HQE := Lib.hid hQ
        clear hQ
        have hb12 := hb11.kept hgr12 (fun e => own_ne_wh hoq11 hb11 (by decide) e.symm)
        have hoa12 : OwnA w12 W0.heap.size _ (insI o.seq x.acks) := hos.kept hgr12 (own_ne_own hos hoq11 (by decide))
        have hm12 := hm11.grownO hgr12 (fun k e => Nat.le_trans HMF.out.n (hoq11.lt k e).1)
        clear k8 e6 hoq11 hos hb11 hm11 hgr12
        have f8 := hb12.frozen 8
        have k8 := hb12.cv 8 (v := .slice (some ⟨g, 0, none⟩) x.queue.length cq) (by rw [HEE.out]; rfl)
        have hgr := grown_cell w12 w5.heap.size 8 (.slice Aq Q.length kq)
        have hb13 := hb12.set1 8 (.slice Aq Q.length kq)
        have hm13 := hm12.grown hgr HN5.out
        have hoa13 : OwnA _ W0.heap.size _ (insI o.seq x.acks) := hoa12.kept hgr (.inr (own_ne_wh hoa12 hb12 (by decide)))
        have hoq13 : OwnQ _ W0.heap.size _ Q := hoq12.kept hgr (.inr (own_ne_wh hoq12 hb12 (by decide)))
        obtain ⟨y, hy⟩ : ∃ y : Sub, y = { x with acks := insI o.seq x.acks, queue := Q } := ⟨_, rfl⟩
        obtain ⟨E2, hE2⟩ : ∃ E2, E2 = (E.set 7 (.slice A9 (x.acks.length + 1) k9)).set 8 (.slice Aq Q.length kq) := ⟨_, rfl⟩
        rw [← hE2] at hb13
        have HEE2 := Lib.hid (show E2 = subC y (.slice A9 (x.acks.length + 1) k9) (.slice Aq Q.length kq) by rw [hE2, hy, HEE.out]; rfl)
        have HE2 := Lib.hid (show Cub E2 by rw [HEE2.out]; exact Cub.mk_ y (rl_one (OwnA.ri hoa13)) (rl_one (OwnQ.rm hoq13)))
        have HY := Lib.hid hy
        clear hE2 hy
        have HB13 := Lib.hid hb13.range
        have k1 := HCV1.out _ hm13.a
        have HSZ2 := Lib.hid (show Sized y by rw [HY.out]; exact Sized.few (by show (insI o.seq x.acks).length ≤ 1000000; rw [insI_len]; omega) (by have := HXG.out.pd.ql; show Q.length ≤ 1000000; rw [HQE.out]; simp; omega))
        have HSZ3 := Lib.hid (show Sized (settleS y s.next) by rw [HY.out]; exact Sized.few (Nat.le_trans (List.length_filter_le _ _) (by show (insI o.seq x.acks).length ≤ 1000000; rw [insI_len]; omega)) (by have := HXG.out.pd.ql; show Q.length ≤ 1000000; rw [HQE.out]; simp; omega))
        have hn5 := HN5.out
        go_wp2_with (first | (refine wpList_load_midG (by rfl) 30 (.tmp 4) rfl w5.heap.size 0 rfl _ _ HB13.out Tryz.underlying30 rfl HE2.out.infoL ?_) | fail)
        obtain ⟨W13, hW13⟩ : ∃ X, X = w12.setCell ⟨w5.heap.size, 8, none⟩ (.slice Aq Q.length kq) := ⟨_, rfl⟩
        rw [← hW13] at hoa13 hoq13 hm13 hb13 HB13 ⊢
        have HCI := Lib.hid (show Go.Ts.RI W13 (.slice A9 (x.acks.length + 1) k9) y.acks by rw [HY.out]; exact OwnA.ri hoa13)
        have HCM := Lib.hid (show RM W13 (.slice Aq Q.length kq) y.queue by rw [HY.out]; exact OwnQ.rm hoq13)
        have HM13 := Lib.hid hm13
        have HBW := Lib.hid hb13
        clear hW13 hoa12 hoq12 hoa13 hoq13 hb12 hm12 hm13 hb13 hgr f8 k8 k1
        have hc := settleO_any y _ _ s.next W13 HCI.out HCM.out HSZ2.out
        rw [← HEE2.out] at hc
        refine hc.mono ?_
        clear hc
        rintro e w8 ⟨a8, q8, rfl, ha8, hq8, hb8, hao, hqo⟩
        have hlt := (Array.getElem?_eq_some_iff.1 HBW.out).1
        have hbd := hb8
        have hb14 := HBW.out.below hbd
        have hm14 := HM13.out.below hbd
        obtain ⟨z, hz⟩ : ∃ z, z = settleS y s.next := ⟨_, rfl⟩
        rw [← hz] at ha8 hq8 HSZ3 ⊢
        obtain ⟨A8, k8, hs8, _⟩ := id ha8
        subst hs8
        obtain ⟨E4, hE4⟩ : ∃ E4, E4 = subC z (.slice A8 z.acks.length k8) q8 := ⟨_, rfl⟩
        have HEE4 := Lib.hid hE4
        have HE4 := Lib.hid (show Cub E4 by rw [hE4]; exact Cub.mk_ z (rl_one ha8) (rl_one hq8))
        have HZE := Lib.hid hz
        rw [← hE4]
        clear hE4 hz
        have HB14 := Lib.hid hb14
        have HSE := Lib.hid (show E2.toArray.size = E4.toArray.size by simp [HE4.out.len, HE2.out.len])
        have hgr := grown_row w8 w5.heap.size E4.toArray
        have hm15 := hm14.grown hgr HN5.out
        have hb15 := hb14.set E4
        have hci := rl_block fixed_ci ha8 hgr.size (fun k hk => setRow_other _ _ k _ (by have := hao k hk; omega))
        have hcm := rl_block fixed_cm hq8 hgr.size (fun k hk => setRow_other _ _ k _ (by have := hqo k hk; omega))
        have HM15 := Lib.hid hm15
        have HB15 := Lib.hid hb15.range
        have HP15 := Lib.hid (HPT.out _ hm15.a)
        have HCI5 := Lib.hid hci
        have HCM5 := Lib.hid hcm
        have k7 := hb15.cv 7 (v := .slice A8 z.acks.length k8) (by rw [HEE4.out]; rfl)
        have HZA := Lib.hid (show ackX s x o i = z by rw [HZE.out, HY.out, HQE.out, ← List.eraseIdx_eq_take_drop_succ]; rfl)
        have har : ackR s x o = need (decide (z.acks.length ≤ 20)) 31 (.yes (putSt s z) ⟨0, 0, []⟩) := by
          unfold ackR leasedR
          rw [HAT.out]
          simp only [HMQ.out, HZA.out]
          unfold need
          rw [if_pos (by simpa using HTN.out)]
        have HAR := Lib.hid har
        clear hao hqo hlt hm15 hb15 hci hcm hgr hb14 hm14 ha8 hq8 hbd hb8 har HCI HCM HM13 HBW
        by_cases h20 : z.acks.length ≤ 20
        case neg =>
          have q2 : decide ((z.acks.length : Int) ≤ 20) = false := decide_eq_false (by omega)
          go_wp2_with (first | (refine wpList_store_row rfl 30 (.tmp 4) (.tmp 36) rfl w5.heap.size E4.toArray rfl rfl 30 E2.toArray HB14.out HE4.out.info HSE.out HE4.out.all ?_) | fail)
          have HRES := Lib.hid (show ackR s x o = Res.no 31 by rw [HAR.out]; unfold need; simp [h20])
          refine (must_no 31 _).mono ?_
          rintro e w9 ⟨rfl, rfl⟩
          refine ⟨rfl, ?_⟩
          show GivesRes w (ackR s x o) _ _
          rw [HRES.out]
          exact ⟨rfl, HM15.out.b⟩
        have q2 : (z.acks.length : Int) ≤ 20 := by omega
        have HRES := Lib.hid (show ackR s x o = Res.yes (putSt s z) ⟨0, 0, []⟩ by rw [HAR.out]; unfold need; simp [h20])
        go_wp2_with (first | (refine wpList_store_row rfl 30 (.tmp 4) (.tmp 36) rfl w5.heap.size E4.toArray rfl rfl 30 E2.toArray HB14.out HE4.out.info HSE.out HE4.out.all ?_) | fail)
        refine (must_yes 31 _).mono ?_
        rintro e w9 ⟨rfl, rfl⟩
        clear q2 k7 h20
        go_wp2_with (first | (refine wpList_load_midG (by rfl) 25 (.tmp 42) rfl w.heap.size 0 rfl _ _ HP15.out Tryz.underlying25 rfl size24 ?_) | (refine wpList_load_midG (by rfl) 30 (.tmp 4) rfl w5.heap.size 0 rfl _ _ HB15.out Tryz.underlying30 rfl HE4.out.infoL ?_) | fail)
        have hc := putP_any s.clock s.next s.last (.slice A s.subs.length ca) s.subs z (.slice A8 z.acks.length k8) q8 _ (HR.out.below stays_cs HM15.out.b) HZ.out (by have := HL.out; omega) HCI5.out HCM5.out HSZ3.out
        rw [← HEE4.out] at hc
        refine hc.mono ?_
        clear hc
        rintro e w16 ⟨u, rfl, hon, hb16⟩
        have hmf := HM15.out.below hb16
        have hn := HM15.out.n
        clear HP15 HB15
        have HS9 := Lib.hid hmf.s
        have HR9 := Lib.hid (hmf.r.setOther (k := w.heap.size + 1) (by omega) (stC (s.clock) (s.next) (s.last) u).toArray)
        have HSA9 := Lib.hid (st_all (s.clock) (s.next) (s.last) (rl_one hon.rs))
        go_wp2_with (first | (refine wpList_store_row rfl 25 (.tmp 2) (.tmp 45) rfl (w.heap.size + 1) (stC (s.clock) (s.next) (s.last) u).toArray rfl rfl 25 zT.toArray HS9.out size24 rfl HSA9.out ?_) | (refine wpList_store_row rfl 37 (.tmp 3) (.tmp 46) rfl (w.heap.size + 2) (rpC ⟨0, 0, []⟩ (.slice none 0 0)).toArray rfl rfl 37 zR.toArray HR9.out sizeR rfl (rp_all ⟨0, 0, []⟩ rfl) ?_) | fail)
        refine bodyPost_ret (m_res hmf rfl rfl rfl) rfl ?_
        show GivesRes w (ackR s x o) _ _
        rw [HRES.out]
        exact m_gives (t := ⟨s.clock, s.next, s.last, _⟩) (rp := ⟨0, 0, []⟩) hmf hon (by omega) (RLt.nil_ _ _ _ _ (by decide))
      · have hHeld8 := And.intro (Lib.cell?_alloc_some (.cells #[.int .i64 o.seq] 3) hHeld.1) (Lib.cell?_alloc_some (.cells #[.int .i64 o.seq] 3) hHeld.2)
        go_simp
        try (go_wp2_with fail)
        refine hK.out _ _ ?_ (fun _ => ?_)
        · exact hHeld8
        clear hK K hHeld
        have hHeld := hHeld8
        clear hHeld8
        try simp only [Act.put, zA, zB, zC]
        refine rdA (rs := [1]) (arC (i := 1) fun K hK => ?_)
        have hq := Lib.cell?_alloc_some (.cells #[.int .i64 o.seq] 3) HC7D.out
        go_simp
        try (go_wp2_with fail)
        refine hK.out _ _ ?_ (fun _ => ?_)
        · exact hHeld
        clear hK K hq
        try simp only [Act.put, zA, zB, zC]
        have hbl : Below V.heap.size V (V.drew.alloc (.cells #[.int .i64 o.seq] 3)) := (SB.b0 (SB.start V)).alloc (Nat.le_refl _) _
        have hsr := src_cells V.drew (g := V.heap.size) rfl Tryz.underlying27 3 [.int .i64 o.seq] (by simp [Value.oneCell'])
        obtain ⟨V8, hV8⟩ : ∃ V8, V8 = (V.alloc (.cells #[.int .i64 o.seq] 3)).drew := ⟨_, rfl⟩
        have hE8 : V.drew.alloc (.cells #[.int .i64 o.seq] 3) = V8 := by rw [hV8]; rfl
        have hsr8 : Src Tryz.prog 1 27 (.slice (some ⟨V.heap.size, 0, none⟩) 1 1) 1 [.int .i64 o.seq] V8 := by rw [← hE8]; exact hsr
        rw [hE8] at hbl hHeld
        rw [← hV8]
        clear hsr hV8 hE8
        have hoa8 := own_below HOA.out hbl
        have hbx8 := HBX.out.below hbl
        have hoq8 := own_below HOQ.out hbl
        have hm8 := HM1.out.below hbl
        have hAL := HXG.out.al
        refine rdA (rs := [9]) (arC (i := 9) fun K hK => ?_)
        refine step_own rfl (.tmp 12) (.tmp 19) 27 27 rfl W0.heap.size 3 (.int .i64 0) 1 8 Tryz.underlying27 infoNum rfl rfl hoa8 rfl hsr8 (Below.refl W0.heap.size V8) (Nat.le_refl _) ?_ ?_ ?_ ?_
        · unfold maxLen; omega
        · omega
        · have := hoq8.lt g rfl; omega
        intro u w9 how hb9 hgr9
        obtain ⟨A9, k9, rfl, hk9⟩ := own_shape how
        have hou : OwnA w9 W0.heap.size (.slice A9 (x.acks.length + 1) k9) (x.acks ++ [o.seq]) := by unfold OwnA; simpa using how
        have hno : (Value.slice Aa x.acks.length ka).ownBlock ≠ some g := fun e => (own_ne_own hoa8 hoq8 (by decide)).elim (fun h => by rw [h] at e; cases e) (fun h => h e)
        clear how hb9 hsr8
        have h8' := hgr9.cell hHeld.1 (fun e => own_ne_wh hoa8 hbx8 (by decide) e.symm)
        have hq' := hgr9.cell hHeld.2 (fun e => hno e.symm)
        refine hK.out _ _ ?_ (fun _ => ?_)
        · exact ⟨h8', hq'⟩
        have hbx9 := hbx8.kept hgr9 (fun e => own_ne_wh hoa8 hbx8 (by decide) e.symm)
        have hoq9 : OwnQ w9 W0.heap.size _ x.queue := hoq8.kept hgr9 (own_ne_own hoq8 hoa8 (by decide))
        have hm9 := hm8.grownO hgr9 (fun k e => Nat.le_trans HMF.out.n (hoa8.lt k e).1)
        clear hK K hHeld hoa8 hoq8 hbx8 hm8 hgr9
        try simp only [Act.put, zA, zB, zC]
        refine tkA 10 (v := .pointer (some ⟨w5.heap.size, 7, none⟩)) ?_ ?_
        · intro W hSw; go_simp; try (with_reducible rfl)
        try simp only [Act.put, zA, zB, zC]
        refine rdA (rs := [11]) (arC (i := 11) fun K hK => ?_)
        have f7 := hbx9.frozen 7
        have k7 := hbx9.cv 7 (v := .slice Aa x.acks.length ka) (by rw [HEE.out]; rfl)
        have hgr := grown_cell w9 w5.heap.size 7 (.slice A9 (x.acks.length + 1) k9)
        have hb10 := hbx9.set1 7 (.slice A9 (x.acks.length + 1) k9)
        go_simp
        try (go_wp2_with fail)
        refine hK.out _ _ ?_ (fun _ => ?_)
        · exact ⟨hb10.cv 8 (by rw [HEE.out]; rfl), hgr.cell hq' (by simp; omega)⟩
        clear hK K f7 k7
        refine wpAnyH_done (by kernel_rfl) ?_ _
        have hoa10 : OwnA _ W0.heap.size _ (x.acks ++ [o.seq]) := hou.kept hgr (.inr (own_ne_wh hou hbx9 (by decide)))
        have hoq10 : OwnQ _ W0.heap.size _ x.queue := hoq9.kept hgr (.inr (own_ne_wh hoq9 hbx9 (by decide)))
        have hm10 := hm9.grown hgr HN5.out
        obtain ⟨W10, hW10⟩ : ∃ X, X = w9.setCell ⟨w5.heap.size, 7, none⟩ (.slice A9 (x.acks.length + 1) k9) := ⟨_, rfl⟩
        rw [← hW10] at hoa10 hoq10 hm10 hb10 ⊢
        clear hW10 hou hoq9 hbx9 hm9 hgr h8' hq' hno
        have k7 := hb10.cv 7 (v := .slice A9 (x.acks.length + 1) k9) (by rw [HEE.out]; rfl)
        go_wp2_with fail
        refine (sort_own W0.heap.size _ _ _ hoa10 (by simp) (by simp; omega)).mono ?_
        rintro e w11 ⟨rfl, hos, hgr11⟩
        rw [sort_ins_eq HXG.out.pd.sa HNA.out] at hos
        have hb11 := hb10.kept hgr11 (fun e => own_ne_wh hoa10 hb10 (by decide) e.symm)
        have hoq11 : OwnQ w11 W0.heap.size _ x.queue := hoq10.kept hgr11 (own_ne_own hoq10 hoa10 (by decide))
        have hm11 := hm10.grownO hgr11 (fun k e => Nat.le_trans HMF.out.n (hoa10.lt k e).1)
        clear k7 hoa10 hoq10 hb10 hm10 hgr11
        have k8 := hb11.cv 8 (v := .slice (some ⟨g, 0, none⟩) x.queue.length cq) (by rw [HEE.out]; rfl)
        have e6 : wrap64 ((i : Int) + 1) = (i : Int) + 1 := by have := HXG.out.pd.ql; unfold wrap64; omega
        go_wp2_with fail
        refine (delete_msg W0.heap.size i _ x.queue w11 hoq11 HIL.out).mono ?_
        rintro e w12 ⟨v', rfl, hoq12, hgr12⟩
        obtain ⟨Aq, kq, rfl, hkq⟩ := own_shape hoq12
        obtain ⟨Q, hQ⟩ : ∃ Q, Q = x.queue.take i ++ x.queue.drop (i + 1) := ⟨_, rfl⟩
        rw [← hQ] at hoq12 ⊢
        have HQE := Lib.hid hQ
        clear hQ
        have hb12 := hb11.kept hgr12 (fun e => own_ne_wh hoq11 hb11 (by decide) e.symm)
        have hoa12 : OwnA w12 W0.heap.size _ (insI o.seq x.acks) := hos.kept hgr12 (own_ne_own hos hoq11 (by decide))
        have hm12 := hm11.grownO hgr12 (fun k e => Nat.le_trans HMF.out.n (hoq11.lt k e).1)
        clear k8 e6 hoq11 hos hb11 hm11 hgr12
        have f8 := hb12.frozen 8
        have k8 := hb12.cv 8 (v := .slice (some ⟨g, 0, none⟩) x.queue.length cq) (by rw [HEE.out]; rfl)
        have hgr := grown_cell w12 w5.heap.size 8 (.slice Aq Q.length kq)
        have hb13 := hb12.set1 8 (.slice Aq Q.length kq)
        have hm13 := hm12.grown hgr HN5.out
        have hoa13 : OwnA _ W0.heap.size _ (insI o.seq x.acks) := hoa12.kept hgr (.inr (own_ne_wh hoa12 hb12 (by decide)))
        have hoq13 : OwnQ _ W0.heap.size _ Q := hoq12.kept hgr (.inr (own_ne_wh hoq12 hb12 (by decide)))
        obtain ⟨y, hy⟩ : ∃ y : Sub, y = { x with acks := insI o.seq x.acks, queue := Q } := ⟨_, rfl⟩
        obtain ⟨E2, hE2⟩ : ∃ E2, E2 = (E.set 7 (.slice A9 (x.acks.length + 1) k9)).set 8 (.slice Aq Q.length kq) := ⟨_, rfl⟩
        rw [← hE2] at hb13
        have HEE2 := Lib.hid (show E2 = subC y (.slice A9 (x.acks.length + 1) k9) (.slice Aq Q.length kq) by rw [hE2, hy, HEE.out]; rfl)
        have HE2 := Lib.hid (show Cub E2 by rw [HEE2.out]; exact Cub.mk_ y (rl_one (OwnA.ri hoa13)) (rl_one (OwnQ.rm hoq13)))
        have HY := Lib.hid hy
        clear hE2 hy
        have HB13 := Lib.hid hb13.range
        have k1 := HCV1.out _ hm13.a
        have HSZ2 := Lib.hid (show Sized y by rw [HY.out]; exact Sized.few (by show (insI o.seq x.acks).length ≤ 1000000; rw [insI_len]; omega) (by have := HXG.out.pd.ql; show Q.length ≤ 1000000; rw [HQE.out]; simp; omega))
        have HSZ3 := Lib.hid (show Sized (settleS y s.next) by rw [HY.out]; exact Sized.few (Nat.le_trans (List.length_filter_le _ _) (by show (insI o.seq x.acks).length ≤ 1000000; rw [insI_len]; omega)) (by have := HXG.out.pd.ql; show Q.length ≤ 1000000; rw [HQE.out]; simp; omega))
        have hn5 := HN5.out
        go_wp2_with (first | (refine wpList_load_midG (by rfl) 30 (.tmp 4) rfl w5.heap.size 0 rfl _ _ HB13.out Tryz.underlying30 rfl HE2.out.infoL ?_) | fail)
        obtain ⟨W13, hW13⟩ : ∃ X, X = w12.setCell ⟨w5.heap.size, 8, none⟩ (.slice Aq Q.length kq) := ⟨_, rfl⟩
        rw [← hW13] at hoa13 hoq13 hm13 hb13 HB13 ⊢
        have HCI := Lib.hid (show Go.Ts.RI W13 (.slice A9 (x.acks.length + 1) k9) y.acks by rw [HY.out]; exact OwnA.ri hoa13)
        have HCM := Lib.hid (show RM W13 (.slice Aq Q.length kq) y.queue by rw [HY.out]; exact OwnQ.rm hoq13)
        have HM13 := Lib.hid hm13
        have HBW := Lib.hid hb13
        clear hW13 hoa12 hoq12 hoa13 hoq13 hb12 hm12 hm13 hb13 hgr f8 k8 k1
        have hc := settleO_any y _ _ s.next W13 HCI.out HCM.out HSZ2.out
        rw [← HEE2.out] at hc
        refine hc.mono ?_
        clear hc
        rintro e w8 ⟨a8, q8, rfl, ha8, hq8, hb8, hao, hqo⟩
        have hlt := (Array.getElem?_eq_some_iff.1 HBW.out).1
        have hbd := hb8
        have hb14 := HBW.out.below hbd
        have hm14 := HM13.out.below hbd
        obtain ⟨z, hz⟩ : ∃ z, z = settleS y s.next := ⟨_, rfl⟩
        rw [← hz] at ha8 hq8 HSZ3 ⊢
        obtain ⟨A8, k8, hs8, _⟩ := id ha8
        subst hs8
        obtain ⟨E4, hE4⟩ : ∃ E4, E4 = subC z (.slice A8 z.acks.length k8) q8 := ⟨_, rfl⟩
        have HEE4 := Lib.hid hE4
        have HE4 := Lib.hid (show Cub E4 by rw [hE4]; exact Cub.mk_ z (rl_one ha8) (rl_one hq8))
        have HZE := Lib.hid hz
        rw [← hE4]
        clear hE4 hz
        have HB14 := Lib.hid hb14
        have HSE := Lib.hid (show E2.toArray.size = E4.toArray.size by simp [HE4.out.len, HE2.out.len])
        have hgr := grown_row w8 w5.heap.size E4.toArray
        have hm15 := hm14.grown hgr HN5.out
        have hb15 := hb14.set E4
        have hci := rl_block fixed_ci ha8 hgr.size (fun k hk => setRow_other _ _ k _ (by have := hao k hk; omega))
        have hcm := rl_block fixed_cm hq8 hgr.size (fun k hk => setRow_other _ _ k _ (by have := hqo k hk; omega))
        have HM15 := Lib.hid hm15
        have HB15 := Lib.hid hb15.range
        have HP15 := Lib.hid (HPT.out _ hm15.a)
        have HCI5 := Lib.hid hci
        have HCM5 := Lib.hid hcm
        have k7 := hb15.cv 7 (v := .slice A8 z.acks.length k8) (by rw [HEE4.out]; rfl)
        have HZA := Lib.hid (show ackX s x o i = z by rw [HZE.out, HY.out, HQE.out, ← List.eraseIdx_eq_take_drop_succ]; rfl)
        have har : ackR s x o = need (decide (z.acks.length ≤ 20)) 31 (.yes (putSt s z) ⟨0, 0, []⟩) := by
          unfold ackR leasedR
          rw [HAT.out]
          simp only [HMQ.out, HZA.out]
          unfold need
          rw [if_pos (by simpa using HTN.out)]
        have HAR := Lib.hid har
        clear hao hqo hlt hm15 hb15 hci hcm hgr hb14 hm14 ha8 hq8 hbd hb8 har HCI HCM HM13 HBW
        by_cases h20 : z.acks.length ≤ 20
        case neg =>
          have q2 : decide ((z.acks.length : Int) ≤ 20) = false := decide_eq_false (by omega)
          go_wp2_with (first | (refine wpList_store_row rfl 30 (.tmp 4) (.tmp 36) rfl w5.heap.size E4.toArray rfl rfl 30 E2.toArray HB14.out HE4.out.info HSE.out HE4.out.all ?_) | fail)
          have HRES := Lib.hid (show ackR s x o = Res.no 31 by rw [HAR.out]; unfold need; simp [h20])
          refine (must_no 31 _).mono ?_
          rintro e w9 ⟨rfl, rfl⟩
          refine ⟨rfl, ?_⟩
          show GivesRes w (ackR s x o) _ _
          rw [HRES.out]
          exact ⟨rfl, HM15.out.b⟩
        have q2 : (z.acks.length : Int) ≤ 20 := by omega
        have HRES := Lib.hid (show ackR s x o = Res.yes (putSt s z) ⟨0, 0, []⟩ by rw [HAR.out]; unfold need; simp [h20])
        go_wp2_with (first | (refine wpList_store_row rfl 30 (.tmp 4) (.tmp 36) rfl w5.heap.size E4.toArray rfl rfl 30 E2.toArray HB14.out HE4.out.info HSE.out HE4.out.all ?_) | fail)
        refine (must_yes 31 _).mono ?_
        rintro e w9 ⟨rfl, rfl⟩
        clear q2 k7 h20
        go_wp2_with (first | (refine wpList_load_midG (by rfl) 25 (.tmp 42) rfl w.heap.size 0 rfl _ _ HP15.out Tryz.underlying25 rfl size24 ?_) | (refine wpList_load_midG (by rfl) 30 (.tmp 4) rfl w5.heap.size 0 rfl _ _ HB15.out Tryz.underlying30 rfl HE4.out.infoL ?_) | fail)
        have hc := putP_any s.clock s.next s.last (.slice A s.subs.length ca) s.subs z (.slice A8 z.acks.length k8) q8 _ (HR.out.below stays_cs HM15.out.b) HZ.out (by have := HL.out; omega) HCI5.out HCM5.out HSZ3.out
        rw [← HEE4.out] at hc
        refine hc.mono ?_
        clear hc
        rintro e w16 ⟨u, rfl, hon, hb16⟩
        have hmf := HM15.out.below hb16
        have hn := HM15.out.n
        clear HP15 HB15
        have HS9 := Lib.hid hmf.s
        have HR9 := Lib.hid (hmf.r.setOther (k := w.heap.size + 1) (by omega) (stC (s.clock) (s.next) (s.last) u).toArray)
        have HSA9 := Lib.hid (st_all (s.clock) (s.next) (s.last) (rl_one hon.rs))
        go_wp2_with (first | (refine wpList_store_row rfl 25 (.tmp 2) (.tmp 45) rfl (w.heap.size + 1) (stC (s.clock) (s.next) (s.last) u).toArray rfl rfl 25 zT.toArray HS9.out size24 rfl HSA9.out ?_) | (refine wpList_store_row rfl 37 (.tmp 3) (.tmp 46) rfl (w.heap.size + 2) (rpC ⟨0, 0, []⟩ (.slice none 0 0)).toArray rfl rfl 37 zR.toArray HR9.out sizeR rfl (rp_all ⟨0, 0, []⟩ rfl) ?_) | fail)
        refine bodyPost_ret (m_res hmf rfl rfl rfl) rfl ?_
        show GivesRes w (ackR s x o) _ _
        rw [HRES.out]
        exact m_gives (t := ⟨s.clock, s.next, s.last, _⟩) (rp := ⟨0, 0, []⟩) hmf hon (by omega) (RLt.nil_ _ _ _ _ (by decide))
end Go.Proofs.YtodckdkbheapfaaGreat
