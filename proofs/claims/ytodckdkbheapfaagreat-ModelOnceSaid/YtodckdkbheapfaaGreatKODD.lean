/-
  The contracts of the program's ackTo (layer model).; The contracts of the program's leased (layer model).; The contracts of the program's nack (layer model).; The contracts of the program's dead (layer model).; The contract of slices.Delete of one message out of messages of the call's own (layer model).; The contracts of the program's tick (layer model).
-/
import Derived.Deep.RegionLaw
import Derived.Shelf.RegionOpenPlain
import Derived.Lib.Walk
import Derived.Test.YtodckdkbheapfaaGreatKODA
set_option linter.unusedVariables false
set_option linter.unusedVariables false
set_option linter.unusedSimpArgs false
namespace Go.Proofs.YtodckdkbheapfaaGreat
open Go.RowKit Go.Rst Go.Tp Go.Ts Go.Md
set_option maxRecDepth 100000 in
set_option maxHeartbeats 8000000 in
theorem ackTo_p (s : St) (v : Value) (o : Md.Op) (dv : Value) (w : World) (h : RS w v s.subs) (hr : Rt s) (ho : OpOk o) (hd : dv.oneCell' = true) :
    Calls Tryz.prog 49 #[.agg (askC s v o dv).toArray] w (GivesRes w (withX s o fun x => ackToR s x o)) := by
  obtain ⟨A, ca, rfl, hca, hcm⟩ := h.shape
  obtain ⟨AC, hAC⟩ : ∃ AC, AC = askC s (.slice A s.subs.length ca) o dv := ⟨_, rfl⟩
  have HACE := Lib.hid hAC
  have HAI := Lib.hid (show (Tryz.prog.info? 73).map (·.size) = some AC.length by rw [hAC]; exact sizeA)
  have HPT := Lib.hid (fun W (h : Wh W w.heap.size AC 73) => ask_part (s := s) (v := .slice A s.subs.length ca) (o := o) (dv := dv) (by rw [← hAC]; exact h))
  have HR := Lib.hid h
  have HRT := Lib.hid hr
  have HOK := Lib.hid ho
  have HD := Lib.hid hd
  have HZ := Lib.hid hr.sized
  have HL := Lib.hid hr.len
  have HMF := Lib.hid (MF.start w AC)
  have HCV0 := Lib.hid (fun (W : World) (h : Wh W w.heap.size AC 73) => h.cv 0 (v := .int .i64 s.clock) (by rw [hAC]; rfl))
  have HCV1 := Lib.hid (fun (W : World) (h : Wh W w.heap.size AC 73) => h.cv 1 (v := .int .i64 s.next) (by rw [hAC]; rfl))
  have HCV2 := Lib.hid (fun (W : World) (h : Wh W w.heap.size AC 73) => h.cv 2 (v := .int .i64 s.last) (by rw [hAC]; rfl))
  have HCV3 := Lib.hid (fun (W : World) (h : Wh W w.heap.size AC 73) => h.cv 3 (v := .slice A s.subs.length ca) (by rw [hAC]; rfl))
  have HCV4 := Lib.hid (fun (W : World) (h : Wh W w.heap.size AC 73) => h.cv 4 (v := .int .i64 o.kind) (by rw [hAC]; rfl))
  have HCV5 := Lib.hid (fun (W : World) (h : Wh W w.heap.size AC 73) => h.cv 5 (v := .int .i64 o.sub) (by rw [hAC]; rfl))
  have HCV6 := Lib.hid (fun (W : World) (h : Wh W w.heap.size AC 73) => h.cv 6 (v := .int .i64 o.n) (by rw [hAC]; rfl))
  have HCV7 := Lib.hid (fun (W : World) (h : Wh W w.heap.size AC 73) => h.cv 7 (v := .int .i64 o.seq) (by rw [hAC]; rfl))
  have HCV8 := Lib.hid (fun (W : World) (h : Wh W w.heap.size AC 73) => h.cv 8 (v := sv o.name) (by rw [hAC]; rfl))
  have HCV9 := Lib.hid (fun (W : World) (h : Wh W w.heap.size AC 73) => h.cv 9 (v := sv o.topic) (by rw [hAC]; rfl))
  have HCV10 := Lib.hid (fun (W : World) (h : Wh W w.heap.size AC 73) => h.cv 10 (v := sv o.want) (by rw [hAC]; rfl))
  have HCV11 := Lib.hid (fun (W : World) (h : Wh W w.heap.size AC 73) => h.cv 11 (v := sv o.body) (by rw [hAC]; rfl))
  have HCV12 := Lib.hid (fun (W : World) (h : Wh W w.heap.size AC 73) => h.cv 12 (v := sv o.attr) (by rw [hAC]; rfl))
  have HCV13 := Lib.hid (fun (W : World) (h : Wh W w.heap.size AC 73) => h.cv 13 (v := dv) (by rw [hAC]; rfl))
  obtain ⟨W0, hW0⟩ : ∃ W0, W0 = A3 w AC := ⟨_, rfl⟩
  rw [← hW0] at HMF
  rw [← hAC]
  unfold A3 at hW0
  unfold maxLen at hcm
  clear h hr ho hd hAC
  have hla := HMF.out.a.range
  rw [hW0] at hla
  have HLA := Lib.hid hla
  clear hla
  have hF := sub_p s (.slice A s.subs.length ca) o dv
  have hfi := fun x (h : findS s.subs o.sub = some x) => find_some' h
  have HWX := Lib.hid (show withX s o (fun x => ackToR s x o) = (match findS s.subs o.sub with | none => Res.no 30 | some x => (fun x => ackToR s x o) x) from rfl)
  rw [HWX.out]
  generalize findS s.subs o.sub = fo at hF hfi ⊢
  have HF := Lib.hid hF
  have HFI := Lib.hid hfi
  clear hF hfi HWX
  have hmf : ∀ (fn : Fn) (first cap : Array Value) (w : World), (Instr.makeFunc fn first cap).run Tryz.prog w = .ok (.func fn first cap) w := fun _ _ _ _ => rfl
  go_enter Tryz.func49, Tryz.ntmps49
  go_wp2_with (first | (refine wpList_load_midG (by rfl) 73 (.tmp 1) rfl w.heap.size 0 rfl _ _ HLA.out Tryz.underlying73 rfl HAI.out ?_) | fail)
  rw [← hW0]
  clear hW0 HLA
  have hc := HF.out _ (HR.out.below stays_cs HMF.out.b) HZ.out HD.out
  rw [← HACE.out] at hc
  refine hc.mono ?_
  clear hc
  rintro e w5 hg
  cases fo with
  | none =>
    obtain ⟨rfl, hb5⟩ := hg
    exact ⟨rfl, rfl, HMF.out.b.trans (hb5.mono HMF.out.b.size)⟩
  | some x =>
    obtain ⟨av, qv, rfl, hoa, hoq, hb5⟩ := hg
    have HX := Lib.hid (HFI.out x rfl)
    have HXG := Lib.hid (HRT.out.gd HX.out.1)
    obtain ⟨E, hE⟩ : ∃ E, E = subC x av qv := ⟨_, rfl⟩
    have HE := Lib.hid (show Cub E by rw [hE]; exact Cub.mk_ x (rl_one (OwnA.ri hoa)) (rl_one (OwnQ.rm hoq)))
    have HEE := Lib.hid hE
    rw [← hE]
    have HM1 := Lib.hid (HMF.out.below (hb5.trans ((box_below w5 E).mono hb5.size)))
    have HOA := Lib.hid (own_below hoa (box_below w5 E))
    have HOQ := Lib.hid (own_below hoq (box_below w5 E))
    have HBX := Lib.hid (box_wh w5 E)
    have HN5 := Lib.hid (show w.heap.size + 3 ≤ w5.heap.size from Nat.le_trans HMF.out.n hb5.size)
    have HNW := Lib.hid HMF.out.n
    clear hE hoa hoq hb5
    have k8 := HBX.out.cv 8 (v := qv) (by rw [HEE.out]; rfl)
    have k6 := HBX.out.cv 6 (v := .int .i64 x.floor) (by rw [HEE.out]; rfl)
    obtain ⟨Aq, cq, hqs, _⟩ := own_shape HOQ.out
    have hc7 := HCV7.out _ HM1.out.a
    have hc1 := HCV1.out _ HM1.out.a
    have HDL := Lib.hid (del_msgs qv x.queue W0.heap.size (fun W => W.cell? ⟨w.heap.size, 7, none⟩ = some (.int .i64 o.seq)) 80 #[.pointer (some ⟨w.heap.size, 0, none⟩)] (fun m => decide (m.seq ≤ o.seq)) (boxW w5 E) HOQ.out hc7 (fun W W2 h1 _ h2 => h2.cell h1 (fun e => by have := (HOQ.out.lt _ e.symm).1; have := HNW.out; simp at *; omega)) ackTo1_ent (ackTo1_pred w.heap.size o.seq) (by have := HXG.out.pd.ql; omega))
    have HQL := Lib.hid (fun k h => Nat.le_trans HNW.out (HOQ.out.lt k h).1)
    have HQN := Lib.hid (own_ne_wh HOQ.out HBX.out (by decide))
    have HAQ := Lib.hid (own_ne_own HOA.out HOQ.out (by decide))
    obtain ⟨Q, hQ⟩ : ∃ Q, Q = x.queue.filter (fun m => !decide (m.seq ≤ o.seq)) := ⟨_, rfl⟩
    rw [← hQ] at HDL
    have HQE := Lib.hid hQ
    have n0 := HRT.out.n0
    have n1 := HRT.out.n1
    have e5 : wrap64 (s.next - 1) = s.next - 1 := by unfold wrap64; omega
    clear hQ
    rw [hqs] at k8
    have HQS := Lib.hid hqs
    clear hqs
    go_wp2_with (first | (refine wpList_store_row rfl 30 (.tmp 4) (.tmp 6) rfl w5.heap.size E.toArray rfl rfl 30 #[.int .i64 0, .string ⟨#[]⟩, .string ⟨#[]⟩, .string ⟨#[]⟩, .int .i64 0, .int .i64 0, .int .i64 0, .slice none 0 0, .slice none 0 0, .string ⟨#[]⟩] (box_old w5) HE.out.info HE.out.old HE.out.all ?_; rw [box_def]) | fail)
    refine (within_any o.seq x.floor (s.next - 1) _).mono ?_
    rintro e v5 ⟨rfl, rfl⟩
    cases h1 : (decide (x.floor ≤ o.seq) && decide (o.seq ≤ s.next - 1)) with
    | false =>
      clear k6 k8 hc7 hc1
      go_wp2_with fail
      have HRES := Lib.hid (show ackToR s x o = Res.no 1 by unfold ackToR need; simp [h1])
      refine (must_no 1 _).mono ?_
      rintro e w9 ⟨rfl, rfl⟩
      refine ⟨rfl, ?_⟩
      show GivesRes w (ackToR s x o) _ _
      rw [HRES.out]
      exact ⟨rfl, HM1.out.b⟩
    | true =>
      have HRES := Lib.hid (show ackToR s x o = Res.yes (putSt s (ackToX s x o)) ⟨0, 0, []⟩ by unfold ackToR need; simp [h1])
      clear h1
      go_wp2_with fail
      refine (must_yes 1 _).mono ?_
      rintro e w9 ⟨rfl, rfl⟩
      go_wp2_with fail
      rw [← HQS.out]
      refine HDL.out.mono ?_
      rintro e w6 ⟨lv, rfl, hol2, hgr6, _⟩
      have hbx6 := HBX.out.kept hgr6 (fun h => HQN.out h.symm)
      have hm6 := HM1.out.grownO hgr6 HQL.out
      have hoa6 : OwnA w6 W0.heap.size av x.acks := HOA.out.kept hgr6 HAQ.out
      obtain ⟨Al, cl, hls, _⟩ := own_shape hol2
      subst hls
      have f8 := hbx6.frozen 8
      have k8 := hbx6.cv 8 (v := qv) (by rw [HEE.out]; rfl)
      rw [HQS.out] at k8
      have hgr := grown_cell w6 w5.heap.size 8 (.slice Al Q.length cl)
      have hb7 := hbx6.set1 8 (.slice Al Q.length cl)
      have hm7 := hm6.grown hgr HN5.out
      have hoa7 : OwnA _ W0.heap.size av x.acks := hoa6.kept hgr (.inr (own_ne_wh hoa6 hbx6 (by decide)))
      have hol7 : OwnQ _ W0.heap.size _ Q := hol2.kept hgr (.inr (own_ne_wh hol2 hbx6 (by decide)))
      have f6 := hb7.frozen 6
      have k6b := hb7.cv 6 (v := .int .i64 x.floor) (by rw [HEE.out]; rfl)
      have hc7b := HCV7.out _ hm7.a
      have hgr2 := grown_cell (w6.setCell ⟨w5.heap.size, 8, none⟩ (.slice Al Q.length cl)) w5.heap.size 6 (.int .i64 o.seq)
      have hb8 := hb7.set1 6 (.int .i64 o.seq)
      have hm8 := hm7.grown hgr2 HN5.out
      have hoa8 : OwnA _ W0.heap.size av x.acks := hoa7.kept hgr2 (.inr (own_ne_wh hoa7 hb7 (by decide)))
      have hol8 : OwnQ _ W0.heap.size _ Q := hol7.kept hgr2 (.inr (own_ne_wh hol7 hb7 (by decide)))
      obtain ⟨E2, hE2⟩ : ∃ E2, E2 = (E.set 8 (.slice Al Q.length cl)).set 6 (.int .i64 o.seq) := ⟨_, rfl⟩
      rw [← hE2] at hb8
      have HEE2 := Lib.hid (show E2 = subC { x with queue := Q, floor := o.seq } av (.slice Al Q.length cl) by rw [hE2, HEE.out]; rfl)
      have HE2 := Lib.hid (show Cub E2 by rw [HEE2.out]; exact Cub.mk_ { x with queue := Q, floor := o.seq } (rl_one (OwnA.ri hoa8)) (rl_one (OwnQ.rm hol8)))
      clear hE2 hol2 k6 hc7 hc1
      go_wp2_with fail
      obtain ⟨W7, hW7⟩ : ∃ W7, W7 = (w6.setCell ⟨w5.heap.size, 8, none⟩ (.slice Al Q.length cl)).setCell ⟨w5.heap.size, 6, none⟩ (.int .i64 o.seq) := ⟨_, rfl⟩
      rw [← hW7] at hm8 hoa8 hol8 hb8 ⊢
      have HM7 := Lib.hid hm8
      have HOA7 := Lib.hid (OwnA.ri hoa8)
      have HOQ7 := Lib.hid (OwnQ.rm hol8)
      have HB7 := Lib.hid hb8
      have hN5 := HN5.out
      clear hW7 hm6 hm7 hm8 hoa6 hoa7 hoa8 hol7 hol8 hb7 hb8 hgr hgr2 hbx6 f8 k8 f6 k6b hc7b hgr6
      refine wp_region_held_drew (S := MSB w AC (w5.heap.size) E2) (by kernel_rfl) (HM7.out.msb HB7.out) (fun hHeld => ?_)
      refine tkC 0 ?_
      refine tkA 1 (v := .agg (stC s.clock s.next s.last (.slice A s.subs.length ca)).toArray) (fun W hSw => exec_load_mid 25 (.tmp 27) rfl w.heap.size 0 rfl _ _ (HPT.out W hSw.1.2.1) Tryz.underlying25 rfl size24) ?_
      try simp only [Act.put, zA, zB, zC]
      refine tkA 2 (v := .agg E2.toArray) (fun W hSw => exec_load_mid 30 (.tmp 4) rfl w5.heap.size 0 rfl _ _ (hSw.2.range) Tryz.underlying30 rfl HE2.out.infoL) ?_
      try simp only [Act.put, zA, zB, zC]
      refine tkC 3 ?_
      refine tkC 4 ?_
      refine tkA 5 (v := .int .i64 s.next) ?_ ?_
      · intro W hSw; have hq := HCV1.out W hSw.1.2.1
        go_simp; try (with_reducible rfl)
      try simp only [Act.put, zA, zB, zC]
      refine tkC 8 ?_
      have hfl : Q.length ≤ x.queue.length := by rw [HQE.out]; exact List.length_filter_le _ _
      have hql := HXG.out.pd.ql
      have HSZ2 := Lib.hid (show Sized { x with queue := Q, floor := o.seq } from Sized.few (by have := HXG.out.al; show x.acks.length ≤ 1000000; omega) (by show Q.length ≤ 1000000; omega))
      have HSZ3 := Lib.hid (show Sized (settleS { x with queue := Q, floor := o.seq } s.next) from Sized.few (Nat.le_trans (List.length_filter_le _ _) (by have := HXG.out.al; show x.acks.length ≤ 1000000; omega)) (by show Q.length ≤ 1000000; omega))
      refine rdA (rs := [6]) (arC (i := 6) fun K hK => ?_)
      go_simp
      have hc := settleP_any { x with queue := Q, floor := o.seq } av (.slice Al Q.length cl) s.next _ (HOA7.out.below stays_ci (SB.b0 (SB.start _))) (HOQ7.out.below stays_cm (SB.b0 (SB.start _))) HSZ2.out
      rw [← HEE2.out] at hc
      refine hc.mono ?_
      clear hc
      rintro e w8 ⟨a8, q8, rfl, ha8, hq8, hb8⟩
      try (go_wp2_with fail)
      have hHeld' := hHeld.below hb8
      refine hK.out _ _ ?_ (fun _ => ?_)
      · exact hHeld'
      clear hK K hHeld
      have hHeld := hHeld'
      clear hHeld'
      try simp only [Act.put, zA, zB, zC]
      refine rdA (rs := [7]) (arC (i := 7) fun K hK => ?_)
      go_simp
      refine (putP_any s.clock s.next s.last (.slice A s.subs.length ca) s.subs _ a8 q8 _ (HR.out.below stays_cs hHeld.1.1) HZ.out (by have := HL.out; omega) ha8 hq8 HSZ3.out).mono ?_
      rintro e w9 ⟨u, rfl, hon, hb9⟩
      try (go_wp2_with fail)
      have hHeld' := hHeld.below hb9
      refine hK.out _ _ ?_ (fun _ => ?_)
      · exact hHeld'
      clear hK K hHeld
      have hHeld := hHeld'
      clear hHeld'
      try simp only [Act.put, zA, zB, zC]
      have hmf := HM7.out.below (((SB.b0 (SB.start W7)).trans hb8).trans (hb9.mono (by have := hb8.size; simpa using this)))
      have hn := HM7.out.n
      have hdz : W7.drew.heap.size = W7.heap.size := by simp
      have hs8 := hb8.size
      have HRES2 := Lib.hid (show ackToR s x o = Res.yes (putSt s (settleS { x with queue := Q, floor := o.seq } s.next)) ⟨0, 0, []⟩ by rw [HRES.out, HQE.out]; rfl)
      clear HRES
      have HRES := HRES2
      refine rdA (rs := [9]) (arC (i := 9) fun K hK => ?_)
      refine step_store_row rfl 25 (.tmp 2) (.tmp 34) rfl (w.heap.size + 1) (stC (s.clock) (s.next) (s.last) u).toArray rfl rfl 25 zT.toArray hmf.s size24 rfl (st_all _ _ _ (rl_one hon.rs)) ?_
      refine hK.out _ _ ?_ (fun _ => ?_)
      · exact hHeld.row (by omega) (by omega) _
      clear hK K
      try simp only [Act.put, zA, zB, zC]
      refine rdA (rs := [10]) (arC (i := 10) fun K hK => ?_)
      refine step_store_row rfl 37 (.tmp 3) (.tmp 35) rfl (w.heap.size + 2) (rpC ⟨0, 0, []⟩ (.slice none 0 0)).toArray rfl rfl 37 zR.toArray (hmf.r.setOther (by omega) _) sizeR rfl (rp_all _ rfl) ?_
      refine hK.out _ _ ?_ (fun _ => ?_)
      · exact (hHeld.row (by omega) (by omega) _).row (by omega) (by omega) _
      clear hK K
      try simp only [Act.put, zA, zB, zC]
      refine wpAnyH_done (by kernel_rfl) ?_ _
      clear hHeld
      go_wp2_with fail
      refine bodyPost_ret (m_res hmf rfl rfl rfl) rfl ?_
      show GivesRes w (ackToR s x o) _ _
      rw [HRES.out]
      exact m_gives (t := ⟨s.clock, s.next, s.last, _⟩) (rp := ⟨0, 0, []⟩) hmf hon (by omega) (RLt.nil_ _ _ _ _ (by decide))
end Go.Proofs.YtodckdkbheapfaaGreat
set_option linter.unusedVariables false
set_option linter.unusedSimpArgs false
namespace Go.Md
open Go Go.Tp Go.Ts
theorem idx_at {p : Msg → Bool} {xs : List Msg} {r : Int} (h : IdxM p xs r) : (r = -1 ∧ xs.findIdx? p = none) ∨ ∃ k : Nat, r = k ∧ k < xs.length ∧ xs.findIdx? p = some k := by
  rcases h with ⟨k, hk, rfl, h1, h2⟩ | ⟨rfl, h⟩
  · exact .inr ⟨k, rfl, hk, by rw [List.findIdx?_eq_some_iff_getElem]; exact ⟨hk, h1, fun j hj => by simpa using h2 j (by omega) hj⟩⟩
  · exact .inl ⟨rfl, by rw [List.findIdx?_eq_none_iff]; intro m hm; obtain ⟨j, hj, rfl⟩ := List.getElem_of_mem hm; exact h j hj⟩
theorem til_pos {x : Sub} {clock next : Int} (h : Gd x clock next) (h0 : 0 ≤ clock) (h1 : clock ≤ 4503599627370496) {m : Msg} (hm : m ∈ x.queue) : 0 ≤ m.til ∧ m.tries ≤ x.most ∧ m.til ≤ clock + 1000 := by
  have h2 := (h.pd.qr m hm).2.2.2
  have e1 := h.pd.hd.e1
  have e2 := h.pd.hd.e2
  rw [msg_iff h0 h1 e1 e2] at h2
  obtain ⟨_, h3⟩ := h2
  rcases h3 with h3 | ⟨_, _, h3 | h3⟩ <;> omega
end Go.Md
namespace Go.Proofs.YtodckdkbheapfaaGreat
open Go.RowKit Go.Rst Go.Tp Go.Ts Go.Md
def GivesL (w : World) (fo : Option Sub) (o : Md.Op) (e : Ending) (w' : World) : Prop := match fo with
  | none => e = .panicked (errP 30) ∧ Below w.heap.size w w'
  | some x => match atQ x o.seq with
    | none => e = .panicked (errP 30) ∧ Below w.heap.size w w'
    | some i => match x.queue[i]? with
      | none => False
      | some m => if m.til = 0 then e = .panicked (errP 1) ∧ Below w.heap.size w w'
        else ∃ av qv, e = .returned (.tuple #[.agg (subC x av qv).toArray, .int .i64 (i : Nat)]) ∧ OwnA w' w.heap.size av x.acks ∧ OwnQ w' w.heap.size qv x.queue ∧ Below w.heap.size w w'
set_option maxRecDepth 100000 in
set_option maxHeartbeats 8000000 in
theorem leased_p (s : St) (v : Value) (o : Md.Op) (dv : Value) (w : World) (h : RS w v s.subs) (hr : Rt s) (hd : dv.oneCell' = true) :
    Calls Tryz.prog 75 #[.agg (askC s v o dv).toArray] w (GivesL w (findS s.subs o.sub) o) := by
  obtain ⟨A, ca, rfl, hca, hcm⟩ := h.shape
  obtain ⟨AC, hAC⟩ : ∃ AC, AC = askC s (.slice A s.subs.length ca) o dv := ⟨_, rfl⟩
  have HACE := Lib.hid hAC
  have HAI := Lib.hid (show (Tryz.prog.info? 73).map (·.size) = some AC.length by rw [hAC]; exact sizeA)
  obtain ⟨W0, hW0⟩ : ∃ W0, W0 = (w.alloc (.cells AC.toArray 73)).alloc (.cells #[.int .i64 0, .string ⟨#[]⟩, .string ⟨#[]⟩, .string ⟨#[]⟩, .int .i64 0, .int .i64 0, .int .i64 0, .slice none 0 0, .slice none 0 0, .string ⟨#[]⟩] 30) := ⟨_, rfl⟩
  have hb0 : Below w.heap.size w W0 := by rw [hW0]; exact below_two w _ _ _ _
  have ha : Wh W0 w.heap.size AC 73 := by rw [hW0]; exact (Wh.new w _ _).alloc _
  have hzr : Wh W0 (w.heap.size + 1) #[.int .i64 0, .string ⟨#[]⟩, .string ⟨#[]⟩, .string ⟨#[]⟩, .int .i64 0, .int .i64 0, .int .i64 0, .slice none 0 0, .slice none 0 0, .string ⟨#[]⟩].toList 30 := by
    have := Wh.new (w.alloc (.cells AC.toArray 73)) #[.int .i64 0, .string ⟨#[]⟩, .string ⟨#[]⟩, .string ⟨#[]⟩, .int .i64 0, .int .i64 0, .int .i64 0, .slice none 0 0, .slice none 0 0, .string ⟨#[]⟩].toList 30
    rw [World.size_alloc] at this
    rw [hW0]; exact this
  have hs0 : W0.heap.size = w.heap.size + 2 := by rw [hW0]; simp
  have hla := ha.range
  rw [hW0] at hla
  have HLA := Lib.hid hla
  have HB0 := Lib.hid hb0
  have HA := Lib.hid ha
  have HZR := Lib.hid hzr
  have HS0 := Lib.hid hs0
  have hF := sub_p s (.slice A s.subs.length ca) o dv W0 (h.below stays_cs hb0) hr.sized hd
  have hfi := fun x (h : findS s.subs o.sub = some x) => hr.gd (find_some' h).1
  generalize findS s.subs o.sub = fo at hF hfi ⊢
  rw [← hAC] at hF ⊢
  have HF := Lib.hid hF
  have HFI := Lib.hid hfi
  have HRT := Lib.hid hr
  have HC7 := Lib.hid (fun (W : World) (h : Wh W w.heap.size AC 73) => h.cv 7 (v := .int .i64 o.seq) (by rw [hAC]; rfl))
  have hmk : ∀ (fn : Fn) (first cap : Array Value) (w : World), (Instr.makeFunc fn first cap).run Tryz.prog w = .ok (.func fn first cap) w := fun _ _ _ _ => rfl
  clear hla hb0 ha hzr hs0 hF hfi h hr hd hAC
  go_enter Tryz.func75, Tryz.ntmps75
  go_wp2_with (first | (refine wpList_load_midG (by rfl) 73 (.tmp 1) rfl w.heap.size 0 rfl _ _ HLA.out Tryz.underlying73 rfl HAI.out ?_) | fail)
  rw [← hW0]
  clear hW0 HLA
  refine HF.out.mono ?_
  rintro e w5 hg
  cases fo with
  | none =>
    obtain ⟨rfl, hb5⟩ := hg
    exact ⟨rfl, rfl, HB0.out.trans (hb5.mono HB0.out.size)⟩
  | some x =>
    obtain ⟨av, qv, rfl, hoa, hoq, hb5⟩ := hg
    have HXG := Lib.hid (HFI.out x rfl)
    obtain ⟨E, hE⟩ : ∃ E, E = subC x av qv := ⟨_, rfl⟩
    have HE := Lib.hid (show Cub E by rw [hE]; exact Cub.mk_ x (rl_one (OwnA.ri hoa)) (rl_one (OwnQ.rm hoq)))
    have HEE := Lib.hid hE
    rw [← hE]
    have hv0 := hb5.trans ((box_below w5 E).mono hb5.size)
    have HBW := Lib.hid (HB0.out.trans (hv0.mono HB0.out.size))
    have HZ1 := Lib.hid (HZR.out.below hv0)
    have HC71 := Lib.hid (HC7.out _ (HA.out.below hv0))
    have HOA := Lib.hid (own_below hoa (box_below w5 E))
    have HOQ := Lib.hid (own_below hoq (box_below w5 E))
    have HBX := Lib.hid (box_wh w5 E)
    have HN5 := Lib.hid (show w.heap.size + 2 ≤ w5.heap.size by have := hb5.size; have := HS0.out; omega)
    have k8 := HBX.out.cv 8 (v := qv) (by rw [hE]; rfl)
    clear hE hoa hoq hb5 hv0
    have HIX := Lib.hid (idx_msgs qv x.queue (fun W => W.cell? ⟨w.heap.size, 7, none⟩ = some (.int .i64 o.seq)) 111 #[.pointer (some ⟨w.heap.size, 0, none⟩)] (fun m => m.seq == o.seq) (boxW w5 E) (OwnQ.rm HOQ.out) HC71.out (fun W W2 h1 h3 h2 => (h2.cell (p := ⟨w.heap.size, 7, none⟩) (block_lt_of_cell h1)).trans h1) leased1_ent (leased1_pred w.heap.size o.seq))
    go_wp2_with (first | (refine wpList_store_row rfl 30 (.tmp 4) (.tmp 7) rfl w5.heap.size E.toArray rfl rfl 30 #[.int .i64 0, .string ⟨#[]⟩, .string ⟨#[]⟩, .string ⟨#[]⟩, .int .i64 0, .int .i64 0, .int .i64 0, .slice none 0 0, .slice none 0 0, .string ⟨#[]⟩] (box_old w5) HE.out.info HE.out.old HE.out.all ?_; rw [box_def]) | fail)
    refine HIX.out.mono ?_
    rintro e w6 ⟨⟨r, rfl, hr⟩, hb6⟩
    rcases idx_at hr with ⟨hr1, hr2⟩ | ⟨i, hr1, hil, hr2⟩
    · have HRES := Lib.hid (show atQ x o.seq = none from hr2)
      subst hr1
      clear hr hr2 k8
      go_wp2_with fail
      refine (must_no 30 _).mono ?_
      rintro e w9 ⟨rfl, rfl⟩
      refine ⟨rfl, ?_⟩
      show (match atQ x o.seq with | none => _ | some i => _)
      rw [HRES.out]
      exact ⟨rfl, HBW.out.trans (hb6.mono HBW.out.size)⟩
    subst hr1
    obtain ⟨m, hm⟩ : ∃ m, x.queue[i]? = some m := ⟨_, List.getElem?_eq_getElem hil⟩
    have HRES := Lib.hid (show atQ x o.seq = some i from hr2)
    have HME := Lib.hid hm
    have htp := til_pos HXG.out HRT.out.c0 HRT.out.c1 (List.mem_of_getElem? hm)
    have HBX6 := Lib.hid (HBX.out.below hb6)
    have HZ6 := Lib.hid (HZ1.out.below hb6)
    have HOA6 := Lib.hid (own_below HOA.out hb6)
    have HOQ6 := Lib.hid (own_below HOQ.out hb6)
    have HB6 := Lib.hid (HBW.out.trans (hb6.mono HBW.out.size))
    obtain ⟨g, cq, hqs, _, _, hlc, hcm2⟩ := OwnQ.form HOQ6.out (by omega)
    subst hqs
    have hrg := OwnQ.at_ HOQ6.out hil
    have k8 := HBX6.out.cv 8 (v := .slice (some ⟨g, 0, none⟩) x.queue.length cq) (by rw [HEE.out]; rfl)
    obtain ⟨hil2, hm2⟩ := List.getElem?_eq_some_iff.1 hm
    rw [hm2] at hrg
    have kt := hrg 4 (.int .i64 m.til) rfl
    have q0 : (0 : Int) ≤ (i : Int) := by omega
    have q1 : (i : Int) < (x.queue.length : Int) := by omega
    clear hr hr2 hrg hm hm2 hil2 hb6
    go_wp2_with fail
    refine (must_yes 30 _).mono ?_
    rintro e w9 ⟨rfl, rfl⟩
    by_cases ht : m.til = 0
    · have q2 : decide (m.til > 0) = false := decide_eq_false (by omega)
      have q3 : decide (0 < m.til) = false := decide_eq_false (by omega)
      have HT := Lib.hid ht
      clear ht htp
      go_wp2_with fail
      refine (must_no 1 _).mono ?_
      rintro e w9 ⟨rfl, rfl⟩
      refine ⟨rfl, ?_⟩
      show (match atQ x o.seq with | none => _ | some i => _)
      rw [HRES.out]
      show (match x.queue[i]? with | none => _ | some m => _)
      rw [HME.out]
      show (if m.til = 0 then _ else _)
      rw [if_pos HT.out]
      exact ⟨rfl, HB6.out⟩
    have q2 : m.til > 0 := by omega
    have HT := Lib.hid ht
    clear ht htp
    go_wp2_with fail
    refine (must_yes 1 _).mono ?_
    rintro e w9 ⟨rfl, rfl⟩
    have HR6 := Lib.hid HBX6.out.range
    go_wp2_with (first | (refine wpList_load_midG (by rfl) 30 (.tmp 4) rfl w5.heap.size 0 rfl _ _ HR6.out Tryz.underlying30 rfl HE.out.infoL ?_) | (refine wpList_store_row rfl 30 (.tmp 2) (.tmp 23) rfl (w.heap.size + 1) E.toArray rfl rfl 30 #[.int .i64 0, .string ⟨#[]⟩, .string ⟨#[]⟩, .string ⟨#[]⟩, .int .i64 0, .int .i64 0, .int .i64 0, .slice none 0 0, .slice none 0 0, .string ⟨#[]⟩] HZ6.out HE.out.info HE.out.old HE.out.all ?_) | fail)
    refine bodyPost_ret (results_row_tmp rfl _ _ (w.heap.size + 1) E rfl (HZ6.out.set E) Tryz.underlying30 rfl HE.out.infoL) rfl ?_
    show (match atQ x o.seq with | none => _ | some i => _)
    rw [HRES.out]
    show (match x.queue[i]? with | none => _ | some m => _)
    rw [HME.out]
    show (if m.til = 0 then _ else _)
    rw [if_neg HT.out]
    have hgr := grown_row w9 (w.heap.size + 1) E.toArray
    refine ⟨av, _, by rw [HEE.out]; rfl, ?_, ?_, below_setRow HB6.out (by omega) _⟩
    · exact own_mono (HOA6.out.kept hgr (.inr (own_ne_wh HOA6.out HZ6.out (by decide)))) (by have := HS0.out; omega)
    · exact own_mono (HOQ6.out.kept hgr (.inr (own_ne_wh HOQ6.out HZ6.out (by decide)))) (by have := HS0.out; omega)
end Go.Proofs.YtodckdkbheapfaaGreat
set_option linter.unusedVariables false
set_option linter.unusedSimpArgs false
namespace Go.Proofs.YtodckdkbheapfaaGreat
open Go.RowKit Go.Rst Go.Tp Go.Ts Go.Md
set_option maxRecDepth 100000 in
set_option maxHeartbeats 8000000 in
theorem nack_p (s : St) (v : Value) (o : Md.Op) (dv : Value) (w : World) (h : RS w v s.subs) (hr : Rt s) (ho : OpOk o) (hd : dv.oneCell' = true) :
    Calls Tryz.prog 50 #[.agg (askC s v o dv).toArray] w (GivesRes w (withX s o fun x => nackR s x o)) := by
  obtain ⟨A, ca, rfl, hca, hcm⟩ := h.shape
  obtain ⟨AC, hAC⟩ : ∃ AC, AC = askC s (.slice A s.subs.length ca) o dv := ⟨_, rfl⟩
  have HACE := Lib.hid hAC
  have HAI := Lib.hid (show (Tryz.prog.info? 73).map (·.size) = some AC.length by rw [hAC]; exact sizeA)
  have HPT := Lib.hid (fun W (h : Wh W w.heap.size AC 73) => ask_part (s := s) (v := .slice A s.subs.length ca) (o := o) (dv := dv) (by rw [← hAC]; exact h))
  have HR := Lib.hid h
  have HRT := Lib.hid hr
  have HOK := Lib.hid ho
  have HD := Lib.hid hd
  have HZ := Lib.hid hr.sized
  have HL := Lib.hid hr.len
  have HMF := Lib.hid (MF.start w AC)
  have HCV0 := Lib.hid (fun (W : World) (h : Wh W w.heap.size AC 73) => h.cv 0 (v := .int .i64 s.clock) (by rw [hAC]; rfl))
  have HCV1 := Lib.hid (fun (W : World) (h : Wh W w.heap.size AC 73) => h.cv 1 (v := .int .i64 s.next) (by rw [hAC]; rfl))
  have HCV2 := Lib.hid (fun (W : World) (h : Wh W w.heap.size AC 73) => h.cv 2 (v := .int .i64 s.last) (by rw [hAC]; rfl))
  have HCV3 := Lib.hid (fun (W : World) (h : Wh W w.heap.size AC 73) => h.cv 3 (v := .slice A s.subs.length ca) (by rw [hAC]; rfl))
  have HCV4 := Lib.hid (fun (W : World) (h : Wh W w.heap.size AC 73) => h.cv 4 (v := .int .i64 o.kind) (by rw [hAC]; rfl))
  have HCV5 := Lib.hid (fun (W : World) (h : Wh W w.heap.size AC 73) => h.cv 5 (v := .int .i64 o.sub) (by rw [hAC]; rfl))
  have HCV6 := Lib.hid (fun (W : World) (h : Wh W w.heap.size AC 73) => h.cv 6 (v := .int .i64 o.n) (by rw [hAC]; rfl))
  have HCV7 := Lib.hid (fun (W : World) (h : Wh W w.heap.size AC 73) => h.cv 7 (v := .int .i64 o.seq) (by rw [hAC]; rfl))
  have HCV8 := Lib.hid (fun (W : World) (h : Wh W w.heap.size AC 73) => h.cv 8 (v := sv o.name) (by rw [hAC]; rfl))
  have HCV9 := Lib.hid (fun (W : World) (h : Wh W w.heap.size AC 73) => h.cv 9 (v := sv o.topic) (by rw [hAC]; rfl))
  have HCV10 := Lib.hid (fun (W : World) (h : Wh W w.heap.size AC 73) => h.cv 10 (v := sv o.want) (by rw [hAC]; rfl))
  have HCV11 := Lib.hid (fun (W : World) (h : Wh W w.heap.size AC 73) => h.cv 11 (v := sv o.body) (by rw [hAC]; rfl))
  have HCV12 := Lib.hid (fun (W : World) (h : Wh W w.heap.size AC 73) => h.cv 12 (v := sv o.attr) (by rw [hAC]; rfl))
  have HCV13 := Lib.hid (fun (W : World) (h : Wh W w.heap.size AC 73) => h.cv 13 (v := dv) (by rw [hAC]; rfl))
  obtain ⟨W0, hW0⟩ : ∃ W0, W0 = A3 w AC := ⟨_, rfl⟩
  rw [← hW0] at HMF
  rw [← hAC]
  unfold A3 at hW0
  unfold maxLen at hcm
  clear h hr ho hd hAC
  have hla := HMF.out.a.range
  rw [hW0] at hla
  have HLA := Lib.hid hla
  clear hla
  have hF := leased_p s (.slice A s.subs.length ca) o dv
  have hfi := fun x (h : findS s.subs o.sub = some x) => find_some' h
  have HWX := Lib.hid (show withX s o (fun x => nackR s x o) = (match findS s.subs o.sub with | none => Res.no 30 | some x => (fun x => nackR s x o) x) from rfl)
  rw [HWX.out]
  generalize findS s.subs o.sub = fo at hF hfi ⊢
  have HF := Lib.hid hF
  have HFI := Lib.hid hfi
  clear hF hfi HWX
  go_enter Tryz.func50, Tryz.ntmps50
  go_wp2_with (first | (refine wpList_load_midG (by rfl) 73 (.tmp 1) rfl w.heap.size 0 rfl _ _ HLA.out Tryz.underlying73 rfl HAI.out ?_) | fail)
  rw [← hW0]
  clear hW0 HLA
  have hc := HF.out W0 (HR.out.below stays_cs HMF.out.b) HRT.out HD.out
  rw [← HACE.out] at hc
  refine hc.mono ?_
  clear hc
  rintro e w5 hg
  cases fo with
  | none =>
    obtain ⟨rfl, hb5⟩ := hg
    exact ⟨rfl, rfl, HMF.out.b.trans (hb5.mono HMF.out.b.size)⟩
  | some x =>
    have HX := Lib.hid (HFI.out x rfl)
    have HXG := Lib.hid (HRT.out.gd HX.out.1)
    unfold GivesL at hg
    simp only at hg
    cases hat : atQ x o.seq with
    | none =>
      rw [hat] at hg
      obtain ⟨rfl, hb5⟩ := hg
      refine ⟨rfl, ?_⟩
      show GivesRes w (nackR s x o) _ _
      rw [show nackR s x o = Res.no 30 from by unfold nackR leasedR; rw [hat]]
      exact ⟨rfl, HMF.out.b.trans (hb5.mono HMF.out.b.size)⟩
    | some i =>
      rw [hat] at hg
      simp only at hg
      obtain ⟨m, hm, hms⟩ := at_some hat
      rw [hm] at hg
      simp only at hg
      by_cases ht : m.til = 0
      · rw [if_pos ht] at hg
        obtain ⟨rfl, hb5⟩ := hg
        refine ⟨rfl, ?_⟩
        show GivesRes w (nackR s x o) _ _
        rw [show nackR s x o = Res.no 1 from by unfold nackR leasedR; rw [hat]; simp only [hm]; unfold need; simp [ht]]
        exact ⟨rfl, HMF.out.b.trans (hb5.mono HMF.out.b.size)⟩
      rw [if_neg ht] at hg
      obtain ⟨av, qv, rfl, hoa, hoq, hb5⟩ := hg
      have hil : i < x.queue.length := (List.getElem?_eq_some_iff.1 hm).1
      have hme : x.queue[i] = m := (List.getElem?_eq_some_iff.1 hm).2
      have htp := til_pos HXG.out HRT.out.c0 HRT.out.c1 (List.mem_of_getElem? hm)
      have HTP := Lib.hid htp
      obtain ⟨E, hE⟩ : ∃ E, E = subC x av qv := ⟨_, rfl⟩
      have HE := Lib.hid (show Cub E by rw [hE]; exact Cub.mk_ x (rl_one (OwnA.ri hoa)) (rl_one (OwnQ.rm hoq)))
      have HEE := Lib.hid hE
      rw [← hE]
      have HM1 := Lib.hid (HMF.out.below (hb5.trans ((box_below w5 E).mono hb5.size)))
      have HOA := Lib.hid (own_below hoa (box_below w5 E))
      have HBX := Lib.hid (box_wh w5 E)
      have HN5 := Lib.hid (show w.heap.size + 3 ≤ w5.heap.size from Nat.le_trans HMF.out.n hb5.size)
      have HNW := Lib.hid HMF.out.n
      obtain ⟨g, cq, hqs, hgb, hgl, hlc, hcm2⟩ := OwnQ.form hoq (by omega)
      subst hqs
      have HOQ := Lib.hid (own_below hoq (box_below w5 E))
      have HGL := Lib.hid (show w.heap.size + 3 ≤ g ∧ g < w5.heap.size from ⟨Nat.le_trans HMF.out.n hgb, hgl⟩)
      have HIL := Lib.hid hil
      have HME := Lib.hid hme
      have HMQ := Lib.hid hm
      have HAT := Lib.hid hat
      have HTN := Lib.hid ht
      have q0 : (0 : Int) ≤ (i : Int) := by omega
      have q1 : (i : Int) < (x.queue.length : Int) := by omega
      clear hE hoa hoq hb5 hgb hgl hme hat ht htp hm
      go_wp2_with (first | (refine wpList_store_row rfl 30 (.tmp 4) (.tmp 9) rfl w5.heap.size E.toArray rfl rfl 30 #[.int .i64 0, .string ⟨#[]⟩, .string ⟨#[]⟩, .string ⟨#[]⟩, .int .i64 0, .int .i64 0, .int .i64 0, .slice none 0 0, .slice none 0 0, .string ⟨#[]⟩] (box_old w5) HE.out.info HE.out.old HE.out.all ?_; rw [box_def]) | fail)
      obtain ⟨V, hV⟩ : ∃ V, V = boxW w5 E := ⟨_, rfl⟩
      rw [← hV] at HM1 HOA HBX HOQ ⊢
      have HVS := Lib.hid (show V.heap.size = w5.heap.size + 1 by rw [hV]; exact box_size w5 E)
      clear hV
      have HC8 := Lib.hid (HBX.out.cv 8 (v := .slice (some ⟨g, 0, none⟩) x.queue.length cq) (by rw [HEE.out]; rfl))
      have HC5 := Lib.hid (HBX.out.cv 5 (v := .int .i64 x.most) (by rw [HEE.out]; rfl))
      have hrg := OwnQ.at_ HOQ.out hil
      rw [HME.out] at hrg
      obtain ⟨M, hM⟩ : ∃ M, M = msgC m := ⟨_, rfl⟩
      rw [← hM] at hrg
      have HRG := Lib.hid hrg
      have HMS := Lib.hid (show (Tryz.prog.info? 45).map (·.size) = some M.length by rw [hM]; exact size45)
      have HMM := Lib.hid hM
      have hGL := HGL.out
      clear hrg hM
      refine wp_region_held_drew (S := fun X => V.grownBy X (some g)) (by kernel_rfl) (grown_of_below (SB.b0 (SB.start V)) _) (fun hHeld => ?_)
      refine tkC 0 ?_
      refine tkA 1 (v := .slice (some ⟨g, 0, none⟩) x.queue.length cq) ?_ ?_
      · intro W hSw; have hq := hSw.cell HC8.out (by simp; omega)
        go_simp; try (with_reducible rfl)
      try simp only [Act.put, zA, zB, zC]
      refine tkC 2 ?_
      refine tkC 3 ?_
      refine tkA 4 (v := .slice (some ⟨g, 0, none⟩) x.queue.length cq) ?_ ?_
      · intro W hSw; have hq := hSw.cell HC8.out (by simp; omega)
        go_simp; try (with_reducible rfl)
      try simp only [Act.put, zA, zB, zC]
      refine tkC 5 ?_
      refine tkA 6 (v := .pointer (some ⟨g, i * 8, none⟩)) ?_ ?_
      · intro W hSw; go_simp; try (with_reducible rfl)
      try simp only [Act.put, zA, zB, zC]
      refine tkC 8 ?_
      refine tkA 9 (v := .int .i64 x.most) ?_ ?_
      · intro W hSw; have hq := hSw.cell HC5.out (by simp; omega)
        go_simp; try (with_reducible rfl)
      try simp only [Act.put, zA, zB, zC]
      refine rdA (rs := [7]) (arC (i := 7) fun K hK => ?_)
      refine step_load_mid rfl 45 (.tmp 17) rfl g (i * 8) M _ rfl HRG.out Tryz.underlying45 rfl HMS.out ?_
      refine hK.out _ _ ?_ (fun _ => ?_)
      · exact hHeld
      clear hK K
      try simp only [Act.put, zA, zB, zC]
      refine rdA (rs := [10]) (arC (i := 10) fun K hK => ?_)
      go_simp
      have hc := back_any m x.most byNack V.drew
      rw [← HMM.out] at hc
      refine hc.mono ?_
      clear hc
      rintro e w6 ⟨rfl, hb6⟩
      try (go_wp2_with fail)
      have hHeld' := grown_below hHeld hb6
      refine hK.out _ _ ?_ (fun _ => ?_)
      · exact hHeld'
      clear hK K hHeld
      have hHeld := hHeld'
      clear hHeld'
      try simp only [Act.put, zA, zB, zC]
      refine tkA 11 (v := .pointer (some ⟨g, i * 8, none⟩)) ?_ ?_
      · intro W hSw; go_simp; try (with_reducible rfl)
      try simp only [Act.put, zA, zB, zC]
      have hbd := (SB.b0 (SB.start V)).trans hb6
      have hoq6 := own_below HOQ.out hbd
      obtain ⟨hoq7, hgr7⟩ := OwnQ.set_ hoq6 HIL.out (backP x.most byNack m)
      have hth := OwnQ.there hoq6 HIL.out
      obtain ⟨N, hN⟩ : ∃ N, N = msgC (backP x.most byNack m) := ⟨_, rfl⟩
      rw [← hN] at hoq7 hgr7
      have hns : N.length = 8 := by rw [hN]; rfl
      rw [← hN]
      refine rdA (rs := [12]) (arC (i := 12) fun K hK => ?_)
      refine step_store_mid rfl 45 (.tmp 22) (.tmp 21) rfl g (i * 8) N.toArray rfl rfl (by simp only [List.size_toArray, hns]; exact hth) (by simp only [List.size_toArray, hns]; exact size45) (by rw [hN]; exact msg_all _) ?_
      refine hK.out _ _ ?_ (fun _ => ?_)
      · exact grown_more hHeld hgr7
      clear hK K
      try simp only [Act.put, zA, zB, zC]
      refine wpAnyH_done (by kernel_rfl) ?_ _
      obtain ⟨W7, hW7⟩ : ∃ W7, W7 = w6.setCells g (i * 8) N.toArray.toList := ⟨_, rfl⟩
      have hgv := grown_more hHeld hgr7
      have hoa7 : OwnA (w6.setCells g (i * 8) N) W0.heap.size av x.acks := (own_below HOA.out hbd).kept hgr7 (own_ne_own HOA.out HOQ.out (by decide))
      have hm7 := HM1.out.grown hgv hGL.1
      have hb7 := HBX.out.kept hgv (by simp; omega)
      try simp only [List.toList_toArray] at hW7
      rw [← hW7] at hgv hoa7 hm7 hb7 hoq7
      have HM7 := Lib.hid hm7
      have HOA7 := Lib.hid hoa7
      have HOQ7 := Lib.hid hoq7
      have HB7 := Lib.hid hb7.range
      have hsl : (x.queue.set i (backP x.most byNack m)).length = x.queue.length := List.length_set
      try simp only [List.toList_toArray]
      rw [← hW7]
      have HEE2 := Lib.hid (show E = subC { x with queue := x.queue.set i (backP x.most byNack m) } av (.slice (some ⟨g, 0, none⟩) x.queue.length cq) by rw [HEE.out]; rfl)
      have HP7 := Lib.hid (HPT.out _ hm7.a)
      clear hW7 hm7 hoa7 hoq7 hb7 hgr7 hth hoq6 hbd hHeld hb6 hgv hN hns
      go_wp2_with (first | (refine wpList_load_midG (by rfl) 25 (.tmp 23) rfl w.heap.size 0 rfl _ _ HP7.out Tryz.underlying25 rfl size24 ?_) | (refine wpList_load_midG (by rfl) 30 (.tmp 4) rfl w5.heap.size 0 rfl _ _ HB7.out Tryz.underlying30 rfl HE.out.infoL ?_) | fail)
      have hc := putP_any s.clock s.next s.last (.slice A s.subs.length ca) s.subs { x with queue := x.queue.set i (backP x.most byNack m) } av (.slice (some ⟨g, 0, none⟩) x.queue.length cq) W7 (HR.out.below stays_cs HM7.out.b) HZ.out (by have := HL.out; omega) (OwnA.ri HOA7.out) (OwnQ.rm HOQ7.out) (Sized.few (by have := HXG.out.al; show x.acks.length ≤ 1000000; omega) (by show (x.queue.set i _).length ≤ 1000000; rw [hsl]; have := HXG.out.pd.ql; omega))
      rw [← HEE2.out] at hc
      refine hc.mono ?_
      clear hc
      rintro e w8 ⟨u, rfl, hon, hb8⟩
      have hmf := HM7.out.below hb8
      have hn := HM7.out.n
      have HRES := Lib.hid (show nackR s x o = Res.yes (putSt s { x with queue := x.queue.set i (backP x.most byNack m) }) ⟨0, 0, []⟩ by
        unfold nackR leasedR
        rw [HAT.out]
        simp only [HMQ.out]
        unfold need
        rw [if_pos (by simpa using HTN.out), backP_eq HTP.out.2.1])
      clear HP7 HB7
      have HS9 := Lib.hid hmf.s
      have HR9 := Lib.hid (hmf.r.setOther (k := w.heap.size + 1) (by omega) (stC (s.clock) (s.next) (s.last) u).toArray)
      have HSA9 := Lib.hid (st_all (s.clock) (s.next) (s.last) (rl_one hon.rs))
      go_wp2_with (first | (refine wpList_store_row rfl 25 (.tmp 2) (.tmp 26) rfl (w.heap.size + 1) (stC (s.clock) (s.next) (s.last) u).toArray rfl rfl 25 zT.toArray HS9.out size24 rfl HSA9.out ?_) | (refine wpList_store_row rfl 37 (.tmp 3) (.tmp 27) rfl (w.heap.size + 2) (rpC ⟨0, 0, []⟩ (.slice none 0 0)).toArray rfl rfl 37 zR.toArray HR9.out sizeR rfl (rp_all ⟨0, 0, []⟩ rfl) ?_) | fail)
      refine bodyPost_ret (m_res hmf rfl rfl rfl) rfl ?_
      show GivesRes w (nackR s x o) _ _
      rw [HRES.out]
      exact m_gives (t := ⟨s.clock, s.next, s.last, _⟩) (rp := ⟨0, 0, []⟩) hmf hon (by omega) (RLt.nil_ _ _ _ _ (by decide))
end Go.Proofs.YtodckdkbheapfaaGreat
set_option linter.unusedVariables false
set_option linter.unusedSimpArgs false
namespace Go.Proofs.YtodckdkbheapfaaGreat
open Go.RowKit Go.Rst Go.Tp Go.Ts Go.Md
set_option maxRecDepth 100000 in
set_option maxHeartbeats 8000000 in
theorem dead_p (s : St) (v : Value) (o : Md.Op) (dv : Value) (w : World) (h : RS w v s.subs) (hr : Rt s) (ho : OpOk o) (hd : dv.oneCell' = true) :
    Calls Tryz.prog 52 #[.agg (askC s v o dv).toArray] w (GivesRes w (withX s o fun x => deadR s x)) := by
  obtain ⟨A, ca, rfl, hca, hcm⟩ := h.shape
  obtain ⟨AC, hAC⟩ : ∃ AC, AC = askC s (.slice A s.subs.length ca) o dv := ⟨_, rfl⟩
  have HACE := Lib.hid hAC
  have HAI := Lib.hid (show (Tryz.prog.info? 73).map (·.size) = some AC.length by rw [hAC]; exact sizeA)
  have HPT := Lib.hid (fun W (h : Wh W w.heap.size AC 73) => ask_part (s := s) (v := .slice A s.subs.length ca) (o := o) (dv := dv) (by rw [← hAC]; exact h))
  have HR := Lib.hid h
  have HRT := Lib.hid hr
  have HOK := Lib.hid ho
  have HD := Lib.hid hd
  have HZ := Lib.hid hr.sized
  have HL := Lib.hid hr.len
  have HMF := Lib.hid (MF.start w AC)
  have HCV0 := Lib.hid (fun (W : World) (h : Wh W w.heap.size AC 73) => h.cv 0 (v := .int .i64 s.clock) (by rw [hAC]; rfl))
  have HCV1 := Lib.hid (fun (W : World) (h : Wh W w.heap.size AC 73) => h.cv 1 (v := .int .i64 s.next) (by rw [hAC]; rfl))
  have HCV2 := Lib.hid (fun (W : World) (h : Wh W w.heap.size AC 73) => h.cv 2 (v := .int .i64 s.last) (by rw [hAC]; rfl))
  have HCV3 := Lib.hid (fun (W : World) (h : Wh W w.heap.size AC 73) => h.cv 3 (v := .slice A s.subs.length ca) (by rw [hAC]; rfl))
  have HCV4 := Lib.hid (fun (W : World) (h : Wh W w.heap.size AC 73) => h.cv 4 (v := .int .i64 o.kind) (by rw [hAC]; rfl))
  have HCV5 := Lib.hid (fun (W : World) (h : Wh W w.heap.size AC 73) => h.cv 5 (v := .int .i64 o.sub) (by rw [hAC]; rfl))
  have HCV6 := Lib.hid (fun (W : World) (h : Wh W w.heap.size AC 73) => h.cv 6 (v := .int .i64 o.n) (by rw [hAC]; rfl))
  have HCV7 := Lib.hid (fun (W : World) (h : Wh W w.heap.size AC 73) => h.cv 7 (v := .int .i64 o.seq) (by rw [hAC]; rfl))
  have HCV8 := Lib.hid (fun (W : World) (h : Wh W w.heap.size AC 73) => h.cv 8 (v := sv o.name) (by rw [hAC]; rfl))
  have HCV9 := Lib.hid (fun (W : World) (h : Wh W w.heap.size AC 73) => h.cv 9 (v := sv o.topic) (by rw [hAC]; rfl))
  have HCV10 := Lib.hid (fun (W : World) (h : Wh W w.heap.size AC 73) => h.cv 10 (v := sv o.want) (by rw [hAC]; rfl))
  have HCV11 := Lib.hid (fun (W : World) (h : Wh W w.heap.size AC 73) => h.cv 11 (v := sv o.body) (by rw [hAC]; rfl))
  have HCV12 := Lib.hid (fun (W : World) (h : Wh W w.heap.size AC 73) => h.cv 12 (v := sv o.attr) (by rw [hAC]; rfl))
  have HCV13 := Lib.hid (fun (W : World) (h : Wh W w.heap.size AC 73) => h.cv 13 (v := dv) (by rw [hAC]; rfl))
  obtain ⟨W0, hW0⟩ : ∃ W0, W0 = A3 w AC := ⟨_, rfl⟩
  rw [← hW0] at HMF
  rw [← hAC]
  unfold A3 at hW0
  unfold maxLen at hcm
  clear h hr ho hd hAC
  have hla := HMF.out.a.range
  rw [hW0] at hla
  have HLA := Lib.hid hla
  clear hla
  have hF := sub_p s (.slice A s.subs.length ca) o dv
  have hfi := fun x (h : findS s.subs o.sub = some x) => find_some' h
  have HWX := Lib.hid (show withX s o (fun x => deadR s x) = (match findS s.subs o.sub with | none => Res.no 30 | some x => (fun x => deadR s x) x) from rfl)
  rw [HWX.out]
  generalize findS s.subs o.sub = fo at hF hfi ⊢
  have HF := Lib.hid hF
  have HFI := Lib.hid hfi
  clear hF hfi HWX
  go_enter Tryz.func52, Tryz.ntmps52
  go_wp2_with (first | (refine wpList_load_midG (by rfl) 73 (.tmp 1) rfl w.heap.size 0 rfl _ _ HLA.out Tryz.underlying73 rfl HAI.out ?_) | fail)
  rw [← hW0]
  clear hW0 HLA
  have hc := HF.out _ (HR.out.below stays_cs HMF.out.b) HZ.out HD.out
  rw [← HACE.out] at hc
  refine hc.mono ?_
  clear hc
  rintro e w5 hg
  cases fo with
  | none =>
    obtain ⟨rfl, hb5⟩ := hg
    exact ⟨rfl, rfl, HMF.out.b.trans (hb5.mono HMF.out.b.size)⟩
  | some x =>
    obtain ⟨av, qv, rfl, hoa, hoq, hb5⟩ := hg
    have HX := Lib.hid (HFI.out x rfl)
    have HXG := Lib.hid (HRT.out.gd HX.out.1)
    have hfq := fun W => field_q x av qv W
    obtain ⟨E, hE⟩ : ∃ E, E = subC x av qv := ⟨_, rfl⟩
    rw [← hE] at hfq ⊢
    clear hE
    have HM5 := Lib.hid (HMF.out.below hb5)
    have HN5 := Lib.hid (show w.heap.size + 3 ≤ w5.heap.size from Nat.le_trans HMF.out.n hb5.size)
    have HNW := Lib.hid HMF.out.n
    have HDL := Lib.hid (del_msgs qv x.queue W0.heap.size (fun _ => True) 82 #[] (fun m => !m.dead) w5 hoq trivial (fun _ _ _ _ _ => trivial) dead1_ent dead1_pred (by have := HXG.out.pd.ql; omega))
    have HQL := Lib.hid (fun k h => Nat.le_trans HMF.out.n (hoq.lt k h).1)
    have HFE := Lib.hid (show x.queue.filter (fun m => !!m.dead) = deadL x by unfold deadL; congr 1; funext m; simp)
    clear hoa hoq hb5
    go_wp2_with fail
    refine HDL.out.mono ?_
    rintro e w6 ⟨lv, rfl, hol, hgr6, _⟩
    rw [HFE.out] at hol
    obtain ⟨A6, c6, rfl, _⟩ := own_shape hol
    have HM6 := Lib.hid (HM5.out.grownO hgr6 HQL.out)
    have HRL := Lib.hid (rlt_msgs hol)
    have HP6 := Lib.hid (HPT.out _ HM6.out.a)
    clear hol hgr6
    go_wp2_with (first | (refine wpList_load_midG (by rfl) 25 (.tmp 9) rfl w.heap.size 0 rfl _ _ HP6.out Tryz.underlying25 rfl size24 ?_) | fail)
    refine (ownS_any s (.slice A s.subs.length ca) _ (HR.out.below stays_cs HM6.out.b) HZ.out (by have := HL.out; omega)).mono ?_
    rintro e w7 ⟨u, zs, rfl, hzm, hot, hoz, hb7⟩
    have hmf := HM6.out.below hb7
    have hon := own_on hot hoz
    rw [hzm] at hon
    have hlv := HRL.out.below fixed_cm hb7
    have hn := HM6.out.n
    have HRES := Lib.hid (show deadR s x = Res.yes s ⟨0, ((deadL x).length : Nat), deadL x⟩ from rfl)
    have HS9 := Lib.hid hmf.s
    have HR9 := Lib.hid (hmf.r.setOther (k := w.heap.size + 1) (by omega) (stC (s.clock) (s.next) (s.last) u).toArray)
    have HSA9 := Lib.hid (st_all (s.clock) (s.next) (s.last) (rl_one hon.rs))
    go_wp2_with (first | (refine wpList_store_row rfl 25 (.tmp 2) (.tmp 11) rfl (w.heap.size + 1) (stC (s.clock) (s.next) (s.last) u).toArray rfl rfl 25 zT.toArray HS9.out size24 rfl HSA9.out ?_) | (refine wpList_store_row rfl 37 (.tmp 3) (.tmp 15) rfl (w.heap.size + 2) (rpC ⟨0, ((deadL x).length : Nat), deadL x⟩ (.slice A6 (deadL x).length c6)).toArray rfl rfl 37 zR.toArray HR9.out sizeR rfl (rp_all ⟨0, ((deadL x).length : Nat), deadL x⟩ rfl) ?_) | fail)
    refine bodyPost_ret (m_res hmf rfl rfl rfl) rfl ?_
    show GivesRes w (deadR s x) _ _
    rw [HRES.out]
    exact m_gives (t := ⟨s.clock, s.next, s.last, _⟩) (rp := ⟨0, ((deadL x).length : Nat), deadL x⟩) hmf hon (by omega) hlv
end Go.Proofs.YtodckdkbheapfaaGreat
set_option linter.unusedVariables false
set_option linter.unusedSimpArgs false
namespace Go.Proofs.YtodckdkbheapfaaGreat
open Go.RowKit Go.Rst Go.Tp Go.Ts Go.Md Go.Lib
theorem flat_one (q : List Msg) : ∀ u ∈ (q.map msgC).flatten, u.oneCell' = true := fun u hu => by
  obtain ⟨cs, hcs, hu⟩ := List.mem_flatten.1 hu
  obtain ⟨m, _, rfl⟩ := List.mem_map.1 hcs
  exact msg_one m u hu
theorem flat_drop (q : List Msg) (i : Nat) : (q.map msgC).flatten.drop (i * 8) = ((q.drop i).map msgC).flatten := by
  have h1 : (q.map msgC).flatten = ((q.take i).map msgC).flatten ++ ((q.drop i).map msgC).flatten := by
    rw [← List.flatten_append, ← List.map_append, List.take_append_drop]
  by_cases hi : i ≤ q.length
  · rw [h1, List.drop_append_of_le_length (by rw [flat_len, List.length_take]; omega), List.drop_of_length_le (by rw [flat_len, List.length_take]; omega), List.nil_append]
  · rw [List.drop_of_length_le (by rw [flat_len]; omega), List.drop_of_length_le (by omega)]
    rfl
abbrev zMc : Array Value := #[.int .i64 0, .string .empty, .string .empty, .int .i64 0, .int .i64 0, .bool false, .string .empty, .int .i64 0]
set_option maxRecDepth 100000 in
set_option maxHeartbeats 4000000 in
theorem delete_msg (base at_ : Nat) (v : Value) (us : List Msg) (w : World) (hown : OwnQ w base v us) (hat : at_ < us.length) :
    Calls Tryz.prog 77 #[v, .int .i64 at_, .int .i64 ((at_ : Int) + 1)] w fun e w' => ∃ v', e = .returned v' ∧ OwnQ w' base v' (us.take at_ ++ us.drop (at_ + 1)) ∧ w.grownBy w' v.ownBlock := by
  have hown0 := hown
  rcases hown.2 with ⟨_, h0⟩ | ⟨g, cap, cur, rfl, hbg, hg, hnc, hcm, hcs, htk⟩
  · omega
  have hcell : ∀ i, i < us.length * 8 → w.cell? ⟨g, i, none⟩ = ((us.map msgC).flatten)[i]? := fun i hi => by
    rw [cell_of_row _ g i cur 45 (0, 0) hg, ← htk, List.getElem?_take, if_pos hi, Array.getElem?_toList]
  have hsome : ∀ i, i < cap * 8 → (w.cell? ⟨g, i, none⟩).isSome = true := fun i hi => by
    rw [cell_of_row _ g i cur 45 (0, 0) hg, Array.getElem?_eq_getElem (by omega)]; rfl
  have hfz : ∀ i, w.frozen? ⟨g, i, none⟩ = false := fun i => by simp [World.frozen?, hg]
  obtain ⟨i0, hi0, hz0, hz1, hz2⟩ := info_parts infoMsg
  obtain ⟨n, hn⟩ : ∃ n, n = us.length := ⟨_, rfl⟩
  obtain ⟨j, hj⟩ : ∃ j, j = at_ + 1 := ⟨_, rfl⟩
  have hji : (at_ : Int) + 1 = (j : Int) := by omega
  obtain ⟨news, hnews⟩ : ∃ news, news = ((us.map msgC).flatten).drop (j * 8) := ⟨_, rfl⟩
  have hrl := flat_len us
  have hlen : news.length = (n - j) * 8 := by rw [hnews, List.length_drop, hrl, ← hn]; omega
  have hone := flat_one us
  obtain ⟨A, hA, hsrc⟩ : ∃ A : Addr, (if cap = j then (some (⟨g, 0, none⟩ : Addr)) else some ⟨g, j * 8, none⟩) = some A ∧ Hid (∀ t u, news[t]? = some u → w.drew.cell? (A.add t) = some u) := by
    by_cases h : cap = j
    · refine ⟨⟨g, 0, none⟩, by simp [h], Lib.hid fun t u hu => ?_⟩
      have h0 : news.length = 0 := by rw [hlen]; omega
      rw [List.length_eq_zero_iff.1 h0] at hu
      simp at hu
    · refine ⟨⟨g, j * 8, none⟩, by simp [h], Lib.hid fun t u hu => ?_⟩
      have ht : t < (n - j) * 8 := by
        have := (List.getElem?_eq_some_iff.1 hu).1
        rwa [hlen] at this
      rw [hnews, List.getElem?_drop] at hu
      rw [Addr.add_lit]
      exact (hcell (j * 8 + t) (by omega)).trans hu
  have s1 : Hid (news.length = (n - j) * 8) := Lib.hid hlen
  have s2 : Hid (∀ u ∈ news, u.oneCell' = true) := Lib.hid (fun u hu => hone u (by rw [hnews] at hu; exact List.mem_of_mem_drop hu))
  have s3 : Hid (∀ t, t < news.length → (w.drew.cell? ⟨g, 0 + at_ * 8 + t, none⟩).isSome = true ∧ w.drew.frozen? ⟨g, 0 + at_ * 8 + t, none⟩ = false) := Lib.hid (by
    intro t ht
    rw [hlen] at ht
    exact ⟨hsome _ (by omega), hfz _⟩)
  obtain ⟨W1, hW1⟩ : ∃ W1, W1 = w.drew.setCells g (0 + at_ * 8) news := ⟨_, rfl⟩
  have hrow1 : W1.heap[g]? = some (.cells (splice cur.toList (0 + at_ * 8) news).toArray 45 (0, 0)) := by
    rw [hW1, setCells_row (w := w.drew) (vs := news) (cur := cur) (o := 0 + at_ * 8) hg (by rw [hlen]; omega) s2.out]
    exact setRow_heap _ _ _ _ _ _ (show w.drew.heap[g]? = some (.cells cur 45 (0, 0)) from hg)
  have hsl : (splice cur.toList (0 + at_ * 8) news).length = cap * 8 := by
    have hcl0 := Array.length_toList (xs := cur)
    rw [splice_len (L := cur.toList) (vs := news) (o := 0 + at_ * 8) (by omega)]
    omega
  have hfar1 : ∀ k, k ≠ g → W1.heap[k]? = w.heap[k]? := fun k hk => by
    rw [hW1, setCells_row (w := w.drew) (vs := news) (cur := cur) (o := 0 + at_ * 8) hg (by rw [hlen]; omega) s2.out]
    exact setRow_other _ _ _ _ hk
  have hsz1 : W1.heap.size = w.heap.size := by
    rw [hW1, setCells_row (w := w.drew) (vs := news) (cur := cur) (o := 0 + at_ * 8) hg (by rw [hlen]; omega) s2.out]
    simp [World.setRow]
  have hbel1 : Below base w W1 := by
    rw [hW1, setCells_row (w := w.drew) (vs := news) (cur := cur) (o := 0 + at_ * 8) hg (by rw [hlen]; omega) s2.out]
    exact below_setRow (Below.refl base w).drew hbg _
  have hcl : ∀ ty, (Builtin.clear_ #[28] ty #[.slice (some ⟨g, (n - 1) * 8, none⟩) 1 (cap - (n - 1))]).run Tryz.prog W1 = .ok (.tuple #[]) (W1.setCells g ((n - 1) * 8) (Builtin.zeroCells zMc 1).toList) := fun ty =>
    run_clearS W1 _ 45 ty (.agg zMc) Tryz.underlying28 zero45 (by simp [Value.cells, Value.oneCell']) g ((n - 1) * 8) 1 _ (by omega)
      (fun t ht => by simp only [Value.cells, List.size_toArray, List.length_cons, List.length_nil] at ht; rw [cell_of_row _ g _ _ 45 (0, 0) hrow1, List.getElem?_toArray, List.getElem?_eq_getElem (by omega)]; rfl)
      (fun t _ => by simp [World.frozen?, hrow1])
  have HW := Lib.hid hW1
  have HR1 := Lib.hid hrow1
  have HFAR := Lib.hid hfar1
  have HBEL := Lib.hid hbel1
  have HSZ := Lib.hid hsz1
  have HTK := Lib.hid htk
  have HNW := Lib.hid hnews
  have q1 : at_ ≤ cap := by omega
  have q2 : j ≤ cap := by omega
  have q3 : j ≤ n := by omega
  have q4 : at_ < n := by omega
  have q5 : ((at_ : Int) == (j : Int)) = false := by rw [beq_eq_false_iff_ne]; omega
  have q6 : ¬ (at_ : Int) = (j : Int) := by omega
  have q7 : at_ + (n - j) = n - 1 := by omega
  have q8 : ¬ cap = n - 1 := by omega
  have q9 : n - (n - 1) = 1 := by omega
  have q10 : (cap : Int) ≤ 9223372036854775807 := by unfold maxLen at hcm; omega
  have q11 : n ≤ cap := by omega
  have q12 : n - 1 ≤ n := by omega
  rw [hji]
  rw [← hn]
  have HN := Lib.hid hn
  have HJ := Lib.hid hj
  have q13 : ¬ n = at_ := by omega
  have q14 : ¬ cap = at_ := by omega
  have q15 : at_ ≤ j := by omega
  clear hW1 hrow1 hfar1 hbel1 hsz1 hnews hn hj hji hown hown0 htk hsome hcell hfz hlen hrl hat hone hnc hcm
  have mixed : Tryz.prog.follows .mixedOrders = true := by kernel_rfl
  go_enter Tryz.func77, Tryz.ntmps77
  go_wp2_with fail
  go_region_law_o (refine step_append_room rfl (.tmp 22) (.tmp 25) 28 rfl 45 i0 8 Tryz.underlying28 hi0 hz1 g 0 at_ cap (by simp [Act.eval, Act.put]) A (n - j) (cap - j) news (by simp [Act.eval, Act.put]) s1.out hsrc.out s2.out (by omega) s3.out ?_; rw [← HW.out])
  go_wp2
  go_ret
  have hz : (Builtin.zeroCells zMc 1).toList.length = 8 := zero_len _ _
  have hcl0 := Array.length_toList (xs := cur)
  have hj := HJ.out
  have hrw := setCells_row (w := W1) (vs := (Builtin.zeroCells zMc 1).toList) (o := (n - 1) * 8) HR1.out (by rw [hz, List.size_toArray]; omega) (zero_one (by simp [Value.oneCell']))
  rw [hrw]
  have hg2 := setRow_heap W1 g _ (splice (splice cur.toList (0 + at_ * 8) news).toArray.toList ((n - 1) * 8) (Builtin.zeroCells zMc 1).toList).toArray 45 (0, 0) HR1.out
  have hfar2 : ∀ k, k ≠ g → (W1.setRow g (splice (splice cur.toList (0 + at_ * 8) news).toArray.toList ((n - 1) * 8) (Builtin.zeroCells zMc 1).toList).toArray).heap[k]? = w.heap[k]? := fun k hk => (setRow_other _ _ _ _ hk).trans (HFAR.out k hk)
  have hbel2 := below_setRow HBEL.out hbg (splice (splice cur.toList (0 + at_ * 8) news).toArray.toList ((n - 1) * 8) (Builtin.zeroCells zMc 1).toList).toArray
  have hul : n - 1 = (us.take at_ ++ us.drop (at_ + 1)).length := by have := HN.out; rw [List.length_append, List.length_take, List.length_drop]; omega
  have htk2 : (splice (splice cur.toList (0 + at_ * 8) news).toArray.toList ((n - 1) * 8) (Builtin.zeroCells zMc 1).toList).toArray.toList.take ((n - 1) * 8) = ((us.take at_ ++ us.drop (at_ + 1)).map msgC).flatten := by
    have hs1 := s1.out
    have h1 : (splice cur.toList (0 + at_ * 8) news).take ((n - 1) * 8) = cur.toList.take (at_ * 8) ++ news := by
      have := take_splice1 (L := cur.toList) (vs := news) (o := 0 + at_ * 8) (by omega)
      rw [show 0 + at_ * 8 + news.length = (n - 1) * 8 by omega] at this
      rw [this, Nat.zero_add]
    have h2 : cur.toList.take (at_ * 8) = ((us.map msgC).flatten).take (at_ * 8) := by
      rw [← HTK.out, List.take_take, Nat.min_eq_left (by have := HN.out; omega)]
    simp only
    have h3 : (splice (splice cur.toList (0 + at_ * 8) news) ((n - 1) * 8) (Builtin.zeroCells zMc 1).toList).take ((n - 1) * 8) = (splice cur.toList (0 + at_ * 8) news).take ((n - 1) * 8) := by
      exact take_splice0 (by omega)
    rw [h3, h1, h2, HNW.out, flat_take, flat_drop, ← List.flatten_append, ← List.map_append, hj]
  have hsl2 := splice_len (L := (splice cur.toList (0 + at_ * 8) news).toArray.toList) (vs := (Builtin.zeroCells zMc 1).toList) (o := (n - 1) * 8) (by rw [hz]; simp only; omega)
  refine ⟨_, rfl, ?_, ⟨hbel2.os, hbel2.tape, hbel2.output, by have := HSZ.out; simp [World.setRow]; omega, fun k _ hk => hfar2 k (fun e => hk (by rw [e]; rfl))⟩⟩
  show World.ownsRow _ _ _ _ _ (us.take at_ ++ us.drop (at_ + 1)).length _
  rw [← hul]
  refine ⟨by rw [flat_len, ← hul], .inr ⟨g, cap, _, rfl, hbg, hg2, by omega, by unfold maxLen; omega, ?_, htk2⟩⟩
  rw [List.size_toArray, hsl2]
  simp only
  exact hsl
end Go.Proofs.YtodckdkbheapfaaGreat
set_option linter.unusedVariables false
set_option linter.unusedSimpArgs false
namespace Go.Proofs.YtodckdkbheapfaaGreat
open Go.RowKit Go.Rst Go.Tp Go.Ts Go.Md
theorem own_setm {K : Nat} {w : World} {u : Value} {zs : List Tri} (ht : OwnT w K u zs) (hz : OwnZ K w zs) {i : Nat} (hi : i < zs.length) {g c : Nat} (hq : zs[i].2.2 = .slice (some ⟨g, 0, none⟩) zs[i].1.queue.length c) {k : Nat} (hk : k < zs[i].1.queue.length) (m : Msg) :
    OwnT (w.setCells g (k * 8) (msgC m)) K u (zs.set i ({ zs[i].1 with queue := zs[i].1.queue.set k m }, zs[i].2)) ∧ OwnZ K (w.setCells g (k * 8) (msgC m)) (zs.set i ({ zs[i].1 with queue := zs[i].1.queue.set k m }, zs[i].2)) ∧ w.grownBy (w.setCells g (k * 8) (msgC m)) (some g) := by
  have hoq := (hz.1 _ (List.getElem_mem hi)).2
  rw [hq] at hoq
  obtain ⟨h1, h2⟩ := OwnQ.set_ hoq hk m
  have hgk := own_kind hoq
  obtain ⟨cur, hcur⟩ := hgk
  have hw : Wh w g cur.toList 45 := by unfold Wh; rw [hcur, Array.toArray_toList]
  refine ⟨?_, ⟨fun z hzm => ?_, ?_⟩, h2⟩
  · have h3 := ht.kept h2 (.inr (own_ne_wh ht hw (by decide)))
    have h4 : ((zs.set i ({ zs[i].1 with queue := zs[i].1.queue.set k m }, zs[i].2)).map tC) = zs.map tC := by
      refine List.ext_getElem (by simp) fun j a b => ?_
      simp only [List.getElem_map, List.getElem_set]
      split
      · rename_i e; subst e; rfl
      · rfl
    show World.ownsRow _ _ _ _ _ (zs.set i _).length _
    rw [h4, List.length_set]
    exact h3
  · obtain ⟨j, hj, rfl⟩ := List.getElem_of_mem hzm
    rw [List.length_set] at hj
    rw [List.getElem_set]
    split
    · rename_i e
      subst e
      refine ⟨(hz.1 _ (List.getElem_mem hi)).1.kept h2 (.inr (own_ne_wh (hz.1 _ (List.getElem_mem hi)).1 hw (by decide))), ?_⟩
      show OwnQ _ _ zs[i].2.2 _
      rw [hq]
      exact h1
    · rename_i e
      have hzj := hz.1 _ (List.getElem_mem hj)
      refine ⟨hzj.1.kept h2 (.inr (own_ne_wh hzj.1 hw (by decide))), hzj.2.kept h2 ?_⟩
      have hp := List.pairwise_iff_getElem.1 hz.2
      have hbi : zs[i].2.2.ownBlock = some g := by rw [hq]; rfl
      rcases Nat.lt_or_gt_of_ne e with hl | hl
      · rcases hp i j hi hj hl with h6 | h6
        · exact .inl h6
        · exact .inr (by rw [hbi] at h6; exact h6)
      · rcases hp j i hj hi hl with h6 | h6
        · rw [hbi] at h6; cases h6
        · refine .inr (fun h7 => h6 ?_)
          rw [hbi, h7]
  · rw [List.pairwise_iff_getElem]
    intro a b ha hb hab
    rw [List.length_set] at ha hb
    have hp := List.pairwise_iff_getElem.1 hz.2 a b ha hb hab
    have e2 : ∀ c (hc : c < zs.length), ((zs.set i ({ zs[i].1 with queue := zs[i].1.queue.set k m }, zs[i].2))[c]'(by rw [List.length_set]; exact hc)).2.2 = zs[c].2.2 := fun c hc => by
      rw [List.getElem_set]
      split
      · rename_i e; subst e; rfl
      · rfl
    rw [e2 a ha, e2 b hb]
    exact hp
def InR (ct : Int) (subs : List Sub) (i : Nat) (z2 : Value × Value) (w Wo : World) (AC T2 E : List Value) (K g n ku ml bb : Nat) (kv : Value) (wr2 : World) : Prop := ∃ (k : Nat) (zs2 : List Tri), k ≤ ml ∧ kv = .int .i64 k ∧ TickI ct subs i k (zs2.map (·.1)) ∧ (zs2.map (·.2))[i]? = some z2 ∧ MF w wr2 AC ∧ OwnT wr2 K (.slice (some ⟨g, 0, none⟩) n ku) zs2 ∧ OwnZ K wr2 zs2 ∧ Wh wr2 bb T2 25 ∧ Wh wr2 Wo.heap.size E 30 ∧ Wo.heap.size ≤ wr2.heap.size
set_option maxRecDepth 100000 in
set_option maxHeartbeats 8000000 in
theorem tick_p (s : St) (v : Value) (o : Md.Op) (dv : Value) (w : World) (h : RS w v s.subs) (hr : Rt s) (ho : OpOk o) (hd : dv.oneCell' = true) :
    Calls Tryz.prog 51 #[.agg (askC s v o dv).toArray] w (GivesRes w (tickR s o)) := by
  obtain ⟨A, ca, rfl, hca, hcm⟩ := h.shape
  obtain ⟨AC, hAC⟩ : ∃ AC, AC = askC s (.slice A s.subs.length ca) o dv := ⟨_, rfl⟩
  have HACE := Lib.hid hAC
  have HAI := Lib.hid (show (Tryz.prog.info? 73).map (·.size) = some AC.length by rw [hAC]; exact sizeA)
  have HPT := Lib.hid (fun W (h : Wh W w.heap.size AC 73) => ask_part (s := s) (v := .slice A s.subs.length ca) (o := o) (dv := dv) (by rw [← hAC]; exact h))
  have HR := Lib.hid h
  have HRT := Lib.hid hr
  have HOK := Lib.hid ho
  have HD := Lib.hid hd
  have HZ := Lib.hid hr.sized
  have HL := Lib.hid hr.len
  have HMF := Lib.hid (MF.start w AC)
  have HCV0 := Lib.hid (fun (W : World) (h : Wh W w.heap.size AC 73) => h.cv 0 (v := .int .i64 s.clock) (by rw [hAC]; rfl))
  have HCV1 := Lib.hid (fun (W : World) (h : Wh W w.heap.size AC 73) => h.cv 1 (v := .int .i64 s.next) (by rw [hAC]; rfl))
  have HCV2 := Lib.hid (fun (W : World) (h : Wh W w.heap.size AC 73) => h.cv 2 (v := .int .i64 s.last) (by rw [hAC]; rfl))
  have HCV3 := Lib.hid (fun (W : World) (h : Wh W w.heap.size AC 73) => h.cv 3 (v := .slice A s.subs.length ca) (by rw [hAC]; rfl))
  have HCV4 := Lib.hid (fun (W : World) (h : Wh W w.heap.size AC 73) => h.cv 4 (v := .int .i64 o.kind) (by rw [hAC]; rfl))
  have HCV5 := Lib.hid (fun (W : World) (h : Wh W w.heap.size AC 73) => h.cv 5 (v := .int .i64 o.sub) (by rw [hAC]; rfl))
  have HCV6 := Lib.hid (fun (W : World) (h : Wh W w.heap.size AC 73) => h.cv 6 (v := .int .i64 o.n) (by rw [hAC]; rfl))
  have HCV7 := Lib.hid (fun (W : World) (h : Wh W w.heap.size AC 73) => h.cv 7 (v := .int .i64 o.seq) (by rw [hAC]; rfl))
  have HCV8 := Lib.hid (fun (W : World) (h : Wh W w.heap.size AC 73) => h.cv 8 (v := sv o.name) (by rw [hAC]; rfl))
  have HCV9 := Lib.hid (fun (W : World) (h : Wh W w.heap.size AC 73) => h.cv 9 (v := sv o.topic) (by rw [hAC]; rfl))
  have HCV10 := Lib.hid (fun (W : World) (h : Wh W w.heap.size AC 73) => h.cv 10 (v := sv o.want) (by rw [hAC]; rfl))
  have HCV11 := Lib.hid (fun (W : World) (h : Wh W w.heap.size AC 73) => h.cv 11 (v := sv o.body) (by rw [hAC]; rfl))
  have HCV12 := Lib.hid (fun (W : World) (h : Wh W w.heap.size AC 73) => h.cv 12 (v := sv o.attr) (by rw [hAC]; rfl))
  have HCV13 := Lib.hid (fun (W : World) (h : Wh W w.heap.size AC 73) => h.cv 13 (v := dv) (by rw [hAC]; rfl))
  obtain ⟨W0, hW0⟩ : ∃ W0, W0 = A3 w AC := ⟨_, rfl⟩
  rw [← hW0] at HMF
  rw [← hAC]
  unfold A3 at hW0
  unfold maxLen at hcm
  clear h hr ho hd hAC
  have k6_ := HCV6.out W0 HMF.out.a
  rw [hW0] at k6_
  go_enter Tryz.func51, Tryz.ntmps51
  go_wp2_with fail
  rw [← hW0]
  clear hW0
  refine (within_any o.n 0 1073741824 _).mono ?_
  rintro e v1 ⟨rfl, rfl⟩
  cases h1 : (decide (0 ≤ o.n) && decide (o.n ≤ 1073741824)) with
  | false =>
    clear k6_
    go_wp2_with fail
    have HRES := Lib.hid (show tickR s o = Res.no 1 by unfold tickR need; simp [h1])
    refine (must_no 1 _).mono ?_
    rintro e w9 ⟨rfl, rfl⟩
    refine ⟨rfl, ?_⟩
    show GivesRes w (tickR s o) _ _
    rw [HRES.out]
    exact ⟨rfl, HMF.out.b⟩
  | true =>
    go_wp2_with fail
    refine (must_yes 1 _).mono ?_
    rintro e w9 ⟨rfl, rfl⟩
    have k6_ := HCV6.out _ HMF.out.a
    have k0_ := HCV0.out _ HMF.out.a
    have hc0 := HRT.out.c0
    have hc1 := HRT.out.c1
    have hon : 0 ≤ o.n ∧ o.n ≤ 1073741824 := by simpa using h1
    have e4 : wrap64 (s.clock + o.n) = s.clock + o.n := by unfold wrap64; omega
    by_cases h2 : s.clock + o.n ≤ 4503599627370496
    case neg =>
      have q1 : decide (s.clock + o.n ≤ 4503599627370496) = false := decide_eq_false h2
      go_wp2_with fail
      have HRES := Lib.hid (show tickR s o = Res.no 32 by unfold tickR need; simp [h1, h2])
      refine (must_no 32 _).mono ?_
      rintro e w9 ⟨rfl, rfl⟩
      refine ⟨rfl, ?_⟩
      show GivesRes w (tickR s o) _ _
      rw [HRES.out]
      exact ⟨rfl, HMF.out.b⟩
    have q1 : s.clock + o.n ≤ 4503599627370496 := h2
    have HRES := Lib.hid (show tickR s o = Res.yes ⟨s.clock + o.n, s.next, s.last, s.subs.map (tickX (s.clock + o.n))⟩ ⟨0, 0, []⟩ by unfold tickR need; simp [h1, h2])
    clear h1 h2
    go_wp2_with fail
    refine (must_yes 32 _).mono ?_
    rintro e w9 ⟨rfl, rfl⟩
    have HP2 := Lib.hid (HPT.out _ HMF.out.a)
    go_wp2_with (first | (refine wpList_load_midG (by rfl) 25 (.tmp 23) rfl w.heap.size 0 rfl _ _ HP2.out Tryz.underlying25 rfl size24 ?_) | fail)
    refine (ownS_any s (.slice A s.subs.length ca) _ (HR.out.below stays_cs HMF.out.b) HZ.out (by have := HL.out; omega)).mono ?_
    rintro e w5 ⟨u, zs, rfl, hzm, hot, hoz, hb5⟩
    clear HP2 k0_ k6_ q1
    obtain ⟨T, hT⟩ : ∃ T, T = stC s.clock s.next s.last u := ⟨_, rfl⟩
    have hu1 := rl_one (own_on hot hoz).rs
    have HT := Lib.hid (show Cut T by rw [hT]; exact Cut.mk_ _ _ _ hu1)
    have HTE := Lib.hid hT
    rw [← hT]
    have hmb := HMF.out.below (hb5.trans ((boxT_below w5 T).mono hb5.size))
    have hbx := boxT_wh w5 T
    have f0 := hbx.frozen 0
    have k0 := hbx.cv 0 (v := .int .i64 s.clock) (by rw [hT]; rfl)
    have k6_ := HCV6.out _ hmb.a
    have hgr := grown_cell (boxT w5 T) w5.heap.size 0 (.int .i64 (s.clock + o.n))
    have hb2 := hbx.set1 0 (.int .i64 (s.clock + o.n))
    have hn5 : w.heap.size + 3 ≤ w5.heap.size := Nat.le_trans HMF.out.n hb5.size
    have HM9 := Lib.hid (hmb.grown hgr hn5)
    have hK : w.heap.size + 3 ≤ w9.heap.size := HMF.out.n
    have hot1 := own_below hot (boxT_below w5 T)
    have HOT := Lib.hid (show OwnT _ w9.heap.size u zs from hot1.kept hgr (.inr (own_ne_wh hot1 hbx (by decide))))
    have HOZ := Lib.hid (show OwnZ w9.heap.size _ zs from (hoz.below (boxT_below w5 T)).kept hgr hbx (by decide) (by decide))
    obtain ⟨T2, hT2⟩ : ∃ T2, T2 = T.set 0 (.int .i64 (s.clock + o.n)) := ⟨_, rfl⟩
    rw [← hT2] at hb2
    have HTE2 := Lib.hid (show T2 = stC (s.clock + o.n) s.next s.last u by rw [hT2, hT]; rfl)
    have HT2 := Lib.hid (show Cut T2 by rw [HTE2.out]; exact Cut.mk_ _ _ _ hu1)
    have HB2 := Lib.hid hb2
    obtain ⟨ct, hct⟩ : ∃ ct, ct = s.clock + o.n := ⟨_, rfl⟩
    have HCT := Lib.hid hct
    have k3 := hb2.cv 3 (v := u) (by rw [HTE2.out]; rfl)
    obtain ⟨Au, ku, hu, hku⟩ : ∃ Au ku, u = .slice Au s.subs.length ku ∧ s.subs.length ≤ ku := by
      obtain ⟨A1, k1, h1, h2⟩ := own_shape hot
      rw [← hzm, List.length_map]
      exact ⟨A1, k1, h1, h2⟩
    have HUU := Lib.hid hu
    rw [hu] at k3
    have HZM := Lib.hid hzm
    have HS5 := Lib.hid hn5
    have HKK := Lib.hid hK
    clear hT2 hT hgr hbx hmb hb5 hot hoz hot1 hu1 hzm hb2 hu
    go_wp2_with (first | (refine wpList_store_row rfl 25 (.tmp 4) (.tmp 25) rfl w5.heap.size T.toArray rfl rfl 25 #[.int .i64 0, .int .i64 0, .int .i64 0, .slice none 0 0] (boxT_old w5) HT.out.info HT.out.old HT.out.all ?_; rw [boxT_def]) | fail)
    go_loopw [36] (fun iv wr => ∃ (i : Nat) (zs : List Tri), i ≤ s.subs.length ∧ iv = .int .i64 i ∧ TickI ct s.subs i 0 (zs.map (·.1)) ∧ MF w wr AC ∧ OwnT wr w9.heap.size (.slice Au s.subs.length ku) zs ∧ OwnZ w9.heap.size wr zs ∧ Wh wr w5.heap.size T2 25) (fun iv _ => s.subs.length - (intOf iv).toNat)
    case atStart =>
      have ho := HOT.out
      rw [HUU.out] at ho
      exact ⟨0, zs, Nat.zero_le _, rfl, by rw [HZM.out]; exact TickI.start _ _, HM9.out, ho, HOZ.out, HB2.out⟩
    case round =>
      clear k3 k6_ f0 k0 HM9 HOT HOZ HB2 HZM hct hon hc0 hc1 e4 hn5 hK hca
      obtain ⟨i, zs, hi, rfl, htk, hmf, hot, hoz, hbt⟩ := hrel
      obtain ⟨Wo, hWo⟩ : ∃ W, W = wr := ⟨_, rfl⟩
      subst hWo
      have HTK := Lib.hid htk
      have HM := Lib.hid hmf
      have HOT := Lib.hid hot
      have HOZ := Lib.hid hoz
      have HBT := Lib.hid hbt
      have hzl : zs.length = s.subs.length := by have := htk.1; rwa [List.length_map] at this
      have HZLN := Lib.hid hzl
      clear htk hmf hot hoz hbt hzl
      have hL20 := HL.out
      by_cases hin : i < s.subs.length
      case neg =>
        have q1 : ¬ ((i : Int) < (s.subs.length : Int)) := by omega
        have hmf := HM.out
        have hen := HTK.out.end_ (by omega)
        have hon1 := own_on HOT.out HOZ.out
        rw [hen, ← HUU.out, HCT.out] at hon1
        have HEN := Lib.hid hen
        have HON := Lib.hid hon1
        have HST := Lib.hid (show Value.agg T2.toArray = .agg (stC (s.clock + o.n) (s.next) (s.last) u).toArray by rw [HTE2.out])
        have HBR := Lib.hid HBT.out.range
        have hK := HKK.out
        clear hen hon1
        have HS9 := Lib.hid HM.out.s
        have HR9 := Lib.hid (HM.out.r.setOther (k := w.heap.size + 1) (by omega) (stC (s.clock + o.n) (s.next) (s.last) u).toArray)
        have HSA9 := Lib.hid (st_all (s.clock + o.n) (s.next) (s.last) (rl_one HON.out.rs))
        go_wp2_with (first | (refine wpList_load_midG (by rfl) 25 (.tmp 4) rfl w5.heap.size 0 rfl _ _ HBR.out Tryz.underlying25 rfl HT2.out.infoL ?_) | (refine wpList_store_row rfl 25 (.tmp 2) (.tmp 68) rfl (w.heap.size + 1) (stC (s.clock + o.n) (s.next) (s.last) u).toArray rfl HST.out 25 zT.toArray HS9.out size24 rfl HSA9.out ?_) | (refine wpList_store_row rfl 37 (.tmp 3) (.tmp 69) rfl (w.heap.size + 2) (rpC ⟨0, 0, []⟩ (.slice none 0 0)).toArray rfl rfl 37 zR.toArray HR9.out sizeR rfl (rp_all ⟨0, 0, []⟩ rfl) ?_) | fail)
        refine bodyPost_ret (m_res HM.out rfl rfl rfl) rfl ?_
        show GivesRes w (tickR s o) _ _
        rw [HRES.out]
        exact m_gives (t := ⟨s.clock + o.n, s.next, s.last, _⟩) (rp := ⟨0, 0, []⟩) HM.out HON.out (by omega) (RLt.nil_ _ _ _ _ (by decide))
      have q1 : (i : Int) < (s.subs.length : Int) := by omega
      have q2 : (0 : Int) ≤ (i : Int) := by omega
      have hiz : i < zs.length := by have := HZLN.out; omega
      have hot := HOT.out
      rw [show (Value.slice Au s.subs.length ku) = .slice Au zs.length ku by rw [HZLN.out]] at hot
      obtain ⟨g, cc, hfm, hgb, hgl, hcl, hcm⟩ := hot.form (by omega)
      injection hfm with e1 _ e3
      subst e1
      subst e3
      have HRG := Lib.hid (hot.at_ hiz)
      obtain ⟨z, hz⟩ : ∃ z, z = zs[i] := ⟨_, rfl⟩
      rw [← hz] at HRG
      obtain ⟨xi, hxi⟩ : ∃ xi, xi = s.subs[i]'hin := ⟨_, rfl⟩
      have hz1 : z.1 = xi := by
        have h1 := HTK.out.at_ hin
        rw [List.getElem_map, partX_zero] at h1
        rw [hz, hxi]
        exact h1
      have HTA := Lib.hid (show ∀ k cur, TickI ct s.subs i k cur → ∀ h : i < cur.length, cur[i]'h = partX ct k xi from fun k cur h hh => by rw [hxi]; exact h.at_ hin)
      have HTN := Lib.hid (show ∀ k cur, TickI ct s.subs i k cur → TickI ct s.subs i (k + 1) (cur.set i (partX ct (k + 1) xi)) from fun k cur h => by rw [hxi]; exact h.next hin)
      have HTS := Lib.hid (show ∀ k cur, TickI ct s.subs i k cur → partX ct (k + 1) xi = partX ct k xi → TickI ct s.subs i (k + 1) cur from fun k cur h e => h.same hin (by rw [hxi] at e; exact e))
      have HTR := Lib.hid (show ∀ k cur, TickI ct s.subs i k cur → xi.queue.length ≤ k → TickI ct s.subs (i + 1) 0 cur from fun k cur h e => h.row hin (by rw [hxi] at e; exact e))
      have HZI := Lib.hid hz
      have HZ1 := Lib.hid hz1
      have hoz := HOZ.out.1 z (by rw [hz]; exact List.getElem_mem hiz)
      have HXG := Lib.hid (show Gd xi s.clock s.next by rw [hxi]; exact HRT.out.gd (List.getElem_mem hin))
      obtain ⟨E, hE⟩ : ∃ E, E = tC z := ⟨_, rfl⟩
      have HE := Lib.hid (show Cub E by rw [hE]; exact Cub.mk_ z.1 (rl_one (OwnA.ri hoz.1)) (rl_one (OwnQ.rm hoz.2)))
      have HEE := Lib.hid hE
      have HRG2 := Lib.hid (show Wo.rangeAt g (i * 10) E by rw [hE]; exact HRG.out)
      obtain ⟨ml, hml⟩ : ∃ ml, ml = z.1.queue.length := ⟨_, rfl⟩
      have HOQZ := Lib.hid hoz.2
      obtain ⟨Aq, cq, hqs, hqc⟩ : ∃ Aq cq, z.2.2 = .slice Aq ml cq ∧ ml ≤ cq := by
        obtain ⟨A1, k1, h1, h2⟩ := own_shape hoz.2
        rw [hml]
        exact ⟨A1, k1, h1, h2⟩
      have HMZ := Lib.hid hml
      have HQS := Lib.hid hqs
      have hb6 := box_wh Wo E
      have k8 := hb6.cv 8 (v := .slice Aq ml cq) (by rw [hE, ← hqs]; rfl)
      have HB6 := Lib.hid hb6
      have HBW := Lib.hid (box_below Wo E)
      have hql := HXG.out.pd.ql
      have HGL := Lib.hid hgl
      have HML := Lib.hid (show ml = xi.queue.length by rw [hml, hz1])
      have hml30 : ml ≤ 30 := by rw [HML.out]; exact hql
      clear hot hz hz1 hoz hE HRG hqs hb6 hml hqc hql hxi hku hgb hgl hcl
      by_cases hm0 : 0 < ml
      case neg =>
        go_wp2_with (first | (refine wpList_load_midG (by rfl) 30 (.tmp 38) rfl g (i * 10) rfl _ _ HRG2.out Tryz.underlying30 rfl HE.out.infoL ?_) | (refine wpList_store_row rfl 30 (.tmp 6) (.tmp 39) rfl Wo.heap.size E.toArray rfl rfl 30 #[.int .i64 0, .string ⟨#[]⟩, .string ⟨#[]⟩, .string ⟨#[]⟩, .int .i64 0, .int .i64 0, .int .i64 0, .slice none 0 0, .slice none 0 0, .string ⟨#[]⟩] (box_old Wo) HE.out.info HE.out.old HE.out.all ?_; rw [box_def]) | fail)
        go_loopw [43] (fun kv wr2 => InR ct s.subs i z.2 w Wo AC T2 E w9.heap.size g s.subs.length ku ml w5.heap.size kv wr2) (fun kv _ => ml - (intOf kv).toNat)
        case atStart =>
          unfold InR
          exact ⟨0, zs, Nat.zero_le _, rfl, HTK.out, by rw [List.getElem?_eq_getElem (by rw [List.length_map]; exact hiz), List.getElem_map, ← HZI.out], HM.out.below HBW.out, own_below HOT.out HBW.out, HOZ.out.below HBW.out, HBT.out.below HBW.out, HB6.out, HBW.out.size⟩
        case round =>
          clear k8
          unfold InR at hrel
          obtain ⟨k, zs2, hk, rfl, htk2, hzq, hm2, hot2, hoz2, hbt2, hb62, hszw⟩ := hrel
          have HZQ := Lib.hid hzq
          obtain ⟨hi2, hz2⟩ : ∃ h : i < zs2.length, zs2[i].2 = z.2 := by
            obtain ⟨h1, h2⟩ := List.getElem?_eq_some_iff.1 hzq
            rw [List.getElem_map] at h2
            exact ⟨by rwa [List.length_map] at h1, h2⟩
          have HTK2 := Lib.hid htk2
          have HZ2 := Lib.hid hz2
          have HM2 := Lib.hid hm2
          have HOT2 := Lib.hid hot2
          have HOZ2 := Lib.hid hoz2
          have HBT2 := Lib.hid hbt2
          have HB62 := Lib.hid hb62
          have HSZW := Lib.hid hszw
          clear htk2 hz2 hm2 hot2 hoz2 hbt2 hb62 hszw hzq
          have hkn : ¬ k < ml := by omega
          have q3 : ¬ ((k : Int) < (ml : Int)) := by omega
          go_wp2_with fail
          go_roundw
          case rel => exact ⟨i + 1, zs2, by omega, by go_num, HTR.out _ _ HTK2.out (by have := HML.out; omega), HM2.out, HOT2.out, HOZ2.out, HBT2.out⟩
          case measure => simp [intOf]; omega
      obtain ⟨g2, hg2, hg2b, hg2l⟩ : ∃ g2, Aq = some ⟨g2, 0, none⟩ ∧ w9.heap.size ≤ g2 ∧ g2 < Wo.heap.size := by
        obtain ⟨g2, c2, h1, h2, h3, _⟩ := OwnQ.form HOQZ.out (by rw [← HMZ.out]; exact hm0)
        have := HQS.out.symm.trans h1
        injection this with e1
        exact ⟨g2, e1, h2, h3⟩
      subst hg2
      have HG2B := Lib.hid (show w9.heap.size ≤ g2 ∧ g2 < Wo.heap.size from ⟨hg2b, hg2l⟩)
      clear hg2b hg2l hm0
      go_wp2_with (first | (refine wpList_load_midG (by rfl) 30 (.tmp 38) rfl g (i * 10) rfl _ _ HRG2.out Tryz.underlying30 rfl HE.out.infoL ?_) | (refine wpList_store_row rfl 30 (.tmp 6) (.tmp 39) rfl Wo.heap.size E.toArray rfl rfl 30 #[.int .i64 0, .string ⟨#[]⟩, .string ⟨#[]⟩, .string ⟨#[]⟩, .int .i64 0, .int .i64 0, .int .i64 0, .slice none 0 0, .slice none 0 0, .string ⟨#[]⟩] (box_old Wo) HE.out.info HE.out.old HE.out.all ?_; rw [box_def]) | fail)
      go_loopw [43] (fun kv wr2 => InR ct s.subs i z.2 w Wo AC T2 E w9.heap.size g s.subs.length ku ml w5.heap.size kv wr2) (fun kv _ => ml - (intOf kv).toNat)
      case atStart =>
        unfold InR
        exact ⟨0, zs, Nat.zero_le _, rfl, HTK.out, by rw [List.getElem?_eq_getElem (by rw [List.length_map]; exact hiz), List.getElem_map, ← HZI.out], HM.out.below HBW.out, own_below HOT.out HBW.out, HOZ.out.below HBW.out, HBT.out.below HBW.out, HB6.out, HBW.out.size⟩
      case round =>
        clear k8
        unfold InR at hrel
        obtain ⟨k, zs2, hk, rfl, htk2, hzq, hm2, hot2, hoz2, hbt2, hb62, hszw⟩ := hrel
        have HZQ := Lib.hid hzq
        obtain ⟨hi2, hz2⟩ : ∃ h : i < zs2.length, zs2[i].2 = z.2 := by
          obtain ⟨h1, h2⟩ := List.getElem?_eq_some_iff.1 hzq
          rw [List.getElem_map] at h2
          exact ⟨by rwa [List.length_map] at h1, h2⟩
        have HTK2 := Lib.hid htk2
        have HZ2 := Lib.hid hz2
        have HM2 := Lib.hid hm2
        have HOT2 := Lib.hid hot2
        have HOZ2 := Lib.hid hoz2
        have HBT2 := Lib.hid hbt2
        have HB62 := Lib.hid hb62
        have HSZW := Lib.hid hszw
        clear htk2 hz2 hm2 hot2 hoz2 hbt2 hb62 hszw hzq
        by_cases hkn : k < ml
        case neg =>
          have q3 : ¬ ((k : Int) < (ml : Int)) := by omega
          go_wp2_with fail
          go_roundw
          case rel => exact ⟨i + 1, zs2, by omega, by go_num, HTR.out _ _ HTK2.out (by have := HML.out; omega), HM2.out, HOT2.out, HOZ2.out, HBT2.out⟩
          case measure => simp [intOf]; omega
        have q3 : (k : Int) < (ml : Int) := by omega
        have q4 : (0 : Int) ≤ (k : Int) := by omega
        have hkx : k < xi.queue.length := by have := HML.out; omega
        have hx2 : zs2[i].1 = partX ct k xi := by
          have h1 := HTA.out _ _ HTK2.out (by rw [List.length_map]; exact hi2)
          rwa [List.getElem_map] at h1
        have hoq := (HOZ2.out.1 _ (List.getElem_mem hi2)).2
        have hql2 : zs2[i].1.queue.length = ml := by rw [hx2, partX_len]; exact HML.out.symm
        have hq2 : z.2.2 = .slice (some ⟨g2, 0, none⟩) ml cq := HQS.out
        have hfq : zs2[i].2.2 = .slice (some ⟨g2, 0, none⟩) zs2[i].1.queue.length cq := by rw [HZ2.out, hql2]; exact hq2
        have hrg := (show wr.rangeAt g2 (k * 8) (msgC xi.queue[k]) by
          have h1 := hoq
          rw [hfq] at h1
          have h2 := OwnQ.at_ h1 (i := k) (by omega)
          have h3 : zs2[i].1.queue[k]'(by omega) = xi.queue[k] := by
            have : ∀ (x : Sub) (hx : x = partX ct k xi) (hh : k < x.queue.length), x.queue[k] = xi.queue[k] := fun x hx hh => by subst hx; exact partX_at hkx
            exact this _ hx2 _
          rw [h3] at h2
          exact h2)
        obtain ⟨m, hm⟩ : ∃ m, m = xi.queue[k] := ⟨_, rfl⟩
        rw [← hm] at hrg
        have hmm : m ∈ xi.queue := by rw [hm]; exact List.getElem_mem hkx
        have htp := til_pos HXG.out HRT.out.c0 HRT.out.c1 hmm
        obtain ⟨M, hM⟩ : ∃ M, M = msgC m := ⟨_, rfl⟩
        rw [← hM] at hrg
        have HRGM := Lib.hid hrg
        have HMS := Lib.hid (show (Tryz.prog.info? 45).map (·.size) = some M.length by rw [hM]; exact size45)
        have HMT := Lib.hid (show (Tryz.prog.info? 45).map (·.size) = some M.toArray.size by rw [hM]; exact size45)
        have HMO := Lib.hid (show (#[.int .i64 0, .string ⟨#[]⟩, .string ⟨#[]⟩, .int .i64 0, .int .i64 0, .bool false, .string ⟨#[]⟩, .int .i64 0] : Array Value).size = M.toArray.size by rw [hM]; rfl)
        have HMA := Lib.hid (show M.toArray.all (·.oneCell') = true by rw [hM]; exact msg_all m)
        have HMM := Lib.hid hM
        have HMI := Lib.hid hm
        have HX2 := Lib.hid hx2
        have HFQ := Lib.hid (show zs2[i].2.2 = .slice (some ⟨g2, 0, none⟩) zs2[i].1.queue.length cq by rw [hql2, HZ2.out]; exact hq2)
        have HG2 := Lib.hid (show w9.heap.size ≤ g2 ∧ g2 < wr.heap.size from ⟨HG2B.out.1, Nat.lt_of_lt_of_le HG2B.out.2 HSZW.out⟩)
        have HKX := Lib.hid hkx
        have HTP := Lib.hid htp
        have hbm := boxM_wh wr M
        have hbb := boxM_below wr M
        have kt := hbm.cv 4 (v := .int .i64 m.til) (by rw [hM]; rfl)
        have kc := (HBT2.out.below hbb).cv 0 (v := .int .i64 ct) (by rw [HTE2.out, HCT.out]; rfl)
        have k8 := (HB62.out.below hbb).cv 8 (v := .slice (some ⟨g2, 0, none⟩) ml cq) (by rw [HEE.out, ← hq2]; rfl)
        have k5 := (HB62.out.below hbb).cv 5 (v := .int .i64 xi.most) (by rw [HEE.out, ← HZ1.out]; rfl)
        have HBM := Lib.hid hbm
        have HBB := Lib.hid hbb
        have HQ2 := Lib.hid hq2
        have HI2 := Lib.hid hi2
        have HQL2 := Lib.hid hql2
        have hK2 := HKK.out
        clear hm hM hrg hmm htp hx2 hoq hfq hq2 hbm hbb hql2
        by_cases ht : 0 < m.til ∧ m.til ≤ ct
        case neg =>
          have hsm : tickM ct xi (xi.queue[k]'hkx) = xi.queue[k]'hkx := by unfold tickM; rw [show xi.queue[k]'hkx = m from HMI.out.symm, if_neg ht]
          have HSM := Lib.hid hsm
          clear hsm
          have hrel2 : TickI ct s.subs i (k + 1) (zs2.map (·.1)) := HTS.out _ _ HTK2.out (partX_same HKX.out HSM.out)
          have HREL2 := Lib.hid hrel2
          clear hrel2
          by_cases ht1 : 0 < m.til
          · have ht2 : decide (m.til ≤ ct) = false := decide_eq_false (fun h => ht ⟨ht1, h⟩)
            have ht1' : m.til > 0 := ht1
            clear ht k8 k5
            go_wp2_with (first | ((with_reducible show wpList _ _ _ _ _ _); refine wpList_load_midG (by rfl) 45 (.tmp 46) rfl g2 (k * 8) rfl _ _ HRGM.out Tryz.underlying45 rfl HMS.out ?_) | ((with_reducible show wpList _ _ _ _ _ _); refine wpList_store_row rfl 45 (.tmp 8) (.tmp 47) rfl wr.heap.size M.toArray rfl rfl 45 #[.int .i64 0, .string ⟨#[]⟩, .string ⟨#[]⟩, .int .i64 0, .int .i64 0, .bool false, .string ⟨#[]⟩, .int .i64 0] (boxM_old wr) HMT.out HMO.out HMA.out ?_; rw [boxM_def]) | fail)
            go_roundw
            case rel => unfold InR; exact ⟨k + 1, zs2, by omega, by go_num, HREL2.out, HZQ.out, HM2.out.below HBB.out, own_below HOT2.out HBB.out, HOZ2.out.below HBB.out, HBT2.out.below HBB.out, HB62.out.below HBB.out, Nat.le_trans HSZW.out HBB.out.size⟩
            case measure => simp [intOf]; omega
          · have ht1' : decide (m.til > 0) = false := decide_eq_false ht1
            have ht2' : decide (0 < m.til) = false := decide_eq_false ht1
            clear ht k8 k5 kc
            go_wp2_with (first | ((with_reducible show wpList _ _ _ _ _ _); refine wpList_load_midG (by rfl) 45 (.tmp 46) rfl g2 (k * 8) rfl _ _ HRGM.out Tryz.underlying45 rfl HMS.out ?_) | ((with_reducible show wpList _ _ _ _ _ _); refine wpList_store_row rfl 45 (.tmp 8) (.tmp 47) rfl wr.heap.size M.toArray rfl rfl 45 #[.int .i64 0, .string ⟨#[]⟩, .string ⟨#[]⟩, .int .i64 0, .int .i64 0, .bool false, .string ⟨#[]⟩, .int .i64 0] (boxM_old wr) HMT.out HMO.out HMA.out ?_; rw [boxM_def]) | fail)
            go_roundw
            case rel => unfold InR; exact ⟨k + 1, zs2, by omega, by go_num, HREL2.out, HZQ.out, HM2.out.below HBB.out, own_below HOT2.out HBB.out, HOZ2.out.below HBB.out, HBT2.out.below HBB.out, HB62.out.below HBB.out, Nat.le_trans HSZW.out HBB.out.size⟩
            case measure => simp [intOf]; omega
        have ht1 : m.til > 0 := ht.1
        have ht2 : m.til ≤ ct := ht.2
        have HTT := Lib.hid ht
        clear ht
        go_wp2_with (first | ((with_reducible show wpList _ _ _ _ _ _); refine wpList_load_midG (by rfl) 45 (.tmp 46) rfl g2 (k * 8) rfl _ _ HRGM.out Tryz.underlying45 rfl HMS.out ?_) | ((with_reducible show wpList _ _ _ _ _ _); refine wpList_store_row rfl 45 (.tmp 8) (.tmp 47) rfl wr.heap.size M.toArray rfl rfl 45 #[.int .i64 0, .string ⟨#[]⟩, .string ⟨#[]⟩, .int .i64 0, .int .i64 0, .bool false, .string ⟨#[]⟩, .int .i64 0] (boxM_old wr) HMT.out HMO.out HMA.out ?_; rw [boxM_def]) | fail)
        clear kt kc k8 k5 ht1 ht2 q1 q2 q3 q4
        obtain ⟨V, hV⟩ : ∃ W, W = boxM wr M := ⟨_, rfl⟩
        rw [← hV] at HBM HBB ⊢
        have HVS := Lib.hid (show wr.heap.size < V.heap.size from (Array.getElem?_eq_some_iff.1 HBM.out).1)
        clear hV
        have HC8 := Lib.hid ((HB62.out.below HBB.out).cv 8 (v := .slice (some ⟨g2, 0, none⟩) ml cq) (by rw [HEE.out, ← HQ2.out]; rfl))
        have HC5 := Lib.hid ((HB62.out.below HBB.out).cv 5 (v := .int .i64 xi.most) (by rw [HEE.out, ← HZ1.out]; rfl))
        have HRB := Lib.hid HBM.out.range
        have hGL := HG2B.out
        have hGL2 := HG2.out
        have q4 : (0 : Int) ≤ (k : Int) := by omega
        have q3 : (k : Int) < (ml : Int) := by omega
        refine wp_region_held_drew (S := fun X => V.grownBy X (some g2)) (by kernel_rfl) (grown_of_below (SB.b0 (SB.start V)) _) (fun hHeld => ?_)
        refine tkC 0 ?_
        refine tkA 1 (v := .slice (some ⟨g2, 0, none⟩) ml cq) ?_ ?_
        · intro W hSw; have hq := hSw.cell HC8.out (by simp; omega)
          go_simp; try (with_reducible rfl)
        try simp only [Act.put, zA, zB, zC]
        refine tkC 2 ?_
        refine tkC 4 ?_
        refine tkA 5 (v := .int .i64 xi.most) ?_ ?_
        · intro W hSw; have hq := hSw.cell HC5.out (by simp; omega)
          go_simp; try (with_reducible rfl)
        try simp only [Act.put, zA, zB, zC]
        refine rdA (rs := [3]) (arC (i := 3) fun K hK => ?_)
        refine step_load_mid rfl 45 (.tmp 8) rfl wr.heap.size 0 M _ rfl HRB.out Tryz.underlying45 rfl HMS.out ?_
        refine hK.out _ _ ?_ (fun _ => ?_)
        · exact hHeld
        clear hK K
        try simp only [Act.put, zA, zB, zC]
        refine rdA (rs := [6]) (arC (i := 6) fun K hK => ?_)
        go_simp
        have hc := back_any m xi.most byTime V.drew
        rw [← HMM.out] at hc
        refine hc.mono ?_
        clear hc
        rintro e w6 ⟨rfl, hb6⟩
        try (go_wp2_with fail)
        have hHeld' := grown_below hHeld hb6
        refine hK.out _ _ ?_ (fun _ => ?_)
        · exact hHeld'
        clear hK K hHeld
        have hHeld := hHeld'
        clear hHeld'
        try simp only [Act.put, zA, zB, zC]
        refine tkA 7 (v := .pointer (some ⟨g2, k * 8, none⟩)) ?_ ?_
        · intro W hSw; go_simp; try (with_reducible rfl)
        try simp only [Act.put, zA, zB, zC]
        have hbd := (SB.b0 (SB.start V)).trans hb6
        have hbv := HBB.out.trans (hbd.mono HBB.out.size)
        have hot6 := own_below HOT2.out hbv
        have hoz6 := HOZ2.out.below hbv
        obtain ⟨ht7, hz7, hgr7⟩ := own_setm hot6 hoz6 HI2.out HFQ.out (k := k) (by rw [HQL2.out]; omega) (backP xi.most byTime m)
        have hoq6 := (hoz6.1 _ (List.getElem_mem HI2.out)).2
        have HNE := Lib.hid (own_ne_wh hoq6 (HBT2.out.below hbv) (by decide))
        rw [HFQ.out] at HNE hoq6
        have hth := OwnQ.there hoq6 (i := k) (by rw [HQL2.out]; omega)
        obtain ⟨N, hN⟩ : ∃ N, N = msgC (backP xi.most byTime m) := ⟨_, rfl⟩
        rw [← hN] at ht7 hz7 hgr7
        have hns : N.length = 8 := by rw [hN]; rfl
        rw [← hN]
        refine rdA (rs := [8]) (arC (i := 8) fun K hK => ?_)
        refine step_store_mid rfl 45 (.tmp 65) (.tmp 64) rfl g2 (k * 8) N.toArray rfl rfl (by simp only [List.size_toArray, hns]; exact hth) (by simp only [List.size_toArray, hns]; exact size45) (by rw [hN]; exact msg_all _) ?_
        refine hK.out _ _ ?_ (fun _ => ?_)
        · exact grown_more hHeld hgr7
        clear hK K
        try simp only [Act.put, zA, zB, zC]
        refine wpAnyH_done (by kernel_rfl) ?_ _
        have hgv := grown_more hHeld hgr7
        have hm7 := (HM2.out.below HBB.out).grown hgv (by have := HKK.out; omega)
        have hbt7 := (HBT2.out.below HBB.out).kept hgv (fun e => HNE.out e.symm)
        have hb7 := (HB62.out.below HBB.out).kept hgv (by simp; omega)
        have hsz7 := Nat.le_trans HSZW.out (Nat.le_trans HBB.out.size hgv.size)
        have htm : tickM ct xi (xi.queue[k]'HKX.out) = backP xi.most byTime m := by
          unfold tickM
          rw [show xi.queue[k]'HKX.out = m from HMI.out.symm, if_pos HTT.out, backP_eq HTP.out.2.1]
        have hrel2 : TickI ct s.subs i (k + 1) ((zs2.set i ({ (zs2[i]'HI2.out).1 with queue := (zs2[i]'HI2.out).1.queue.set k (backP xi.most byTime m) }, (zs2[i]'HI2.out).2)).map (·.1)) := by
          rw [List.map_set]
          have e : ({ (zs2[i]'HI2.out).1 with queue := (zs2[i]'HI2.out).1.queue.set k (backP xi.most byTime m) } : Sub) = partX ct (k + 1) xi := by
            rw [partX_next HKX.out, htm, HX2.out]
          rw [e]
          exact HTN.out _ _ HTK2.out
        have hzq2 : ((zs2.set i ({ (zs2[i]'HI2.out).1 with queue := (zs2[i]'HI2.out).1.queue.set k (backP xi.most byTime m) }, (zs2[i]'HI2.out).2)).map (·.2))[i]? = some z.2 := by
          rw [List.map_set]
          simp only
          rw [List.getElem?_set_self (by rw [List.length_map]; exact HI2.out), HZ2.out]
        try simp only [List.toList_toArray]
        obtain ⟨W7, hW7⟩ : ∃ W7, W7 = w6.setCells g2 (k * 8) N := ⟨_, rfl⟩
        rw [← hW7] at ht7 hz7 hm7 hbt7 hb7 hsz7 ⊢
        have HRL := Lib.hid (show InR ct s.subs i z.2 w Wo AC T2 E w9.heap.size g s.subs.length ku ml w5.heap.size (.int .i64 ((k + 1 : Nat) : Int)) W7 from ⟨k + 1, _, by omega, rfl, hrel2, hzq2, hm7, ht7, hz7, hbt7, hb7, hsz7⟩)
        clear hW7 ht7 hz7 hm7 hbt7 hb7 hsz7 hrel2 hzq2 htm hgv hgr7 hth hoq6 hot6 hoz6 hbv hbd hHeld hb6 hN hns hGL hGL2 q3 q4
        go_wp2_with fail
        go_roundw
        case rel => have h := HRL.out; simpa using h
        case measure => simp [intOf]; omega
end Go.Proofs.YtodckdkbheapfaaGreat
