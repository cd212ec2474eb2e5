/-
  The contract of the program's sub (layer model).; The contract of the program's own of a state (layer model).
-/
import Derived.Test.YtodckdkbheapfaaGreatKOCB
import Derived.Test.YtodckdkbheapfaaGreatKOCE
set_option linter.unusedVariables false
set_option linter.unusedVariables false
set_option linter.unusedSimpArgs false
namespace Go.Proofs.YtodckdkbheapfaaGreat
open Go.RowKit Go.Rst Go.Tp Go.Ts Go.Md
def GivesX (w : World) (o : Option Sub) (e : Ending) (w' : World) : Prop := match o with
  | none => e = .panicked (errP 30) ∧ Below w.heap.size w w'
  | some x => ∃ av qv, e = .returned (.agg (subC x av qv).toArray) ∧ OwnA w' w.heap.size av x.acks ∧ OwnQ w' w.heap.size qv x.queue ∧ Below w.heap.size w w'
set_option maxRecDepth 100000 in
set_option maxHeartbeats 8000000 in
theorem sub_p (s : St) (v : Value) (o : Md.Op) (dv : Value) (w : World) (h : RS w v s.subs) (hz : ∀ x ∈ s.subs, Sized x) (hd : dv.oneCell' = true) :
    Calls Tryz.prog 70 #[.agg (askC s v o dv).toArray] w (GivesX w (findS s.subs o.sub)) := by
  have hv := rl_one h
  obtain ⟨AC, hAC⟩ : ∃ AC, AC = askC s v o dv := ⟨_, rfl⟩
  obtain ⟨Z, hZ⟩ : ∃ Z : List Value, Z = [.int .i64 0, .string ⟨#[]⟩, .string ⟨#[]⟩, .string ⟨#[]⟩, .int .i64 0, .int .i64 0, .int .i64 0, .slice none 0 0, .slice none 0 0, .string ⟨#[]⟩] := ⟨_, rfl⟩
  obtain ⟨W0, hW0⟩ : ∃ W0, W0 = (w.alloc (.cells AC.toArray 73)).alloc (.cells Z.toArray 30) := ⟨_, rfl⟩
  have hb0 : Below w.heap.size w W0 := by rw [hW0]; exact below_two w _ _ _ _
  have ha : Wh W0 w.heap.size AC 73 := by rw [hW0]; exact (Wh.new w _ _).alloc _
  have hzr : Wh W0 (w.heap.size + 1) Z 30 := by
    have := Wh.new (w.alloc (.cells AC.toArray 73)) Z 30
    rw [World.size_alloc] at this
    rw [hW0]; exact this
  have hs0 : W0.heap.size = w.heap.size + 2 := by rw [hW0]; simp
  have ha5 : W0.cell? ⟨w.heap.size, 5, none⟩ = some (.int .i64 o.sub) := ha.cv 5 (by rw [hAC]; rfl)
  have HRG := Lib.hid (ha.part 0 (stC s.clock s.next s.last v) (by rw [hAC]; exact pre_part _ _))
  have hF := findP3_any s.clock s.next s.last v s.subs o.sub W0 (h.below stays_cs hb0) hz
  generalize findS s.subs o.sub = fo at hF ⊢
  have HF := Lib.hid hF
  clear hF
  have HZL := Lib.hid (show Z.toArray.size = 10 by rw [hZ]; rfl)
  rw [hZ] at hW0
  have HB0 := Lib.hid hb0
  have HZR := Lib.hid hzr
  have HS0 := Lib.hid hs0
  have HW0 := Lib.hid hW0
  have hrl := HRG.out
  rw [HW0.out] at hrl ha5
  have HRL := Lib.hid hrl
  clear hrl
  rw [← hAC]
  clear hb0 ha hzr hs0 hW0 hAC hZ h hz
  have hAS : (Tryz.prog.info? 73).map (·.size) = some 14 := sizeA
  go_enter Tryz.func70, Tryz.ntmps70
  go_wp2_with (first | (refine wpList_load_midG (by rfl) 25 (.tmp 6) rfl w.heap.size 0 rfl _ _ HRL.out Tryz.underlying25 rfl size24 ?_) | fail)
  rw [← HW0.out]
  refine HF.out.mono ?_
  rintro e w5 ⟨a5, q5, rfl, hoa, hoq, hb5⟩
  obtain ⟨y, hy⟩ : ∃ y, y = fo.getD noSub := ⟨_, rfl⟩
  obtain ⟨b, hbo⟩ : ∃ b, b = fo.isSome := ⟨_, rfl⟩
  rw [← hy] at hoa hoq
  rw [← hy, ← hbo]
  obtain ⟨E, hE⟩ : ∃ E, E = subC y a5 q5 := ⟨_, rfl⟩
  have HE := Lib.hid (show Cub E by rw [hE]; exact Cub.mk_ y (rl_one hoa.ri) (rl_one hoq.rm))
  have HEE := Lib.hid hE
  rw [← hE]
  have HB5 := Lib.hid (HB0.out.trans (hb5.mono HB0.out.size))
  have HL5 := Lib.hid (show w.heap.size + 2 ≤ w5.heap.size by have := hb5.size; have := HS0.out; omega)
  have HR5 := Lib.hid ((HZR.out.below hb5).below (box_below w5 E))
  have HOA := Lib.hid (own_below hoa (box_below w5 E))
  have HOQ := Lib.hid (own_below hoq (box_below w5 E))
  have HBW := Lib.hid (box_wh w5 E)
  have HY := Lib.hid hy
  have HBO := Lib.hid hbo
  clear hE hoa hoq hb5 hy hbo HRG HRL
  go_wp2_with (first | (refine wpList_store_row rfl 30 (.tmp 3) (.tmp 12) rfl w5.heap.size E.toArray rfl rfl 30 #[.int .i64 0, .string ⟨#[]⟩, .string ⟨#[]⟩, .string ⟨#[]⟩, .int .i64 0, .int .i64 0, .int .i64 0, .slice none 0 0, .slice none 0 0, .string ⟨#[]⟩] (box_old w5) HE.out.info HE.out.old HE.out.all ?_; rw [box_def]) | fail)
  cases b with
  | false =>
    refine (must_no 30 _).mono ?_
    rintro e w6 ⟨rfl, rfl⟩
    cases fo with
    | none => exact ⟨rfl, rfl, HB5.out.trans ((box_below w5 E).mono HB5.out.size)⟩
    | some x => exact absurd HBO.out (by simp)
  | true =>
    cases fo with
    | none => exact absurd HBO.out (by simp)
    | some x =>
      obtain rfl : y = x := HY.out
      refine (must_yes 30 _).mono ?_
      rintro e w6 ⟨rfl, rfl⟩
      go_wp2_with (first
        | (refine wpList_load_midG (by rfl) 30 (.tmp 3) rfl w5.heap.size 0 rfl _ _ HBW.out.range Tryz.underlying30 rfl HE.out.infoL ?_)
        | (refine wpList_store_row rfl 30 (.tmp 2) (.tmp 16) rfl (w.heap.size + 1) E.toArray rfl rfl 30 Z.toArray HR5.out HE.out.info (by rw [HZL.out]; simp [HE.out.len]) HE.out.all ?_)
        | fail)
      refine bodyPost_ret (results_cell_row rfl _ _ (w.heap.size + 1) 30 E.toArray (0, 0) _ rfl (HR5.out.set E) Tryz.underlying30 rfl HE.out.info) rfl ?_
      have hgr := grown_row (boxW w5 E) (w.heap.size + 1) E.toArray
      refine ⟨a5, q5, by rw [HEE.out], ?_, ?_, below_setRow (HB5.out.trans ((box_below w5 E).mono HB5.out.size)) (by omega) _⟩
      · exact (HOA.out.kept hgr (.inr (own_ne_wh HOA.out HR5.out (by decide)))).mono (by have := HB0.out.size; omega)
      · exact (HOQ.out.kept hgr (.inr (own_ne_wh HOQ.out HR5.out (by decide)))).mono (by have := HB0.out.size; omega)
end Go.Proofs.YtodckdkbheapfaaGreat
set_option linter.unusedVariables false
set_option linter.unusedSimpArgs false
namespace Go.Proofs.YtodckdkbheapfaaGreat
open Go.RowKit Go.Rst Go.Tp Go.Ts Go.Md
def OwnZ (B : Nat) (w : World) (zs : List Tri) : Prop := (∀ z ∈ zs, OwnA w B z.2.1 z.1.acks ∧ OwnQ w B z.2.2 z.1.queue) ∧ zs.Pairwise (fun a b => b.2.2.ownBlock = none ∨ b.2.2.ownBlock ≠ a.2.2.ownBlock)
theorem OwnZ.nil_ (B : Nat) (w : World) : OwnZ B w [] := ⟨fun z hz => (by cases hz), List.Pairwise.nil⟩
theorem OwnZ.kept {B : Nat} {w w2 : World} {zs : List Tri} (h : OwnZ B w zs) {g : Nat} (hg : w.grownBy w2 (some g)) {cur : Array Value} {t : TypeId} (hk : w.heap[g]? = some (.cells cur t (0, 0))) (h1 : 3 ≠ t) (h2 : 45 ≠ t) : OwnZ B w2 zs := by
  have hw : Wh w g cur.toList t := by unfold Wh; rw [hk, Array.toArray_toList]
  exact ⟨fun z hz => ⟨(h.1 z hz).1.kept hg (.inr (own_ne_wh (h.1 z hz).1 hw h1)), (h.1 z hz).2.kept hg (.inr (own_ne_wh (h.1 z hz).2 hw h2))⟩, h.2⟩
theorem OwnZ.below {B : Nat} {w w2 : World} {zs : List Tri} (h : OwnZ B w zs) (hb : Below w.heap.size w w2) : OwnZ B w2 zs := ⟨fun z hz => ⟨own_below (h.1 z hz).1 hb, own_below (h.1 z hz).2 hb⟩, h.2⟩
theorem OwnZ.more {B : Nat} {w : World} {zs : List Tri} (h : OwnZ B w zs) {z : Tri} (ha : OwnA w B z.2.1 z.1.acks) (hq : OwnQ w B z.2.2 z.1.queue) (hn : ∀ y ∈ zs, z.2.2.ownBlock = none ∨ z.2.2.ownBlock ≠ y.2.2.ownBlock) : OwnZ B w (zs ++ [z]) := by
  refine ⟨fun y hy => ?_, ?_⟩
  · rcases List.mem_append.1 hy with hy | hy
    · exact h.1 y hy
    · rw [List.mem_singleton] at hy; subst hy; exact ⟨ha, hq⟩
  · rw [List.pairwise_append]
    exact ⟨h.2, by simp, fun a hma b hb => by rw [List.mem_singleton] at hb; subst hb; exact hn a hma⟩
theorem own_mono {w : World} {B B2 : Nat} {e : TypeId} {sz : Nat} {v : Value} {n : Nat} {xs : List Value} (h : w.ownsRow B e sz v n xs) (hb : B2 ≤ B) : w.ownsRow B2 e sz v n xs := h.mono hb
theorem own_kind {w : World} {B : Nat} {e : TypeId} {sz g n c : Nat} {xs : List Value} (h : w.ownsRow B e sz (.slice (some ⟨g, 0, none⟩) n c) n xs) : ∃ cur, w.heap[g]? = some (.cells cur e (0, 0)) := row_kind h g rfl
def GivesOS (w : World) (s : St) (e : Ending) (w' : World) : Prop := ∃ (u : Value) (zs : List Tri), e = .returned (.agg (stC s.clock s.next s.last u).toArray) ∧ zs.map (·.1) = s.subs ∧ OwnT w' w.heap.size u zs ∧ OwnZ w.heap.size w' zs ∧ Below w.heap.size w w'
theorem OwnT.kept_ {w w2 : World} {B g : Nat} {v : Value} {zs : List Tri} (h : OwnT w B v zs) (hg : w.grownBy w2 (some g)) (hlt : g < B) : OwnT w2 B v zs := by
  cases hv : v.ownBlock with
  | none => exact h.kept hg (.inl hv)
  | some k => exact h.kept hg (.inr (by rw [hv]; have := (h.lt k hv).1; simp; omega))
theorem take_set {zs : List Tri} {i : Nat} (hi : i < zs.length) (z : Tri) : (zs.set i z).take (i + 1) = zs.take i ++ [z] := by
  rw [List.take_succ_eq_append_getElem (by simpa using hi), List.take_set_of_le (Nat.le_refl _)]
  simp
theorem map_set {zs : List Tri} {i : Nat} (hi : i < zs.length) (z : Tri) (hz : z.1 = zs[i].1) : (zs.set i z).map (·.1) = zs.map (·.1) := by
  refine List.ext_getElem (by simp) fun j h1 h2 => ?_
  rw [List.getElem_map, List.getElem_map, List.getElem_set]
  split
  · rename_i h; subst h; exact hz
  · rfl
theorem grown_below {w w2 w3 : World} {g : Nat} (h : w.grownBy w2 (some g)) (hb : Below w2.heap.size w2 w3) : w.grownBy w3 (some g) :=
  ⟨hb.os.trans h.os, hb.tape.trans h.tape, hb.output.trans h.output, Nat.le_trans h.size hb.size, fun k hk hne => (hb.block k (Nat.lt_of_lt_of_le hk h.size)).trans (h.block k hk hne)⟩
theorem grown_more {w w2 w3 : World} {g : Nat} (h : w.grownBy w2 (some g)) (hb : w2.grownBy w3 (some g)) : w.grownBy w3 (some g) :=
  ⟨hb.os.trans h.os, hb.tape.trans h.tape, hb.output.trans h.output, Nat.le_trans h.size hb.size, fun k hk hne => (hb.block k (Nat.lt_of_lt_of_le hk h.size) hne).trans (h.block k hk hne)⟩
theorem grown_of_below {w w2 : World} (hb : Below w.heap.size w w2) (row : Option Nat) : w.grownBy w2 row := ⟨hb.os, hb.tape, hb.output, hb.size, fun k hk _ => hb.block k hk⟩
theorem OwnT.cv {w : World} {B g c n : Nat} {q : List Tri} (h : OwnT w B (.slice (some ⟨g, 0, none⟩) n c) q) {i : Nat} (hi : i < q.length) (k : Nat) {v : Value} (hv : (tC q[i])[k]? = some v) : w.cell? ⟨g, i * 10 + k, none⟩ = some v := by
  have hn : n = q.length := by
    obtain ⟨A, c2, h1, _⟩ := own_shape h
    injection h1
  subst hn
  exact h.at_ hi k v hv
theorem OwnT.fz {w : World} {B g c n : Nat} {q : List Tri} (h : OwnT w B (.slice (some ⟨g, 0, none⟩) n c) q) (k : Nat) : w.frozen? ⟨g, k, none⟩ = false := by
  have hn : n = q.length := by
    obtain ⟨A, c2, h1, _⟩ := own_shape h
    injection h1
  subst hn
  exact h.frozenAt k
theorem OwnT.cell_ {w : World} {B g c n : Nat} {q : List Tri} (h : OwnT w B (.slice (some ⟨g, 0, none⟩) n c) q) {i k : Nat} (hi : i < q.length) (hk : k < 10) (v : Value) (m : Tri) (hm : (tC q[i]).set k v = tC m) :
    OwnT (w.setCell ⟨g, i * 10 + k, none⟩ v) B (.slice (some ⟨g, 0, none⟩) n c) (q.set i m) ∧ w.grownBy (w.setCell ⟨g, i * 10 + k, none⟩ v) (some g) := by
  have hn : n = q.length := by
    obtain ⟨A, c2, h1, _⟩ := own_shape h
    injection h1
  subst hn
  exact h.cell hi hk v m hm
set_option maxRecDepth 100000 in
set_option maxHeartbeats 16000000 in
theorem ownS_any (s : St) (v : Value) (w : World) (h : RS w v s.subs) (hz : ∀ x ∈ s.subs, Sized x) (hl : s.subs.length ≤ 1000000) :
    Calls Tryz.prog 33 #[.agg (stC s.clock s.next s.last v).toArray] w (GivesOS w s) := by
  obtain ⟨c, n, l, xs⟩ := s
  simp only at h hz hl ⊢
  have hv := rl_one h
  obtain ⟨zs0, hzs0, hrt, hrd⟩ := rs_tri h
  have hzl : zs0.length = xs.length := by rw [← hzs0, List.length_map]
  obtain ⟨A, ca, rfl, _, _⟩ := h.shape
  obtain ⟨W0, hW0⟩ : ∃ W0, W0 = (w.alloc (.cells #[.int .i64 c, .int .i64 n, .int .i64 l, .slice A xs.length ca] 25)).alloc (.cells #[.int .i64 0, .int .i64 0, .int .i64 0, .slice none 0 0] 25) := ⟨_, rfl⟩
  have hb0 : Below w.heap.size w W0 := by rw [hW0]; exact below_two w _ _ _ _
  have hs : Wh W0 w.heap.size [.int .i64 c, .int .i64 n, .int .i64 l, .slice A xs.length ca] 25 := by rw [hW0]; exact (Wh.new w _ _).alloc _
  have hr : Wh W0 (w.heap.size + 1) [.int .i64 0, .int .i64 0, .int .i64 0, .slice none 0 0] 25 := by
    have := Wh.new (w.alloc (.cells #[.int .i64 c, .int .i64 n, .int .i64 l, .slice A xs.length ca] 25)) [.int .i64 0, .int .i64 0, .int .i64 0, .slice none 0 0] 25
    rw [World.size_alloc] at this
    rw [hW0]; exact this
  have hsz : W0.heap.size = w.heap.size + 2 := by rw [hW0]; simp
  have HCL := Lib.hid (cloneS_any (.slice A xs.length ca) zs0 W0 (hrt.below (fun _ _ _ _ h _ => h) hb0) (fun z hz => (hrd z hz).below hb0) (by omega))
  have HRD := Lib.hid hrd
  have HZS := Lib.hid hzs0
  have HZL := Lib.hid hzl
  have HSZD := Lib.hid hz
  have HB0 := Lib.hid hb0
  have HS := Lib.hid hs
  have HR := Lib.hid hr
  have HSZ := Lib.hid hsz
  clear h hz hrd hrt hzs0 hb0 hs hr hsz hv hzl
  unfold stC
  go_enter Tryz.func33, Tryz.ntmps33
  go_wp2_with fail
  rw [← hW0]
  clear hW0
  refine HCL.out.mono ?_
  rintro e w1 ⟨u, rfl, hou, hb1⟩
  have hs1 := HS.out.below hb1
  have hr1 := HR.out.below hb1
  have f3 := hs1.frozen 3
  have k3 := hs1.cv 3 (v := .slice A xs.length ca) rfl
  have hs2 := hs1.set1 3 u
  have hr2 := hr1.set1Other (k := w.heap.size) (by omega) 3 u
  simp only [List.set_cons_succ, List.set_cons_zero] at hs2
  have hbt : Below w.heap.size w w1 := HB0.out.trans (hb1.mono HB0.out.size)
  have hbs := hbt.setCell (p := ⟨w.heap.size, 3, none⟩) (Nat.le_refl _) u
  have hou2 : OwnT (w1.setCell ⟨w.heap.size, 3, none⟩ u) (w.heap.size + 2) u zs0 := by
    have h1 : OwnT w1 (w.heap.size + 2) u zs0 := by rw [← HSZ.out]; exact hou
    exact h1.kept_ (grown_cell w1 w.heap.size 3 u) (by omega)
  obtain ⟨Au, ku, hu, hku⟩ : ∃ Au ku, u = .slice Au xs.length ku ∧ xs.length ≤ ku := by
    obtain ⟨A1, k1, h1, h2⟩ := own_shape hou; rw [HZL.out] at h1 h2; exact ⟨A1, k1, h1, h2⟩
  have HU := Lib.hid hu
  obtain ⟨W2, hW2⟩ : ∃ W2, W2 = w1.setCell ⟨w.heap.size, 3, none⟩ u := ⟨_, rfl⟩
  have HW2 := Lib.hid hW2
  rw [← hW2] at hs2 hr2 hbs hou2
  have c3 := hs2.cv 3 (v := u) rfl
  have HS2 := Lib.hid hs2
  have HR2 := Lib.hid hr2
  have HB2 := Lib.hid hbs
  have HO2 := Lib.hid hou2
  subst hu
  go_wp2_with fail
  go_loopw [12] (fun iv wr => ∃ (i : Nat) (zs : List Tri), i ≤ zs.length ∧ iv = .int .i64 i ∧ zs.length = xs.length ∧ zs.map (·.1) = xs ∧ Wh wr w.heap.size [.int .i64 c, .int .i64 n, .int .i64 l, .slice Au xs.length ku] 25 ∧ Wh wr (w.heap.size + 1) [.int .i64 0, .int .i64 0, .int .i64 0, .slice none 0 0] 25 ∧ OwnT wr (w.heap.size + 2) (.slice Au xs.length ku) zs ∧ OwnZ (w.heap.size + 2) wr (zs.take i) ∧ (∀ j (h : j < zs.length), i ≤ j → ReadT w zs[j]) ∧ Below w.heap.size w wr) (fun iv _ => xs.length - (intOf iv).toNat)
  case atStart =>
    obtain rfl := HW2.out
    exact ⟨0, zs0, by omega, rfl, HZL.out, HZS.out, HS2.out, HR2.out, HO2.out, OwnZ.nil_ _ _, fun j h _ => HRD.out _ (List.getElem_mem h), HB2.out⟩
  case round =>
    clear c3 f3 k3 HS2 HR2 HO2 HB2 HS HR HB0 HSZ HRD HZS HCL
    obtain ⟨i, zs, hi, rfl, hzl, hzm, hws, hwr, hot, hoz, hrd, hbw⟩ := hrel
    have HZLN := Lib.hid hzl
    have HZM := Lib.hid hzm
    have HWS := Lib.hid hws
    have HWR := Lib.hid hwr
    have HOT := Lib.hid hot
    have HOZ := Lib.hid hoz
    have HRD := Lib.hid hrd
    have HBW := Lib.hid hbw
    have c3 := hws.cv 3 (v := .slice Au xs.length ku) rfl
    clear hzl hzm hws hwr hot hoz hrd hbw
    by_cases hin : i < xs.length
    case neg =>
      have q1 : ¬ ((i : Int) < (xs.length : Int)) := by omega
      have HRW := Lib.hid HWS.out.range
      go_wp2_with (first
        | (refine wpList_load_midG (by rfl) 25 (.tmp 1) rfl w.heap.size 0 rfl _ _ HRW.out Tryz.underlying25 rfl size24 ?_)
        | (refine wpList_store_row rfl 25 (.tmp 2) (.tmp 34) rfl (w.heap.size + 1) #[.int .i64 c, .int .i64 n, .int .i64 l, .slice Au xs.length ku] rfl rfl 25 #[.int .i64 0, .int .i64 0, .int .i64 0, .slice none 0 0] HWR.out size24 rfl (st_all c n l (v := .slice Au xs.length ku) rfl) ?_)
        | fail)
      refine bodyPost_ret (results_cell_row rfl _ _ (w.heap.size + 1) 25 #[.int .i64 c, .int .i64 n, .int .i64 l, .slice Au xs.length ku] (0, 0) _ rfl (HWR.out.set [.int .i64 c, .int .i64 n, .int .i64 l, .slice Au xs.length ku]) Tryz.underlying25 rfl size24) rfl ?_
      have hgr := grown_row wr (w.heap.size + 1) #[.int .i64 c, .int .i64 n, .int .i64 l, .slice Au xs.length ku]
      have hie : i = zs.length := by have := HZLN.out; omega
      have hoz := HOZ.out
      rw [hie, List.take_length] at hoz
      have hoz2 := hoz.kept hgr (t := 25) HWR.out (by decide) (by decide)
      refine ⟨_, zs, rfl, HZM.out, own_mono (OwnT.kept_ HOT.out hgr (by omega)) (by omega), ⟨fun z hz => ⟨own_mono (hoz2.1 z hz).1 (by omega), own_mono (hoz2.1 z hz).2 (by omega)⟩, hoz2.2⟩, below_setRow HBW.out (by omega) _⟩
    have q1 : (i : Int) < (xs.length : Int) := by omega
    have q2 : (0 : Int) ≤ (i : Int) := by omega
    have hiz : i < zs.length := by have := HZLN.out; omega
    have hot := HOT.out
    rw [show (.slice Au xs.length ku : Value) = .slice Au zs.length ku by rw [HZLN.out]] at hot
    obtain ⟨g, cc, hfm, hgb, hgl, hcl, hcm⟩ := hot.form (by omega)
    injection hfm with e1 _ e3
    subst e1
    subst e3
    have HOT2 := Lib.hid hot
    obtain ⟨z, hz⟩ : ∃ z, z = zs[i] := ⟨_, rfl⟩
    have HRZ := Lib.hid (show ReadT w z by rw [hz]; exact HRD.out i hiz (Nat.le_refl _))
    have HXZ := Lib.hid (show Sized z.1 by
      have h1 : z.1 ∈ xs := by rw [← HZM.out, hz]; exact List.mem_map.2 ⟨_, List.getElem_mem hiz, rfl⟩
      exact HSZD.out _ h1)
    have HRG := Lib.hid (show wr.rangeAt g (i * 10) (tC z) by rw [hz]; exact hot.at_ hiz)
    have HZI := Lib.hid hz
    clear hot hz
    obtain ⟨E, hE⟩ : ∃ E, E = tC z := ⟨_, rfl⟩
    have HE := Lib.hid (show Cub E by rw [hE]; exact Cub.mk_ z.1 (rl_one HRZ.out.1) (rl_one HRZ.out.2))
    have HEE := Lib.hid hE
    have HRG2 := Lib.hid (show wr.rangeAt g (i * 10) E by rw [hE]; exact HRG.out)
    clear hE HRG
    have w3 : wrap64 ((i : Int) + 1) = (i : Int) + 1 := by unfold wrap64; omega
    go_wp2_with (first
      | (refine wpList_load_midG (by rfl) 30 (.tmp 15) rfl g (i * 10) rfl _ _ HRG2.out Tryz.underlying30 rfl HE.out.infoL ?_)
      | (refine wpList_store_row rfl 30 (.tmp 4) (.tmp 16) rfl wr.heap.size E.toArray rfl rfl 30 #[.int .i64 0, .string ⟨#[]⟩, .string ⟨#[]⟩, .string ⟨#[]⟩, .int .i64 0, .int .i64 0, .int .i64 0, .slice none 0 0, .slice none 0 0, .string ⟨#[]⟩] (box_old wr) HE.out.info HE.out.old HE.out.all ?_; rw [box_def])
      | fail)
    obtain ⟨W1, hW1⟩ : ∃ W1, W1 = boxW wr E := ⟨_, rfl⟩
    have hb1 : Below wr.heap.size wr W1 := by rw [hW1]; exact box_below wr E
    have HX1 := Lib.hid (show Wh W1 wr.heap.size E 30 by rw [hW1]; exact box_wh wr E)
    have HB1 := Lib.hid (HBW.out.trans (hb1.mono HBW.out.size))
    have HWS1 := Lib.hid (HWS.out.below hb1)
    have HWR1 := Lib.hid (HWR.out.below hb1)
    have HOT1 := Lib.hid (own_below HOT2.out hb1)
    have HOZ1 := Lib.hid (HOZ.out.below hb1)
    have HL1 := Lib.hid (show W1.heap.size = wr.heap.size + 1 by rw [hW1]; exact box_size wr E)
    rw [← hW1]
    clear hW1 hb1 c3 HWS HWR HOT HOT2 HOZ HBW HRG2
    obtain ⟨ac, hac⟩ : ∃ ac, ac = z.2.1 := ⟨_, rfl⟩
    obtain ⟨qc, hqc⟩ : ∃ qc, qc = z.2.2 := ⟨_, rfl⟩
    have HAC := Lib.hid hac
    have HQC := Lib.hid hqc
    have e7 : E[7]? = some ac := by rw [HEE.out, hac]; rfl
    have e8 : E[8]? = some qc := by rw [HEE.out, hqc]; rfl
    have HC3 := Lib.hid (HWS1.out.cv 3 (v := .slice (some ⟨g, 0, none⟩) xs.length ku) rfl)
    have HC7 := Lib.hid (HX1.out.cv 7 e7)
    have HC8 := Lib.hid (HX1.out.cv 8 e8)
    have HGL := Lib.hid (show w.heap.size + 2 ≤ g ∧ g < wr.heap.size from ⟨hgb, hgl⟩)
    have HIL := Lib.hid hiz
    have HEL := Lib.hid (show zs[i] = (z.1, ac, qc) by rw [hac, hqc, HZI.out]; rfl)
    clear hac hqc e7 e8 HZI
    refine wp_region_held_drew (S := fun X => W1.grownBy X (some g)) (by kernel_rfl) (grown_of_below (SB.b0 (SB.start W1)) _) (fun hHeld => ?_)
    refine tkC 0 ?_
    refine tkA 1 (v := .slice (some ⟨g, 0, none⟩) xs.length ku) ?_ ?_
    · intro W hSw; have hq := hSw.cell HC3.out (by have := HGL.out; simp; omega)
      go_simp; try (with_reducible rfl)
    try simp only [Act.put, zA, zB, zC]
    refine tkC 2 ?_
    refine tkC 3 ?_
    refine tkA 4 (v := ac) ?_ ?_
    · intro W hSw; have hq := hSw.cell HC7.out (by have := HGL.out; simp; omega)
      go_simp; try (with_reducible rfl)
    try simp only [Act.put, zA, zB, zC]
    refine rdA (rs := [5]) (arC (i := 5) fun K hK => ?_)
    go_simp
    refine (cloneI2_any ac z.1.acks _ ?_ ?_).mono ?_
    · rw [HAC.out]
      exact HRZ.out.1.below stays_ci (HB1.out.trans ((SB.b0 (SB.start _)).mono (HB1.out).size))
    · have := HXZ.out.1
      omega
    rintro e w5 ⟨u5, rfl, hu5, hb5⟩
    obtain ⟨A5, c5, rfl, _⟩ := own_shape hu5
    try (go_wp2_with fail)
    have hHeld' := grown_below hHeld hb5
    have hbd := (SB.b0 (SB.start W1)).trans hb5
    refine hK.out _ _ ?_ (fun _ => ?_)
    · exact hHeld'
    clear hK K hHeld
    have hHeld := hHeld'
    clear hHeld'
    try simp only [Act.put, zA, zB, zC]
    refine tkC 6 ?_
    refine tkA 7 (v := .pointer (some ⟨g, i * 10 + 7, none⟩)) ?_ ?_
    · intro W hSw; go_simp; try (with_reducible rfl)
    try simp only [Act.put, zA, zB, zC]
    have hot5 : OwnT w5 (w.heap.size + 2) (.slice (some ⟨g, 0, none⟩) zs.length ku) zs := own_below HOT1.out hbd
    have hoz5 := HOZ1.out.below hbd
    have hf5 := OwnT.fz hot5 (i * 10 + 7)
    have hk5 := OwnT.cv hot5 (i := i) HIL.out 7 (v := ac) ((congrArg (fun y => (tC y)[7]?) HEL.out).trans rfl)
    obtain ⟨hot6, hgr6⟩ := OwnT.cell_ hot5 (i := i) (k := 7) HIL.out (by omega) (.slice A5 z.1.acks.length c5) (z.1, (.slice A5 z.1.acks.length c5), qc) ((congrArg (fun y => (tC y).set 7 (.slice A5 z.1.acks.length c5)) HEL.out).trans rfl)
    refine rdA (rs := [8]) (arC (i := 8) fun K hK => ?_)
    go_simp
    refine hK.out _ _ ?_ (fun _ => ?_)
    · exact grown_more hHeld hgr6
    clear hK K
    try simp only [Act.put, zA, zB, zC]
    refine wpAnyH_done (by kernel_rfl) ?_ _
    obtain ⟨cur5, hcur5⟩ := row_kind hot5 g rfl
    have hS5 : g < w5.heap.size := (Array.getElem?_eq_some_iff.1 hcur5).1
    obtain ⟨W2, hW2⟩ : ∃ W, W = w5.setCell ⟨g, i * 10 + 7, none⟩ (.slice A5 z.1.acks.length c5) := ⟨_, rfl⟩
    have HGB := Lib.hid (show W1.grownBy W2 (some g) by rw [hW2]; exact grown_more hHeld hgr6)
    have HX2 := Lib.hid (show Wh W2 wr.heap.size E 30 by rw [hW2]; exact (HX1.out.below hbd).kept hgr6 (by have := HGL.out; simp; omega))
    have HB2 := Lib.hid (show Below w.heap.size w W2 by rw [hW2]; exact below_grow (HB1.out.trans (hbd.mono HB1.out.size)) hgr6 (fun k h => by cases h; have := HGL.out; omega) (by have := HGL.out; omega))
    have HWS2 := Lib.hid (show Wh W2 w.heap.size _ 25 by rw [hW2]; exact (HWS1.out.below hbd).kept hgr6 (by have := HGL.out; simp; omega))
    have HWR2 := Lib.hid (show Wh W2 (w.heap.size + 1) _ 25 by rw [hW2]; exact (HWR1.out.below hbd).kept hgr6 (by have := HGL.out; simp; omega))
    have HOT2 := Lib.hid (show OwnT W2 (w.heap.size + 2) (.slice (some ⟨g, 0, none⟩) zs.length ku) (zs.set i (z.1, .slice A5 z.1.acks.length c5, qc)) by rw [hW2]; exact hot6)
    have HOZ2 := Lib.hid (show OwnZ (w.heap.size + 2) W2 (zs.take i) by rw [hW2]; exact hoz5.kept hgr6 hcur5 (by decide) (by decide))
    have HOA2 := Lib.hid (show OwnA W2 (w.heap.size + 2) (.slice A5 z.1.acks.length c5) z.1.acks by rw [hW2]; exact own_mono (hu5.kept hgr6 (.inr (own_ne_wh hu5 (t := 30) (cs := cur5.toList) (by unfold Wh; rw [hcur5, Array.toArray_toList]) (by decide)))) (by have := HGL.out; have := HL1.out; show w.heap.size + 2 ≤ W1.drew.heap.size; simp; omega))
    have HL2 := Lib.hid (show W1.heap.size ≤ W2.heap.size by rw [hW2]; have := hbd.size; simpa using this)
    obtain ⟨ua, hua⟩ : ∃ ua : Value, ua = .slice A5 z.1.acks.length c5 := ⟨_, rfl⟩
    rw [← hua] at HOT2 HOA2
    rw [← hW2]
    have HC32 := Lib.hid (HWS2.out.cv 3 (v := .slice (some ⟨g, 0, none⟩) xs.length ku) rfl)
    have HC82 := Lib.hid (HX2.out.cv 8 (v := qc) (by rw [HEE.out, HQC.out]; rfl))
    have HIL2 := Lib.hid (show i < (zs.set i (z.1, ua, qc)).length by rw [List.length_set]; exact HIL.out)
    have HEL2 := Lib.hid (show (zs.set i (z.1, ua, qc))[i]'HIL2.out = (z.1, ua, qc) from List.getElem_set_self _)
    clear hua hW2 hu5 hb5 hbd hot5 hoz5 hf5 hk5 hot6 hgr6 hcur5 hS5 hHeld
    go_wp2_with fail
    refine wp_region_held_drew (S := fun X => W2.grownBy X (some g)) (by kernel_rfl) (grown_of_below (SB.b0 (SB.start W2)) _) (fun hHeld => ?_)
    refine tkC 0 ?_
    refine tkA 1 (v := .slice (some ⟨g, 0, none⟩) xs.length ku) ?_ ?_
    · intro W hSw; have hq := hSw.cell HC32.out (by have := HGL.out; simp; omega)
      go_simp; try (with_reducible rfl)
    try simp only [Act.put, zA, zB, zC]
    refine tkC 2 ?_
    refine tkC 3 ?_
    refine tkA 4 (v := qc) ?_ ?_
    · intro W hSw; have hq := hSw.cell HC82.out (by have := HGL.out; simp; omega)
      go_simp; try (with_reducible rfl)
    try simp only [Act.put, zA, zB, zC]
    refine rdA (rs := [5]) (arC (i := 5) fun K hK => ?_)
    go_simp
    refine (cloneM2_any qc z.1.queue _ ?_ ?_).mono ?_
    · rw [HQC.out]
      exact HRZ.out.2.below stays_cm (HB2.out.trans ((SB.b0 (SB.start _)).mono (HB2.out).size))
    · have := HXZ.out.2
      omega
    rintro e w5 ⟨u5, rfl, hu5, hb5⟩
    obtain ⟨A5, c5, rfl, _⟩ := own_shape hu5
    try (go_wp2_with fail)
    have hHeld' := grown_below hHeld hb5
    have hbd := (SB.b0 (SB.start W2)).trans hb5
    refine hK.out _ _ ?_ (fun _ => ?_)
    · exact hHeld'
    clear hK K hHeld
    have hHeld := hHeld'
    clear hHeld'
    try simp only [Act.put, zA, zB, zC]
    refine tkC 6 ?_
    refine tkA 7 (v := .pointer (some ⟨g, i * 10 + 8, none⟩)) ?_ ?_
    · intro W hSw; go_simp; try (with_reducible rfl)
    try simp only [Act.put, zA, zB, zC]
    have hot5 : OwnT w5 (w.heap.size + 2) (.slice (some ⟨g, 0, none⟩) zs.length ku) (zs.set i (z.1, ua, qc)) := own_below HOT2.out hbd
    have hoz5 := HOZ2.out.below hbd
    have hf5 := OwnT.fz hot5 (i * 10 + 8)
    have hk5 := OwnT.cv hot5 (i := i) HIL2.out 8 (v := qc) ((congrArg (fun y => (tC y)[8]?) HEL2.out).trans rfl)
    obtain ⟨hot6, hgr6⟩ := OwnT.cell_ hot5 (i := i) (k := 8) HIL2.out (by omega) (.slice A5 z.1.queue.length c5) (z.1, ua, (.slice A5 z.1.queue.length c5)) ((congrArg (fun y => (tC y).set 8 (.slice A5 z.1.queue.length c5)) HEL2.out).trans rfl)
    refine rdA (rs := [8]) (arC (i := 8) fun K hK => ?_)
    go_simp
    refine hK.out _ _ ?_ (fun _ => ?_)
    · exact grown_more hHeld hgr6
    clear hK K
    try simp only [Act.put, zA, zB, zC]
    refine wpAnyH_done (by kernel_rfl) ?_ _
    obtain ⟨cur5, hcur5⟩ := row_kind hot5 g rfl
    have hS5 : g < w5.heap.size := (Array.getElem?_eq_some_iff.1 hcur5).1
    obtain ⟨W3, hW3⟩ : ∃ W, W = w5.setCell ⟨g, i * 10 + 8, none⟩ (.slice A5 z.1.queue.length c5) := ⟨_, rfl⟩
    have hgb3 : W1.grownBy W3 (some g) := grown_more HGB.out (by rw [hW3]; exact grown_more hHeld hgr6)
    have hb3 : Below w.heap.size w W3 := by rw [hW3]; exact below_grow (HB2.out.trans (hbd.mono HB2.out.size)) hgr6 (fun k h => by cases h; have := HGL.out; omega) (by have := HGL.out; have := HL1.out; have := HL2.out; have := hbd.size; omega)
    have hws3 : Wh W3 w.heap.size [.int .i64 c, .int .i64 n, .int .i64 l, .slice (some ⟨g, 0, none⟩) xs.length ku] 25 := HWS1.out.kept hgb3 (by have := HGL.out; simp; omega)
    have hwr3 : Wh W3 (w.heap.size + 1) [.int .i64 0, .int .i64 0, .int .i64 0, .slice none 0 0] 25 := HWR1.out.kept hgb3 (by have := HGL.out; simp; omega)
    rw [List.set_set] at hot6
    have hot3 : OwnT W3 (w.heap.size + 2) (.slice (some ⟨g, 0, none⟩) xs.length ku) (zs.set i (z.1, ua, .slice A5 z.1.queue.length c5)) := by rw [hW3]; rw [HZLN.out] at hot6; exact hot6
    have hoz3 : OwnZ (w.heap.size + 2) W3 (zs.take i) := by rw [hW3]; exact hoz5.kept hgr6 hcur5 (by decide) (by decide)
    have hwk : Wh w5 g cur5.toList 30 := by unfold Wh; rw [hcur5, Array.toArray_toList]
    have hoa3 : OwnA W3 (w.heap.size + 2) ua z.1.acks := by
      rw [hW3]
      have h1 := own_below HOA2.out hbd
      exact h1.kept hgr6 (.inr (own_ne_wh h1 hwk (by decide)))
    have hoq3 : OwnQ W3 (w.heap.size + 2) (.slice A5 z.1.queue.length c5) z.1.queue := by
      rw [hW3]
      exact own_mono (hu5.kept hgr6 (.inr (own_ne_wh hu5 hwk (by decide)))) (by have := HGL.out; have := HL1.out; have := HL2.out; show w.heap.size + 2 ≤ W2.drew.heap.size; simp; omega)
    have hap : ∀ y ∈ zs.take i, (Value.slice A5 z.1.queue.length c5).ownBlock = none ∨ (Value.slice A5 z.1.queue.length c5).ownBlock ≠ y.2.2.ownBlock := fun y hy => by
      cases hv : (Value.slice A5 z.1.queue.length c5).ownBlock with
      | none => exact .inl rfl
      | some k =>
        refine .inr fun h => ?_
        have h1 := (hu5.lt k hv).1
        have h2 := ((HOZ2.out.1 y hy).2.lt k h.symm).2
        have h3 : W2.drew.heap.size = W2.heap.size := by simp
        omega
    have hozz : OwnZ (w.heap.size + 2) W3 ((zs.set i (z.1, ua, .slice A5 z.1.queue.length c5)).take (i + 1)) := by
      rw [take_set HIL.out]
      exact hoz3.more hoa3 hoq3 hap
    have hmap : (zs.set i (z.1, ua, .slice A5 z.1.queue.length c5)).map (·.1) = xs := (map_set HIL.out (z.1, ua, .slice A5 z.1.queue.length c5) (congrArg Prod.fst HEL.out).symm).trans HZM.out
    have hrdn : ∀ j (h : j < (zs.set i (z.1, ua, Value.slice A5 z.1.queue.length c5)).length), i + 1 ≤ j → ReadT w ((zs.set i (z.1, ua, Value.slice A5 z.1.queue.length c5))[j]) := fun j h hj => by
      rw [List.getElem_set_ne (by omega)]
      exact HRD.out j (by simpa using h) (by omega)
    rw [← hW3]
    have H1 := Lib.hid hws3
    have H2 := Lib.hid hwr3
    have H3 := Lib.hid hot3
    have H4 := Lib.hid hozz
    have H5 := Lib.hid hmap
    have H6 := Lib.hid hrdn
    have H7 := Lib.hid hb3
    have H8 := Lib.hid (show (zs.set i (z.1, ua, Value.slice A5 z.1.queue.length c5)).length = xs.length by rw [List.length_set]; exact HZLN.out)
    clear hws3 hwr3 hot3 hozz hmap hrdn hb3 hW3 hgb3 hoz3 hwk hoa3 hoq3 hap hu5 hb5 hbd hot5 hoz5 hf5 hk5 hot6 hgr6 hcur5 hS5 hHeld
    go_wp2_with fail
    go_roundw
    case rel => exact ⟨i + 1, _, by have := H8.out; omega, by go_num, H8.out, H5.out, H1.out, H2.out, H3.out, H4.out, H6.out, H7.out⟩
    case measure => simp [intOf]; omega
end Go.Proofs.YtodckdkbheapfaaGreat
