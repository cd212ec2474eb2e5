/-
  The contract of the program's Find (layer state).
-/
import Derived.Test.YtcmkmdghekkkhaaDoorPsIdx
import Derived.Test.YtcmkmdghekkkhaaDoorPsClone
import Derived.Test.YtcmkmdghekkkhaaDoorRg
import Derived.Test.YtcmkmdghekkkhaaDoorTsFindM
set_option linter.unusedVariables false
namespace Go.Proofs.YtcmkmdghekkkhaaDoor
open Go.RowKit Go.Rst Go.Tp Go.Ts
theorem idx_find {xs : List Sub} {id : Int} {k : Nat} (hk : k < xs.length) (h1 : (xs[k].id == id) = true) (h2 : ∀ j (hj : j < xs.length), j < k → (xs[j].id == id) = false) : findS xs id = some xs[k] :=
  find_drop hk (fun j hj hjk => by simpa using h2 j hj hjk) (by simpa using h1)
theorem idx_nofind {xs : List Sub} {id : Int} (h : ∀ j (hj : j < xs.length), (xs[j].id == id) = false) : findS xs id = none := find_none (fun j hj => by simpa using h j hj)
set_option maxRecDepth 100000 in
set_option maxHeartbeats 8000000 in
theorem findP_any (c n l : Int) (v : Value) (xs : List Sub) (id : Int) (w : World) (h : RS w v xs) (hz : ∀ x ∈ xs, Sized x) : Calls Tryd.prog 15 #[.agg (stC c n l v).toArray, .int .i64 id] w (GivesF w (findS xs id)) := by
  have HV := Lib.hid h
  have HZS := Lib.hid hz
  obtain ⟨A, ca, rfl, hac, ham⟩ := h.shape
  unfold maxLen at ham
  clear h hz
  generalize hr : findS xs id = r
  have HR := Lib.hid hr
  clear hr
  unfold stC
  obtain ⟨Z, hZ⟩ : ∃ Z : List Value, Z = [.int .i64 0, .string ⟨#[]⟩, .string ⟨#[]⟩, .string ⟨#[]⟩, .int .i64 0, .int .i64 0, .int .i64 0, .slice none 0 0, .slice none 0 0, .string ⟨#[]⟩] := ⟨_, rfl⟩
  obtain ⟨W0, hW0⟩ : ∃ W0, W0 = (w.alloc (.cells #[.int .i64 c, .int .i64 n, .int .i64 l, .slice A xs.length ca] 24)).alloc (.cells Z.toArray 35) := ⟨_, rfl⟩
  have hst : Wh W0 w.heap.size [.int .i64 c, .int .i64 n, .int .i64 l, .slice A xs.length ca] 24 := by rw [hW0]; exact (Wh.new w _ _).alloc _
  have hzr : Wh W0 (w.heap.size + 1) Z 35 := by
    have := Wh.new (w.alloc (.cells #[.int .i64 c, .int .i64 n, .int .i64 l, .slice A xs.length ca] 24)) Z 35
    rw [World.size_alloc] at this
    rw [hW0]; exact this
  have hbl : Below w.heap.size w W0 := by rw [hW0]; exact below_two w _ _ _ _
  have hsz : W0.heap.size = w.heap.size + 2 := by rw [hW0]; simp
  have HZL := Lib.hid (show Z.toArray.size = 10 by rw [hZ]; rfl)
  rw [hZ] at hW0
  have HST := Lib.hid hst
  have HZR := Lib.hid hzr
  have HBL := Lib.hid hbl
  have HSZ := Lib.hid hsz
  have c3 := hst.bx.cell (i := 3) (by simp)
  simp only [List.getElem_cons_succ, List.getElem_cons_zero] at c3
  have hl3 := hst.lt
  clear hst hzr hbl hsz hZ
  go_enter Tryd.func15, Tryd.ntmps15
  go_wp2_with fail
  rw [← hW0]
  clear hW0
  refine wp_region_held_drew (S := SB [W0]) (by kernel_rfl) (SB.start _) (fun hHeld => ?_)
  refine tkC 0 ?_
  refine tkA 1 (v := ?_) ?_ ?_
  rotate_left
  · intro W hSw; have hq := (SB.b0 hSw).cell (p := ⟨w.heap.size, 3, none⟩) hl3 |>.trans c3; go_simp; try (with_reducible rfl)
  try simp only [Act.put, zA, zB, zC]
  refine tkC 2 ?_
  refine rdA (rs := [3]) (arC (i := 3) fun K hK => ?_)
  go_simp
  refine (of_any id _).mono ?_
  rintro e w3 ⟨b, rfl, hcell, hblt, hbw3⟩
  try (go_wp2_with fail)
  have hHeld' := SB.step hHeld hbw3
  refine hK.out _ _ ?_ (fun _ => ?_)
  · exact hHeld'
  clear hK K hHeld
  try simp only [Act.put, zA, zB, zC]
  refine rdA (rs := [4]) (arC (i := 4) fun K hK => ?_)
  go_simp
  refine (idx_of _ xs b id w3 (HV.out.below stays_cs (HBL.out.trans ((SB.b0 hHeld').mono HBL.out.size))) hcell).mono ?_
  rintro e w4 ⟨r4, rfl, hix, hbw4⟩
  try (go_wp2_with fail)
  have hHeld := SB.step hHeld' hbw4
  refine hK.out _ _ ?_ (fun _ => ?_)
  · exact hHeld
  clear hK K hHeld'
  try simp only [Act.put, zA, zB, zC]
  refine tkC 5 ?_
  refine wpAnyH_done (by kernel_rfl) ?_ _
  have hb0 := SB.b0 hHeld
  have hbt := HBL.out.trans (hb0.mono HBL.out.size)
  have hst4 := HST.out.below hb0
  have hzr4 := HZR.out.below hb0
  have c34 := hst4.bx.cell (i := 3) (by simp)
  simp only [List.getElem_cons_succ, List.getElem_cons_zero] at c34
  have HST4 := Lib.hid hst4
  have HZR4 := Lib.hid hzr4
  have HBT := Lib.hid hbt
  clear hHeld hbw3 hbw4 hcell hblt c3 hl3 hst4 hzr4 hb0 hbt HST HZR
  rcases hix with ⟨k, hk, rfl, hp, hall⟩ | ⟨rfl, hall⟩
  · have HE := Lib.hid ((idx_find hk hp hall).symm.trans HR.out)
    obtain ⟨g, off, av, qv, rfl, hg, hrg0, hra, hrq⟩ := rs_at HV.out hk
    have hrg := range_below hrg0 hg HBT.out
    have HCO := Lib.hid (own_any xs[k] av qv w4 (hra.below stays_ci HBT.out) (hrq.below stays_cm HBT.out) (HZS.out _ (List.getElem_mem hk)))
    obtain ⟨x, hx⟩ : ∃ x, x = xs[k] := ⟨_, rfl⟩
    rw [← hx] at hrg HE HCO
    have HRG := Lib.hid hrg
    have q1 : ¬ ((k : Int) < 0) := by omega
    have q2 : (k : Int) < (xs.length : Int) := by omega
    clear hx hrg hrg0 hra hrq hp hall
    go_wp2_with (first
      | (refine wpList_load_midG (by rfl) 35 (.tmp 18) rfl g (off + k * 10) rfl _ _ HRG.out Tryd.underlying35 rfl size35 ?_)
      | fail)
    refine HCO.out.mono ?_
    rintro e w5 ⟨cs, rfl, hcn, hb5⟩
    have hcs0 := cs_len hcn.cs
    obtain ⟨a5, q5, rfl, hra5, hrq5⟩ := hcn
    have hall5 := sub_all x (rl_one hra5.rl) (rl_one hrq5.rl)
    obtain ⟨A5, k5, rfl, _⟩ := hra5.rl.shape
    obtain ⟨Q5, j5, rfl, _⟩ := hrq5.rl.shape
    have hzr5 := HZR4.out.below hb5
    have HB5 := Lib.hid (HBT.out.trans (hb5.mono HBT.out.size))
    have HZR5 := Lib.hid hzr5
    have HRA5 := Lib.hid hra5
    have HRQ5 := Lib.hid hrq5
    have HA5 := Lib.hid hall5
    clear hb5 hzr5 hra5 hrq5 hall5 hcs0
    obtain ⟨xid, name, topic, want, lease, most, floor, acks, queue, note⟩ := x
    simp only [subC] at HA5 HE ⊢
    go_wp2_with (refine wpList_store_row rfl 35 (.tmp 4) (.tmp 20) rfl (w.heap.size + 1) #[.int .i64 xid, sv name, sv topic, sv want, .int .i64 lease, .int .i64 most, .int .i64 floor, .slice A5 acks.length k5, .slice Q5 queue.length j5, sv note] rfl rfl 35 Z.toArray HZR5.out size35 HZL.out HA5.out ?_)
    refine bodyPost_ret (results_row_tmp rfl _ _ (w.heap.size + 1) [.int .i64 xid, sv name, sv topic, sv want, .int .i64 lease, .int .i64 most, .int .i64 floor, .slice A5 acks.length k5, .slice Q5 queue.length j5, sv note] rfl (HZR5.out.set [.int .i64 xid, sv name, sv topic, sv want, .int .i64 lease, .int .i64 most, .int .i64 floor, .slice A5 acks.length k5, .slice Q5 queue.length j5, sv note]) Tryd.underlying35 rfl size35) rfl ?_
    rw [← HE.out]
    have hgr := grown_row w5 (w.heap.size + 1) #[.int .i64 xid, sv name, sv topic, sv want, .int .i64 lease, .int .i64 most, .int .i64 floor, .slice A5 acks.length k5, .slice Q5 queue.length j5, sv note]
    refine ⟨_, _, rfl, (HRA5.out.grown fixed_ci hgr (fun g e => by cases e; exact ⟨_, _, HZR5.out, by decide⟩)).rl, (HRQ5.out.grown fixed_cm hgr (fun g e => by cases e; exact ⟨_, _, HZR5.out, by decide⟩)).rl, below_setRow HB5.out (by omega) _⟩
  · have HE := Lib.hid ((idx_nofind hall).symm.trans HR.out)
    clear hall
    go_wp2_with (refine wpList_store_row rfl 35 (.tmp 4) (.tmp 14) rfl (w.heap.size + 1) #[.int .i64 0, .string ⟨#[]⟩, .string ⟨#[]⟩, .string ⟨#[]⟩, .int .i64 0, .int .i64 0, .int .i64 0, .slice none 0 0, .slice none 0 0, .string ⟨#[]⟩] rfl rfl 35 Z.toArray HZR4.out size35 HZL.out (sub_all noSub (av := .slice none 0 0) (qv := .slice none 0 0) rfl rfl) ?_)
    refine bodyPost_ret (results_row_tmp rfl _ _ (w.heap.size + 1) [.int .i64 0, .string ⟨#[]⟩, .string ⟨#[]⟩, .string ⟨#[]⟩, .int .i64 0, .int .i64 0, .int .i64 0, .slice none 0 0, .slice none 0 0, .string ⟨#[]⟩] rfl (HZR4.out.set [.int .i64 0, .string ⟨#[]⟩, .string ⟨#[]⟩, .string ⟨#[]⟩, .int .i64 0, .int .i64 0, .int .i64 0, .slice none 0 0, .slice none 0 0, .string ⟨#[]⟩]) Tryd.underlying35 rfl size35) rfl ?_
    rw [← HE.out]
    exact ⟨.slice none 0 0, .slice none 0 0, rfl, RL.nil_ _ _ _ (by decide), RL.nil_ _ _ _ (by decide), below_setRow HBT.out (by omega) _⟩
end Go.Proofs.YtcmkmdghekkkhaaDoor
