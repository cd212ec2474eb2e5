/-
  The contract of the document's own Right (layer state).
-/
import Derived.Test.YtcmkmdghekkkhaaDoorKRBF
import Derived.Laws.StructEq
set_option linter.unusedVariables false
set_option linter.unusedVariables false
namespace Go.Ts
theorem subsB_drop {s : St} {last : Int} {l : List Sub} {k : Nat} (hk : k < l.length) : subsB s last (l.drop k) = (decide (last < l[k].id) && decide (l[k].id ≤ s.last) && goodB l[k] s.clock s.next && subsB s l[k].id (l.drop (k + 1))) := by
  rw [List.drop_eq_getElem_cons hk, subsB]
structure SubOk (x : Sub) : Prop where
  name : x.name.length ≤ 140737488351232
  topic : x.topic.length ≤ 1000000
  want : x.want.length ≤ 1000000
  attr : ∀ m ∈ x.queue, m.attr.length ≤ 1000000
end Go.Ts
namespace Go.Proofs.YtcmkmdghekkkhaaDoor
open Go.RowKit Go.Rst Go.Tp Go.Ts
set_option maxRecDepth 100000 in
set_option maxHeartbeats 8000000 in
theorem stRight_any (c n l : Int) (v : Value) (xs : List Sub) (w : World) (h : RS w v xs) (hok : ∀ x ∈ xs, SubOk x) :
    Calls Tryd.prog 29 #[.agg (stC c n l v).toArray] w fun e w' => e = .returned (.bool (stB ⟨c, n, l, xs⟩)) ∧ Below w.heap.size w w' := by
  obtain ⟨A1, k1, rfl, _, h1⟩ := h.shape
  unfold maxLen at h1
  obtain ⟨r, hr0⟩ : ∃ r, stB ⟨c, n, l, xs⟩ = r := ⟨_, rfl⟩
  rw [hr0]
  have HR0 := Lib.hid hr0
  clear hr0
  simp only [stC]
  have HA := Lib.hid h
  have HOK := Lib.hid hok
  clear h hok
  have HBT := Lib.hid ((Below.refl _ w).alloc (Nat.le_refl _) (.cells #[.int .i64 c, .int .i64 n, .int .i64 l, .slice A1 xs.length k1] 24))
  by_cases g0 : c < 0
  · have HE := Lib.hid (show r = false by rw [← HR0.out]; unfold stB; rw [decide_eq_false (show ¬ 0 ≤ c by omega)]; simp)
    go_enter Tryd.func29, Tryd.ntmps29
    go_wp2
    go_ret
    exact ⟨by rw [HE.out]; rfl, HBT.out⟩
  by_cases g1 : 4503599627370496 < c
  · have HE := Lib.hid (show r = false by rw [← HR0.out]; unfold stB; rw [decide_eq_false (show ¬ c ≤ 4503599627370496 by omega)]; simp)
    go_enter Tryd.func29, Tryd.ntmps29
    go_wp2
    go_ret
    exact ⟨by rw [HE.out]; rfl, HBT.out⟩
  by_cases g2 : n < 1
  · have HE := Lib.hid (show r = false by rw [← HR0.out]; unfold stB; rw [decide_eq_false (show ¬ 1 ≤ n by omega)]; simp)
    go_enter Tryd.func29, Tryd.ntmps29
    go_wp2
    go_ret
    exact ⟨by rw [HE.out]; rfl, HBT.out⟩
  by_cases g3 : 1073741824 < n
  · have HE := Lib.hid (show r = false by rw [← HR0.out]; unfold stB; rw [decide_eq_false (show ¬ n ≤ 1073741824 by omega)]; simp)
    go_enter Tryd.func29, Tryd.ntmps29
    go_wp2
    go_ret
    exact ⟨by rw [HE.out]; rfl, HBT.out⟩
  by_cases g4 : l < 0
  · have HE := Lib.hid (show r = false by rw [← HR0.out]; unfold stB; rw [decide_eq_false (show ¬ 0 ≤ l by omega)]; simp)
    go_enter Tryd.func29, Tryd.ntmps29
    go_wp2
    go_ret
    exact ⟨by rw [HE.out]; rfl, HBT.out⟩
  by_cases g5 : 1073741824 < l
  · have HE := Lib.hid (show r = false by rw [← HR0.out]; unfold stB; rw [decide_eq_false (show ¬ l ≤ 1073741824 by omega)]; simp)
    go_enter Tryd.func29, Tryd.ntmps29
    go_wp2
    go_ret
    exact ⟨by rw [HE.out]; rfl, HBT.out⟩
  by_cases g6 : (20 : Int) < (xs.length : Int)
  · have HE := Lib.hid (show r = false by rw [← HR0.out]; unfold stB; rw [decide_eq_false (show ¬ xs.length ≤ 20 by omega)]; simp)
    go_enter Tryd.func29, Tryd.ntmps29
    go_wp2
    go_ret
    exact ⟨by rw [HE.out]; rfl, HBT.out⟩
  have HST0 := Lib.hid (show stB ⟨c, n, l, xs⟩ = subsB ⟨c, n, l, xs⟩ 0 xs by
    unfold stB
    rw [decide_eq_true (show 0 ≤ c by omega), decide_eq_true (show c ≤ 4503599627370496 by omega), decide_eq_true (show 1 ≤ n by omega), decide_eq_true (show n ≤ 1073741824 by omega), decide_eq_true (show 0 ≤ l by omega), decide_eq_true (show l ≤ 1073741824 by omega), decide_eq_true (show xs.length ≤ 20 by omega)]
    simp)
  obtain ⟨W0, hW0⟩ : ∃ W0, W0 = w.alloc (.cells #[.int .i64 c, .int .i64 n, .int .i64 l, .slice A1 xs.length k1] 24) := ⟨_, rfl⟩
  have hx0 : Wh W0 w.heap.size [.int .i64 c, .int .i64 n, .int .i64 l, .slice A1 xs.length k1] 24 := by rw [hW0]; exact Wh.new w _ _
  rw [← hW0] at HBT
  have HX0 := Lib.hid hx0
  have hlen : xs.length ≤ 20 := by omega
  clear hx0
  go_enter Tryd.func29, Tryd.ntmps29
  go_wp2_with fail
  rw [← hW0]
  clear hW0 g0 g1 g2 g3 g4 g5 g6
  go_loopw [3, 4] (fun la i wr => ∃ (k : Nat) (last : Int), k ≤ xs.length ∧ i = .int .i64 k ∧ la = .int .i64 last ∧ subsB ⟨c, n, l, xs⟩ 0 xs = subsB ⟨c, n, l, xs⟩ last (xs.drop k) ∧ Below W0.heap.size W0 wr) (fun _ i _ => xs.length - (intOf i).toNat)
  case atStart => exact ⟨0, 0, Nat.zero_le _, rfl, rfl, rfl, Below.refl _ _⟩
  case round =>
    obtain ⟨k, last, hk, rfl, rfl, hal, hbel⟩ := hrel
    have hbw := HBT.out.trans (hbel.mono HBT.out.size)
    have HBW := Lib.hid hbw
    have HAL := Lib.hid hal
    have HBL := Lib.hid hbel
    have hxw := HX0.out.below hbel
    have c0 := hxw.bx.cell (i := 0) (by simp)
    have c1 := hxw.bx.cell (i := 1) (by simp)
    have c2 := hxw.bx.cell (i := 2) (by simp)
    have c3 := hxw.bx.cell (i := 3) (by simp)
    simp only [List.getElem_cons_succ, List.getElem_cons_zero] at c0 c1 c2 c3
    have hl3 := hxw.lt
    clear hbel hal hxw hbw
    by_cases hlt : k < xs.length
    · obtain ⟨b1, o1, av, qv, rfl, hb1, hr1, ha1, hq1⟩ := rs_at HA.out hlt
      have hg1 := range_below hr1 hb1 HBW.out
      have hl1 : b1 < wr.heap.size := Nat.lt_of_lt_of_le hb1 HBW.out.size
      have hst := subsB_drop (s := ⟨c, n, l, xs⟩) (last := last) hlt
      have hok := HOK.out _ (List.getElem_mem hlt)
      obtain ⟨m, hm⟩ : ∃ m, m = xs[k] := ⟨_, rfl⟩
      rw [← hm] at hg1 ha1 hq1 hst hok
      have q1 : (k : Int) < (xs.length : Int) := by omega
      have hs := fun (W : World) (hW : Below w.heap.size w W) => good_any m av qv c n hok.name hok.topic hok.want hok.attr W (ha1.below stays_ci hW) (hq1.below stays_cm hW)
      have ci := hg1 0 (.int .i64 m.id) rfl
      rw [Nat.add_zero] at ci
      clear hr1 hm hb1 ha1 hq1 hok
      have HSD := Lib.hid hst
      obtain ⟨gb, hgb⟩ : ∃ gb, gb = goodB m c n := ⟨_, rfl⟩
      simp only [← hgb] at hs
      have HGB := Lib.hid hgb
      clear hst hgb
      obtain ⟨id, name, topic, want, lease, most, floor, acks, queue, note⟩ := m
      simp only [subC] at hg1 hs ci
      have HR1 := Lib.hid hg1
      clear hg1
      by_cases g1 : id ≤ last
      · have HE := Lib.hid (show r = false by rw [← HR0.out, HST0.out, HAL.out, HSD.out, decide_eq_false (show ¬ last < id by omega)]; simp)
        clear hs
        go_wp2_with fail
        refine wp_region_held_drew (S := SB [wr]) (by kernel_rfl) (SB.start _) (fun hHeld => ?_)
        refine tkC 0 ?_
        refine tkA 1 (v := ?_) ?_ ?_
        rotate_left
        · intro W hSw; have hq := (SB.b0 hSw).cell (p := ⟨w.heap.size, 3, none⟩) hl3 |>.trans c3; go_simp; try (with_reducible rfl)
        try simp only [Act.put, zA, zB, zC]
        refine tkC 2 ?_
        refine tkC 3 ?_
        refine tkC 4 ?_
        refine tkA 5 (v := ?_) ?_ ?_
        rotate_left
        · intro W hSw; have hq := (SB.b0 hSw).cell (p := ⟨b1, o1 + k * 10, none⟩) hl1 |>.trans ci; go_simp; try (with_reducible rfl)
        try simp only [Act.put, zA, zB, zC]
        refine tkC 6 ?_
        refine tkA 7 (v := .bool true) ?_ ?_
        · intro W hSw; go_simp; first | done | assumption | omega | (simp; omega)
        try simp only [Act.put, zA, zB, zC]
        refine tkC 8 ?_
        refine tkB 9 ?_
        refine tkB 10 ?_
        refine tkB 11 ?_
        refine tkB 12 ?_
        refine tkB 13 ?_
        refine tkB 14 ?_
        refine tkB 15 ?_
        refine tkB 16 ?_
        refine tkB 17 ?_
        refine tkC 18 ?_
        refine tkC 19 ?_
        refine tkB 20 ?_
        refine tkB 21 ?_
        refine tkB 22 ?_
        refine tkB 23 ?_
        refine tkB 24 ?_
        refine tkB 25 ?_
        refine tkB 26 ?_
        refine tkB 27 ?_
        refine tkB 28 ?_
        refine tkB 29 ?_
        refine tkB 30 ?_
        refine tkC 31 ?_
        refine wpAnyH_done (by kernel_rfl) ?_ _
        obtain ⟨w3, hw3⟩ : ∃ w3, w3 = wr.drew := ⟨_, rfl⟩
        have hbd : Below wr.heap.size wr w3 := by rw [hw3]; exact (Below.refl _ wr).drew
        rw [← hw3]
        clear hHeld hw3
        have HBD := Lib.hid (HBW.out.trans (hbd.mono HBW.out.size))
        have HBE := Lib.hid (HBL.out.trans (hbd.mono HBL.out.size))
        have c3d := (hbd.cell (p := ⟨w.heap.size, 3, none⟩) hl3).trans c3
        have cid := (hbd.cell (p := ⟨b1, o1 + k * 10, none⟩) hl1).trans ci
        clear hbd c0 c1 c2 c3 ci
        go_wp2
        go_ret
        exact ⟨by rw [HE.out]; rfl, HBD.out⟩
      by_cases g2 : l < id
      · have HE := Lib.hid (show r = false by rw [← HR0.out, HST0.out, HAL.out, HSD.out, decide_eq_false (show ¬ id ≤ l by omega)]; simp)
        clear hs
        go_wp2_with fail
        refine wp_region_held_drew (S := SB [wr]) (by kernel_rfl) (SB.start _) (fun hHeld => ?_)
        refine tkC 0 ?_
        refine tkA 1 (v := ?_) ?_ ?_
        rotate_left
        · intro W hSw; have hq := (SB.b0 hSw).cell (p := ⟨w.heap.size, 3, none⟩) hl3 |>.trans c3; go_simp; try (with_reducible rfl)
        try simp only [Act.put, zA, zB, zC]
        refine tkC 2 ?_
        refine tkC 3 ?_
        refine tkC 4 ?_
        refine tkA 5 (v := ?_) ?_ ?_
        rotate_left
        · intro W hSw; have hq := (SB.b0 hSw).cell (p := ⟨b1, o1 + k * 10, none⟩) hl1 |>.trans ci; go_simp; try (with_reducible rfl)
        try simp only [Act.put, zA, zB, zC]
        refine tkC 6 ?_
        refine tkA 7 (v := .bool false) ?_ ?_
        · intro W hSw; go_simp; first | done | assumption | omega | (simp; omega)
        try simp only [Act.put, zA, zB, zC]
        refine tkC 8 ?_
        refine tkC 9 ?_
        refine tkA 10 (v := ?_) ?_ ?_
        rotate_left
        · intro W hSw; have hq := (SB.b0 hSw).cell (p := ⟨w.heap.size, 3, none⟩) hl3 |>.trans c3; go_simp; try (with_reducible rfl)
        try simp only [Act.put, zA, zB, zC]
        refine tkC 11 ?_
        refine tkC 12 ?_
        refine tkC 13 ?_
        refine tkA 14 (v := ?_) ?_ ?_
        rotate_left
        · intro W hSw; have hq := (SB.b0 hSw).cell (p := ⟨b1, o1 + k * 10, none⟩) hl1 |>.trans ci; go_simp; try (with_reducible rfl)
        try simp only [Act.put, zA, zB, zC]
        refine tkC 15 ?_
        refine tkA 16 (v := ?_) ?_ ?_
        rotate_left
        · intro W hSw; have hq := (SB.b0 hSw).cell (p := ⟨w.heap.size, 2, none⟩) hl3 |>.trans c2; go_simp; try (with_reducible rfl)
        try simp only [Act.put, zA, zB, zC]
        refine tkA 17 (v := .bool true) ?_ ?_
        · intro W hSw; go_simp; first | done | assumption | omega | (simp; omega)
        try simp only [Act.put, zA, zB, zC]
        refine tkC 18 ?_
        refine tkC 19 ?_
        refine tkB 20 ?_
        refine tkB 21 ?_
        refine tkB 22 ?_
        refine tkB 23 ?_
        refine tkB 24 ?_
        refine tkB 25 ?_
        refine tkB 26 ?_
        refine tkB 27 ?_
        refine tkB 28 ?_
        refine tkB 29 ?_
        refine tkB 30 ?_
        refine tkC 31 ?_
        refine wpAnyH_done (by kernel_rfl) ?_ _
        obtain ⟨w3, hw3⟩ : ∃ w3, w3 = wr.drew := ⟨_, rfl⟩
        have hbd : Below wr.heap.size wr w3 := by rw [hw3]; exact (Below.refl _ wr).drew
        rw [← hw3]
        clear hHeld hw3
        have HBD := Lib.hid (HBW.out.trans (hbd.mono HBW.out.size))
        have HBE := Lib.hid (HBL.out.trans (hbd.mono HBL.out.size))
        have c3d := (hbd.cell (p := ⟨w.heap.size, 3, none⟩) hl3).trans c3
        have cid := (hbd.cell (p := ⟨b1, o1 + k * 10, none⟩) hl1).trans ci
        clear hbd c0 c1 c2 c3 ci
        go_wp2
        go_ret
        exact ⟨by rw [HE.out]; rfl, HBD.out⟩
      cases gb with
      | false =>
        have HE := Lib.hid (show r = false by rw [← HR0.out, HST0.out, HAL.out, HSD.out, ← HGB.out]; simp)
        have HS := Lib.hid hs
        clear hs
        go_wp2_with fail
        refine wp_region_held_drew (S := SB [wr]) (by kernel_rfl) (SB.start _) (fun hHeld => ?_)
        refine tkC 0 ?_
        refine tkA 1 (v := ?_) ?_ ?_
        rotate_left
        · intro W hSw; have hq := (SB.b0 hSw).cell (p := ⟨w.heap.size, 3, none⟩) hl3 |>.trans c3; go_simp; try (with_reducible rfl)
        try simp only [Act.put, zA, zB, zC]
        refine tkC 2 ?_
        refine tkC 3 ?_
        refine tkC 4 ?_
        refine tkA 5 (v := ?_) ?_ ?_
        rotate_left
        · intro W hSw; have hq := (SB.b0 hSw).cell (p := ⟨b1, o1 + k * 10, none⟩) hl1 |>.trans ci; go_simp; try (with_reducible rfl)
        try simp only [Act.put, zA, zB, zC]
        refine tkC 6 ?_
        refine tkA 7 (v := .bool false) ?_ ?_
        · intro W hSw; go_simp; first | done | assumption | omega | (simp; omega)
        try simp only [Act.put, zA, zB, zC]
        refine tkC 8 ?_
        refine tkC 9 ?_
        refine tkA 10 (v := ?_) ?_ ?_
        rotate_left
        · intro W hSw; have hq := (SB.b0 hSw).cell (p := ⟨w.heap.size, 3, none⟩) hl3 |>.trans c3; go_simp; try (with_reducible rfl)
        try simp only [Act.put, zA, zB, zC]
        refine tkC 11 ?_
        refine tkC 12 ?_
        refine tkC 13 ?_
        refine tkA 14 (v := ?_) ?_ ?_
        rotate_left
        · intro W hSw; have hq := (SB.b0 hSw).cell (p := ⟨b1, o1 + k * 10, none⟩) hl1 |>.trans ci; go_simp; try (with_reducible rfl)
        try simp only [Act.put, zA, zB, zC]
        refine tkC 15 ?_
        refine tkA 16 (v := ?_) ?_ ?_
        rotate_left
        · intro W hSw; have hq := (SB.b0 hSw).cell (p := ⟨w.heap.size, 2, none⟩) hl3 |>.trans c2; go_simp; try (with_reducible rfl)
        try simp only [Act.put, zA, zB, zC]
        refine tkA 17 (v := .bool false) ?_ ?_
        · intro W hSw; go_simp; first | done | assumption | omega | (simp; omega)
        try simp only [Act.put, zA, zB, zC]
        refine tkC 18 ?_
        refine tkC 19 ?_
        refine tkC 20 ?_
        refine tkA 21 (v := ?_) ?_ ?_
        rotate_left
        · intro W hSw; have hq := (SB.b0 hSw).cell (p := ⟨w.heap.size, 3, none⟩) hl3 |>.trans c3; go_simp; try (with_reducible rfl)
        try simp only [Act.put, zA, zB, zC]
        refine tkC 22 ?_
        refine tkC 23 ?_
        refine tkA 24 (v := .agg #[.int .i64 id, sv name, sv topic, sv want, .int .i64 lease, .int .i64 most, .int .i64 floor, av, qv, sv note]) (fun W hSw => exec_load_mid 35 (.tmp 69) rfl b1 (o1 + k * 10) rfl _ _ (range_below HR1.out hl1 (SB.b0 hSw)) Tryd.underlying35 rfl size35) ?_
        try simp only [Act.put, zA, zB, zC]
        refine tkC 25 ?_
        refine tkA 26 (v := ?_) ?_ ?_
        rotate_left
        · intro W hSw; have hq := (SB.b0 hSw).cell (p := ⟨w.heap.size, 0, none⟩) hl3 |>.trans c0; go_simp; try (with_reducible rfl)
        try simp only [Act.put, zA, zB, zC]
        refine tkC 27 ?_
        refine tkA 28 (v := ?_) ?_ ?_
        rotate_left
        · intro W hSw; have hq := (SB.b0 hSw).cell (p := ⟨w.heap.size, 1, none⟩) hl3 |>.trans c1; go_simp; try (with_reducible rfl)
        try simp only [Act.put, zA, zB, zC]
        refine rdA (rs := [29]) (arC (i := 29) fun K hK => ?_)
        go_simp
        refine (HS.out _ (HBW.out.trans ((SB.b0 hHeld).mono HBW.out.size))).mono ?_
        rintro e w3 ⟨rfl, hbw3⟩
        try (go_wp2_with fail)
        have hHeld' := SB.step hHeld hbw3
        refine hK.out _ _ ?_ (fun _ => ?_)
        · exact hHeld'
        clear hK K
        try simp only [Act.put, zA, zB, zC]
        have hHeld := hHeld'
        refine tkC 30 ?_
        refine tkC 31 ?_
        refine wpAnyH_done (by kernel_rfl) ?_ _
        have hbd := SB.b0 hHeld
        clear hHeld hHeld' hbw3
        have HBD := Lib.hid (HBW.out.trans (hbd.mono HBW.out.size))
        have HBE := Lib.hid (HBL.out.trans (hbd.mono HBL.out.size))
        have c3d := (hbd.cell (p := ⟨w.heap.size, 3, none⟩) hl3).trans c3
        have cid := (hbd.cell (p := ⟨b1, o1 + k * 10, none⟩) hl1).trans ci
        clear hbd c0 c1 c2 c3 ci
        go_wp2
        go_ret
        exact ⟨by rw [HE.out]; rfl, HBD.out⟩
      | true =>
        have HN := Lib.hid (show subsB ⟨c, n, l, xs⟩ 0 xs = subsB ⟨c, n, l, xs⟩ id (xs.drop (k + 1)) by rw [HAL.out, HSD.out, ← HGB.out, decide_eq_true (show last < id by omega), decide_eq_true (show id ≤ l by omega)]; simp)
        have HS := Lib.hid hs
        clear hs
        go_wp2_with fail
        refine wp_region_held_drew (S := SB [wr]) (by kernel_rfl) (SB.start _) (fun hHeld => ?_)
        refine tkC 0 ?_
        refine tkA 1 (v := ?_) ?_ ?_
        rotate_left
        · intro W hSw; have hq := (SB.b0 hSw).cell (p := ⟨w.heap.size, 3, none⟩) hl3 |>.trans c3; go_simp; try (with_reducible rfl)
        try simp only [Act.put, zA, zB, zC]
        refine tkC 2 ?_
        refine tkC 3 ?_
        refine tkC 4 ?_
        refine tkA 5 (v := ?_) ?_ ?_
        rotate_left
        · intro W hSw; have hq := (SB.b0 hSw).cell (p := ⟨b1, o1 + k * 10, none⟩) hl1 |>.trans ci; go_simp; try (with_reducible rfl)
        try simp only [Act.put, zA, zB, zC]
        refine tkC 6 ?_
        refine tkA 7 (v := .bool false) ?_ ?_
        · intro W hSw; go_simp; first | done | assumption | omega | (simp; omega)
        try simp only [Act.put, zA, zB, zC]
        refine tkC 8 ?_
        refine tkC 9 ?_
        refine tkA 10 (v := ?_) ?_ ?_
        rotate_left
        · intro W hSw; have hq := (SB.b0 hSw).cell (p := ⟨w.heap.size, 3, none⟩) hl3 |>.trans c3; go_simp; try (with_reducible rfl)
        try simp only [Act.put, zA, zB, zC]
        refine tkC 11 ?_
        refine tkC 12 ?_
        refine tkC 13 ?_
        refine tkA 14 (v := ?_) ?_ ?_
        rotate_left
        · intro W hSw; have hq := (SB.b0 hSw).cell (p := ⟨b1, o1 + k * 10, none⟩) hl1 |>.trans ci; go_simp; try (with_reducible rfl)
        try simp only [Act.put, zA, zB, zC]
        refine tkC 15 ?_
        refine tkA 16 (v := ?_) ?_ ?_
        rotate_left
        · intro W hSw; have hq := (SB.b0 hSw).cell (p := ⟨w.heap.size, 2, none⟩) hl3 |>.trans c2; go_simp; try (with_reducible rfl)
        try simp only [Act.put, zA, zB, zC]
        refine tkA 17 (v := .bool false) ?_ ?_
        · intro W hSw; go_simp; first | done | assumption | omega | (simp; omega)
        try simp only [Act.put, zA, zB, zC]
        refine tkC 18 ?_
        refine tkC 19 ?_
        refine tkC 20 ?_
        refine tkA 21 (v := ?_) ?_ ?_
        rotate_left
        · intro W hSw; have hq := (SB.b0 hSw).cell (p := ⟨w.heap.size, 3, none⟩) hl3 |>.trans c3; go_simp; try (with_reducible rfl)
        try simp only [Act.put, zA, zB, zC]
        refine tkC 22 ?_
        refine tkC 23 ?_
        refine tkA 24 (v := .agg #[.int .i64 id, sv name, sv topic, sv want, .int .i64 lease, .int .i64 most, .int .i64 floor, av, qv, sv note]) (fun W hSw => exec_load_mid 35 (.tmp 69) rfl b1 (o1 + k * 10) rfl _ _ (range_below HR1.out hl1 (SB.b0 hSw)) Tryd.underlying35 rfl size35) ?_
        try simp only [Act.put, zA, zB, zC]
        refine tkC 25 ?_
        refine tkA 26 (v := ?_) ?_ ?_
        rotate_left
        · intro W hSw; have hq := (SB.b0 hSw).cell (p := ⟨w.heap.size, 0, none⟩) hl3 |>.trans c0; go_simp; try (with_reducible rfl)
        try simp only [Act.put, zA, zB, zC]
        refine tkC 27 ?_
        refine tkA 28 (v := ?_) ?_ ?_
        rotate_left
        · intro W hSw; have hq := (SB.b0 hSw).cell (p := ⟨w.heap.size, 1, none⟩) hl3 |>.trans c1; go_simp; try (with_reducible rfl)
        try simp only [Act.put, zA, zB, zC]
        refine rdA (rs := [29]) (arC (i := 29) fun K hK => ?_)
        go_simp
        refine (HS.out _ (HBW.out.trans ((SB.b0 hHeld).mono HBW.out.size))).mono ?_
        rintro e w3 ⟨rfl, hbw3⟩
        try (go_wp2_with fail)
        have hHeld' := SB.step hHeld hbw3
        refine hK.out _ _ ?_ (fun _ => ?_)
        · exact hHeld'
        clear hK K
        try simp only [Act.put, zA, zB, zC]
        have hHeld := hHeld'
        refine tkC 30 ?_
        refine tkC 31 ?_
        refine wpAnyH_done (by kernel_rfl) ?_ _
        have hbd := SB.b0 hHeld
        clear hHeld hHeld' hbw3
        have HBD := Lib.hid (HBW.out.trans (hbd.mono HBW.out.size))
        have HBE := Lib.hid (HBL.out.trans (hbd.mono HBL.out.size))
        have c3d := (hbd.cell (p := ⟨w.heap.size, 3, none⟩) hl3).trans c3
        have cid := (hbd.cell (p := ⟨b1, o1 + k * 10, none⟩) hl1).trans ci
        clear hbd c0 c1 c2 c3 ci
        go_wp2
        go_roundw
        case rel => exact ⟨k + 1, id, by omega, by go_num, rfl, HN.out, HBE.out⟩
        case measure => simp [intOf]; omega
    · have q1 : ¬ (k : Int) < (xs.length : Int) := by omega
      have HE := Lib.hid (show r = true by rw [← HR0.out, HST0.out, HAL.out, List.drop_of_length_le (by omega)]; rfl)
      go_wp2
      go_ret
      exact ⟨by rw [HE.out]; rfl, HBW.out⟩
end Go.Proofs.YtcmkmdghekkkhaaDoor
