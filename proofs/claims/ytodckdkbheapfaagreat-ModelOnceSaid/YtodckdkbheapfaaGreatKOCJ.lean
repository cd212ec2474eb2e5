/-
  The contract of the program's Put (layer state).
-/
import Derived.Test.YtodckdkbheapfaaGreatKOCH
import Derived.Test.YtodckdkbheapfaaGreatKOCI
set_option linter.unusedVariables false
set_option linter.unusedVariables false
namespace Go.Ts
theorem ins_at {x : Sub} : ∀ {l : List Sub} {k : Nat} (hk : k < l.length), decide (x.id < l[k].id) = true → (∀ j (hj : j < l.length), j < k → decide (x.id < l[j].id) = false) → insS x l = l.take k ++ x :: l.drop k
  | [], k, hk, _, _ => absurd hk (Nat.not_lt_zero _)
  | y :: l, 0, hk, h1, h2 => by
    have h1 := of_decide_eq_true h1
    simp only [List.getElem_cons_zero] at h1
    simp [insS, h1]
  | y :: l, k + 1, hk, h1, h2 => by
    have h0 : ¬ x.id < y.id := of_decide_eq_false (h2 0 (by simp) (by omega))
    have ih := ins_at (x := x) (l := l) (k := k) (by simpa using hk) (by simpa using h1) (fun j hj hjk => h2 (j + 1) (by simpa using hj) (by omega))
    unfold insS
    rw [if_neg h0, ih]
    simp
theorem ins_last {x : Sub} : ∀ {l : List Sub}, (∀ j (hj : j < l.length), decide (x.id < l[j].id) = false) → insS x l = l.take l.length ++ x :: l.drop l.length
  | [], _ => by simp [insS]
  | y :: l, h => by
    have h0 : ¬ x.id < y.id := of_decide_eq_false (h 0 (by simp))
    have ih := ins_last (x := x) (l := l) (fun j hj => h (j + 1) (by simpa using hj))
    unfold insS
    rw [if_neg h0, ih]
    simp
end Go.Ts
namespace Go.Proofs.YtodckdkbheapfaaGreat
open Go.RowKit Go.Rst Go.Tp Go.Ts
structure PutF (w W : World) (sC xC O : List Value) (v1 : Value) (ys : List Sub) : Prop where
  s : Wh W w.heap.size sC 25
  x : Wh W (w.heap.size + 1) xC 30
  o : Wh W (w.heap.size + 2) O 25
  own : ON (w.heap.size + 3) W v1 ys
  bel : Below w.heap.size w W
  sz : w.heap.size + 3 ≤ W.heap.size
theorem PutF.below {w W W2 : World} {sC xC O : List Value} {v1 : Value} {ys : List Sub} (h : PutF w W sC xC O v1 ys) (hb : Below W.heap.size W W2) : PutF w W2 sC xC O v1 ys :=
  ⟨h.s.below hb, h.x.below hb, h.o.below hb, h.own.below hb, h.bel.trans (hb.mono h.bel.size), Nat.le_trans h.sz hb.size⟩
theorem ON.lt {b : Nat} {w : World} {v : Value} {ys : List Sub} (h : ON b w v ys) : ∀ g, v.ownBlock = some g → w.heap.size ≠ g := by
  obtain ⟨css, ho, _⟩ := h
  intro g hg
  obtain ⟨cur, hc⟩ := row_kind ho g hg
  have := (Array.getElem?_eq_some_iff.1 hc).1
  omega
def PutS (w : World) (xC : List Value) (W : World) : Prop := Wh W (w.heap.size + 1) xC 30 ∧ Below w.heap.size w W
set_option maxRecDepth 100000 in
set_option maxHeartbeats 8000000 in
theorem putP_any (c n l : Int) (v : Value) (xs : List Sub) (x : Sub) (av qv : Value) (w : World) (h : RS w v xs) (hz : ∀ x ∈ xs, Sized x) (hxl : xs.length ≤ 977343669110) (ha : RI w av x.acks) (hq : RM w qv x.queue) (hzx : Sized x) :
    Calls Tryz.prog 68 #[.agg (stC c n l v).toArray, .agg (subC x av qv).toArray] w (GivesSo w c n l (putS xs x)) := by
  have HV := Lib.hid h
  have HZS := Lib.hid hz
  obtain ⟨A, ca, rfl, hac, ham⟩ := h.shape
  obtain ⟨Aa, ka, rfl, hka, haM⟩ := ha.shape
  obtain ⟨Aq, kq, rfl, hkq, hqM⟩ := hq.shape
  unfold maxLen at ham haM hqM
  have HRA := Lib.hid ha
  have HRQ := Lib.hid hq
  have HZX := Lib.hid hzx
  clear h hz ha hq hzx
  obtain ⟨xid, name, topic, want, lease, most, floor, acks, queue, note⟩ := x
  obtain ⟨ys, hys⟩ : ∃ ys, ys = outS xs xid := ⟨_, rfl⟩
  have hylen : ys.length ≤ xs.length := by rw [hys]; exact outS_len xs xid
  have HPUT := Lib.hid (show putS xs (⟨xid, name, topic, want, lease, most, floor, acks, queue, note⟩ : Sub) = insS (⟨xid, name, topic, want, lease, most, floor, acks, queue, note⟩ : Sub) ys by rw [hys]; rfl)
  have HYS := Lib.hid hys
  simp only [stC, subC]
  simp only at HRA HRQ hka hkq
  obtain ⟨O, hO⟩ : ∃ O : List Value, O = [.int .i64 0, .int .i64 0, .int .i64 0, .slice none 0 0] := ⟨_, rfl⟩
  obtain ⟨W0, hW0⟩ : ∃ W0, W0 = ((w.alloc (.cells #[.int .i64 c, .int .i64 n, .int .i64 l, .slice A xs.length ca] 25)).alloc (.cells #[.int .i64 xid, sv name, sv topic, sv want, .int .i64 lease, .int .i64 most, .int .i64 floor, .slice Aa acks.length ka, .slice Aq queue.length kq, sv note] 30)).alloc (.cells O.toArray 25) := ⟨_, rfl⟩
  have hs0 : Wh W0 w.heap.size [.int .i64 c, .int .i64 n, .int .i64 l, .slice A xs.length ca] 25 := by rw [hW0]; exact ((Wh.new w _ _).alloc _).alloc _
  have hx0 : Wh W0 (w.heap.size + 1) [.int .i64 xid, sv name, sv topic, sv want, .int .i64 lease, .int .i64 most, .int .i64 floor, .slice Aa acks.length ka, .slice Aq queue.length kq, sv note] 30 := by
    have := (Wh.new (w.alloc (.cells #[.int .i64 c, .int .i64 n, .int .i64 l, .slice A xs.length ca] 25)) [.int .i64 xid, sv name, sv topic, sv want, .int .i64 lease, .int .i64 most, .int .i64 floor, .slice Aa acks.length ka, .slice Aq queue.length kq, sv note] 30).alloc (.cells O.toArray 25)
    rw [World.size_alloc] at this
    rw [hW0]; exact this
  have ho0 : Wh W0 (w.heap.size + 2) O 25 := by
    have := Wh.new ((w.alloc (.cells #[.int .i64 c, .int .i64 n, .int .i64 l, .slice A xs.length ca] 25)).alloc (.cells #[.int .i64 xid, sv name, sv topic, sv want, .int .i64 lease, .int .i64 most, .int .i64 floor, .slice Aa acks.length ka, .slice Aq queue.length kq, sv note] 30)) O 25
    rw [World.size_alloc, World.size_alloc] at this
    rw [hW0]; exact this
  have hbl : Below w.heap.size w W0 := by rw [hW0]; exact (((Below.refl w.heap.size w).alloc (Nat.le_refl _) _).alloc (by simp) _).alloc (by simp; omega) _
  have hsz : W0.heap.size = w.heap.size + 3 := by rw [hW0]; simp
  have HOL := Lib.hid (show O.toArray.size = 4 by rw [hO]; rfl)
  have HWO := Lib.hid (withoutP_any c n l (.slice A xs.length ca) xs xid W0 (HV.out.below stays_cs hbl) HZS.out hxl)
  rw [hO] at hW0
  have HS0 := Lib.hid hs0
  have HX0 := Lib.hid hx0
  have HO0 := Lib.hid ho0
  have HBL := Lib.hid hbl
  have HSZ := Lib.hid hsz
  have HR0 := Lib.hid (show (((w.alloc (.cells #[.int .i64 c, .int .i64 n, .int .i64 l, .slice A xs.length ca] 25)).alloc (.cells #[.int .i64 xid, sv name, sv topic, sv want, .int .i64 lease, .int .i64 most, .int .i64 floor, .slice Aa acks.length ka, .slice Aq queue.length kq, sv note] 30)).alloc (.cells #[.int .i64 0, .int .i64 0, .int .i64 0, .slice none 0 0] 25)).rangeAt w.heap.size 0 [.int .i64 c, .int .i64 n, .int .i64 l, .slice A xs.length ca] by rw [← hW0]; exact hs0.range)
  simp only [stC] at HWO
  clear hs0 hx0 ho0 hbl hsz hO hys
  go_enter Tryz.func68, Tryz.ntmps68
  go_wp2_with (refine wpList_load_midG (by rfl) 25 (.tmp 2) rfl w.heap.size 0 rfl _ _ HR0.out Tryz.underlying25 rfl size24 ?_)
  rw [← hW0]
  clear hW0 HR0
  refine HWO.out.mono ?_
  rintro e w1 ⟨v1, rfl, hon1, hb1⟩
  rw [← HYS.out] at hon1
  rw [HSZ.out] at hon1
  obtain ⟨A1, k1, rfl, hk1⟩ := hon1.shape
  have hk1m : k1 ≤ 9223372036854775807 := by
    obtain ⟨Z1, z1, e1, _, hz1⟩ := hon1.rs.shape
    injection e1 with _ _ e3
    unfold maxLen at hz1
    omega
  have hs1 := HS0.out.below hb1
  have hsz1 : w.heap.size + 3 ≤ w1.heap.size := by rw [← HSZ.out]; exact hb1.size
  obtain ⟨W2, hW2⟩ : ∃ W2, W2 = w1.setRow w.heap.size #[.int .i64 c, .int .i64 n, .int .i64 l, .slice A1 ys.length k1] := ⟨_, rfl⟩
  have hpf : PutF w W2 [.int .i64 c, .int .i64 n, .int .i64 l, .slice A1 ys.length k1] [.int .i64 xid, sv name, sv topic, sv want, .int .i64 lease, .int .i64 most, .int .i64 floor, .slice Aa acks.length ka, .slice Aq queue.length kq, sv note] O (.slice A1 ys.length k1) ys := by
    have hg := grown_row w1 w.heap.size #[.int .i64 c, .int .i64 n, .int .i64 l, .slice A1 ys.length k1]
    rw [hW2]
    exact ⟨hs1.set [.int .i64 c, .int .i64 n, .int .i64 l, .slice A1 ys.length k1], (HX0.out.below hb1).setOther (by omega) _, (HO0.out.below hb1).setOther (by omega) _, hon1.kept hg (by omega) ⟨_, _, hs1, by decide, by decide⟩, below_setRow (HBL.out.trans (hb1.mono HBL.out.size)) (Nat.le_refl _) _, by simpa using hsz1⟩
  have HS1 := Lib.hid hs1
  have HPF := Lib.hid hpf
  have c3 := hpf.s.bx.cell (i := 3) (by simp)
  have d0 := hpf.x.bx.cell (i := 0) (by simp)
  simp only [List.getElem_cons_succ, List.getElem_cons_zero] at c3 d0
  have hl3 := hpf.s.lt
  have hl4 := hpf.x.lt
  clear hb1 hs1 hpf hon1 HS0 HX0 HO0 HBL HWO
  go_wp2_with (refine wpList_store_row rfl 25 (.tmp 2) (.tmp 9) rfl w.heap.size #[.int .i64 c, .int .i64 n, .int .i64 l, .slice A1 ys.length k1] rfl rfl 25 #[.int .i64 c, .int .i64 n, .int .i64 l, .slice A xs.length ca] HS1.out size24 rfl (st_all c n l rfl) ?_)
  rw [← hW2]
  clear hW2 HS1
  refine wp_region_held_drew (S := SB [W2]) (by kernel_rfl) (SB.start _) (fun hHeld => ?_)
  refine tkC 0 ?_
  refine tkA 1 (v := ?_) ?_ ?_
  rotate_left
  · intro W hSw; have hq := (SB.b0 hSw).cell (p := ⟨w.heap.size, 3, none⟩) hl3 |>.trans c3; go_simp; try (with_reducible rfl)
  try simp only [Act.put, zA, zB, zC]
  refine tkC 2 ?_
  refine tkA 3 (v := ?_) ?_ ?_
  rotate_left
  · intro W hSw; have hq := (SB.b0 hSw).cell (p := ⟨w.heap.size + 1, 0, none⟩) hl4 |>.trans d0; go_simp; try (with_reducible rfl)
  try simp only [Act.put, zA, zB, zC]
  refine rdA (rs := [4]) (arC (i := 4) fun K hK => ?_)
  go_simp
  refine (above_any xid _).mono ?_
  rintro e w3 ⟨b, rfl, hcell, hblt, hbw3⟩
  try (go_wp2_with fail)
  have hHeld' := SB.step hHeld hbw3
  refine hK.out _ _ ?_ (fun _ => ?_)
  · exact hHeld'
  clear hK K hHeld
  try simp only [Act.put, zA, zB, zC]
  refine rdA (rs := [5]) (arC (i := 5) fun K hK => ?_)
  go_simp
  refine (idx_above _ ys b xid w3 (HPF.out.below (SB.b0 hHeld')).own.rs hcell).mono ?_
  rintro e w4 ⟨r4, rfl, hix, hbw4⟩
  try (go_wp2_with fail)
  have hHeld := SB.step hHeld' hbw4
  refine hK.out _ _ ?_ (fun _ => ?_)
  · exact hHeld
  clear hK K hHeld'
  try simp only [Act.put, zA, zB, zC]
  refine tkC 6 ?_
  refine wpAnyH_done (by kernel_rfl) ?_ _
  have hpf4 := HPF.out.below (SB.b0 hHeld)
  have c34 := hpf4.s.bx.cell (i := 3) (by simp)
  simp only [List.getElem_cons_succ, List.getElem_cons_zero] at c34
  have HP4 := Lib.hid hpf4
  clear hHeld hbw3 hbw4 hcell hblt c3 hl3 d0 hl4 hpf4 HPF
  obtain ⟨p, hpl, hins, hat⟩ : ∃ p : Nat, p ≤ ys.length ∧ insS (⟨xid, name, topic, want, lease, most, floor, acks, queue, note⟩ : Sub) ys = ys.take p ++ (⟨xid, name, topic, want, lease, most, floor, acks, queue, note⟩ : Sub) :: ys.drop p ∧ (r4 = (p : Int) ∨ (r4 = -1 ∧ p = ys.length)) := by
    rcases hix with ⟨k, hk, rfl, h1, h2⟩ | ⟨rfl, h1⟩
    · exact ⟨k, by omega, ins_at (x := (⟨xid, name, topic, want, lease, most, floor, acks, queue, note⟩ : Sub)) hk h1 h2, .inl rfl⟩
    · exact ⟨ys.length, Nat.le_refl _, ins_last (x := (⟨xid, name, topic, want, lease, most, floor, acks, queue, note⟩ : Sub)) h1, .inr ⟨rfl, rfl⟩⟩
  have HINS := Lib.hid hins
  clear hix hins
  have hplI : (p : Int) ≤ (ys.length : Int) := by omega
  rcases hat with rfl | ⟨rfl, hpe⟩
  · have q1 : ¬ ((p : Int) < 0) := by omega
    go_wp2_with fail
    have HXR := Lib.hid (show ∀ W, PutS w [.int .i64 xid, sv name, sv topic, sv want, .int .i64 lease, .int .i64 most, .int .i64 floor, .slice Aa acks.length ka, .slice Aq queue.length kq, sv note] W → W.rangeAt (w.heap.size + 1) 0 [.int .i64 xid, sv name, sv topic, sv want, .int .i64 lease, .int .i64 most, .int .i64 floor, .slice Aa acks.length ka, .slice Aq queue.length kq, sv note] from fun W hW => hW.1.range)
    have hbx : w.heap.size ≤ w4.heap.size := HP4.out.bel.size
    refine wp_region_held_drew (S := PutS w [.int .i64 xid, sv name, sv topic, sv want, .int .i64 lease, .int .i64 most, .int .i64 floor, .slice Aa acks.length ka, .slice Aq queue.length kq, sv note]) (by kernel_rfl) ⟨HP4.out.x, HP4.out.bel.drew⟩ (fun hHeld => ?_)
    have HPc := Lib.hid (HP4.out.below (Below.refl _ _).drew)
    clear HP4 c34
    refine tkC 0 ?_
    refine tkC 2 ?_
    refine tkA 3 (v := .agg #[.int .i64 xid, sv name, sv topic, sv want, .int .i64 lease, .int .i64 most, .int .i64 floor, .slice Aa acks.length ka, .slice Aq queue.length kq, sv note]) (fun W hSw => exec_load_mid 30 (.tmp 3) rfl (w.heap.size + 1) 0 rfl _ _ (HXR.out W hSw) Tryz.underlying30 rfl size35) ?_
    try simp only [Act.put, zA, zB, zC]
    refine rdA (rs := [1, 4]) (arC2 (i := 1) (j := 4) (fun K hK => ?_) (fun K hK => ?_))
    · have hc3 := HPc.out.s.bx.cell (i := 3) (by simp)
      simp only [List.getElem_cons_succ, List.getElem_cons_zero] at hc3
      go_simp
      refine hK.out _ _ ?_ (fun _ => ?_)
      · exact hHeld
      clear hK K hc3
      try simp only [Act.put, zA, zB, zC]
      refine rdA (rs := [4]) (arC (i := 4) fun K hK => ?_)
      go_simp
      refine (own_any (⟨xid, name, topic, want, lease, most, floor, acks, queue, note⟩ : Sub) (.slice Aa acks.length ka) (.slice Aq queue.length kq) _ (HRA.out.below stays_ci (HPc.out.bel)) (HRQ.out.below stays_cm (HPc.out.bel)) HZX.out).mono ?_
      rintro e w5 ⟨cs, rfl, hcn, hb5⟩
      have hcs0 := hcn
      obtain ⟨a5, q5, rfl, hra5, hrq5⟩ := hcn
      have hall5 := sub_all (⟨xid, name, topic, want, lease, most, floor, acks, queue, note⟩ : Sub) (rl_one hra5.rl) (rl_one hrq5.rl)
      obtain ⟨A5, k5, rfl, _⟩ := hra5.rl.shape
      obtain ⟨Q5, j5, rfl, _⟩ := hrq5.rl.shape
      simp only [subC] at hcs0 hall5 ⊢
      try (go_wp2_with fail)
      have HPc5 := Lib.hid (HPc.out.below hb5)
      have hHeld5 : PutS w [.int .i64 xid, sv name, sv topic, sv want, .int .i64 lease, .int .i64 most, .int .i64 floor, .slice Aa acks.length ka, .slice Aq queue.length kq, sv note] w5 := ⟨HPc5.out.x, HPc5.out.bel⟩
      refine hK.out _ _ ?_ (fun _ => ?_)
      · exact hHeld5
      clear hK K hHeld hra5 hrq5 hb5
      have hHeld := hHeld5
      have HPc0 := HPc
      clear HPc
      have HPc := HPc5
      clear HPc5 hHeld5
      have HCN := Lib.hid hcs0
      clear hcs0
      try simp only [Act.put, zA, zB, zC]
      refine rdA (rs := [5]) (arC (i := 5) fun K hK => ?_)
      have hal : Below w5.heap.size w5 (w5.alloc (.cells #[.int .i64 xid, sv name, sv topic, sv want, .int .i64 lease, .int .i64 most, .int .i64 floor, .slice A5 acks.length k5, .slice Q5 queue.length j5, sv note] 30)) := (Below.refl _ _).alloc (Nat.le_refl _) _
      have HPc6 := Lib.hid (HPc.out.below hal)
      have HCN6 := Lib.hid (HCN.out.below hal)
      have HVB := Lib.hid (Wh.new w5 [.int .i64 xid, sv name, sv topic, sv want, .int .i64 lease, .int .i64 most, .int .i64 floor, .slice A5 acks.length k5, .slice Q5 queue.length j5, sv note] 30)
      have HNE := Lib.hid HPc.out.own.lt
      have hHeld6 : PutS w [.int .i64 xid, sv name, sv topic, sv want, .int .i64 lease, .int .i64 most, .int .i64 floor, .slice Aa acks.length ka, .slice Aq queue.length kq, sv note] (w5.alloc (.cells #[.int .i64 xid, sv name, sv topic, sv want, .int .i64 lease, .int .i64 most, .int .i64 floor, .slice A5 acks.length k5, .slice Q5 queue.length j5, sv note] 30)) := ⟨HPc6.out.x, HPc6.out.bel⟩
      go_simp
      refine hK.out _ _ ?_ (fun _ => ?_)
      · exact hHeld6
      clear hK K hHeld hal
      have hHeld := hHeld6
      clear HPc HCN hHeld6
      have HPc := HPc6
      have HCN := HCN6
      clear HPc6 HCN6
      try simp only [Act.put, zA, zB, zC]
      refine rdA (rs := [6]) (arC (i := 6) fun K hK => ?_)
      have HIN := Lib.hid (insert_any (w.heap.size + 3) p w5.heap.size (.slice A1 ys.length k1) ys (⟨xid, name, topic, want, lease, most, floor, acks, queue, note⟩ : Sub) [.int .i64 xid, sv name, sv topic, sv want, .int .i64 lease, .int .i64 most, .int .i64 floor, .slice A5 acks.length k5, .slice Q5 queue.length j5, sv note] (w5.alloc (.cells #[.int .i64 xid, sv name, sv topic, sv want, .int .i64 lease, .int .i64 most, .int .i64 floor, .slice A5 acks.length k5, .slice Q5 queue.length j5, sv note] 30)) HPc.out.own hpl (by omega) HVB.out HNE.out HCN.out HPc.out.sz)
      go_simp
      refine HIN.out.mono ?_
      rintro e w7 ⟨v7, rfl, hon7, hb7⟩
      try (go_wp2_with fail)
      rw [← HINS.out] at hon7
      obtain ⟨A6, k6, rfl, _⟩ := hon7.shape
      have hsz7 := HPc.out.sz
      have hs7 : Wh w7 w.heap.size [.int .i64 c, .int .i64 n, .int .i64 l, .slice A1 ys.length k1] 25 := (hb7.block _ (by omega)).trans HPc.out.s
      have hx7 : Wh w7 (w.heap.size + 1) [.int .i64 xid, sv name, sv topic, sv want, .int .i64 lease, .int .i64 most, .int .i64 floor, .slice Aa acks.length ka, .slice Aq queue.length kq, sv note] 30 := (hb7.block _ (by omega)).trans HPc.out.x
      have ho7 : Wh w7 (w.heap.size + 2) O 25 := (hb7.block _ (by omega)).trans HPc.out.o
      have hbt7 : Below w.heap.size w w7 := HPc.out.bel.trans (hb7.mono (by omega))
      have hHeld7 : PutS w [.int .i64 xid, sv name, sv topic, sv want, .int .i64 lease, .int .i64 most, .int .i64 floor, .slice Aa acks.length ka, .slice Aq queue.length kq, sv note] w7 := ⟨hx7, hbt7⟩
      refine hK.out _ _ ?_ (fun _ => ?_)
      · exact hHeld7
      clear hK K hHeld HIN hb7
      have hHeld := hHeld7
      try simp only [Act.put, zA, zB, zC]
      refine tkC 7 ?_
      refine rdA (rs := [8]) (arC (i := 8) fun K hK => ?_)
      have hc3 := hs7.bx.cell (i := 3) (by simp)
      simp only [List.getElem_cons_succ, List.getElem_cons_zero] at hc3
      have hf3 := hs7.frozen 3
      have hs8 := hs7.set1 3 (.slice A6 (insS (⟨xid, name, topic, want, lease, most, floor, acks, queue, note⟩ : Sub) ys).length k6)
      simp only [List.set_cons_succ, List.set_cons_zero] at hs8
      have hx8 := hx7.set1Other (k := w.heap.size) (by omega) 3 (.slice A6 (insS (⟨xid, name, topic, want, lease, most, floor, acks, queue, note⟩ : Sub) ys).length k6)
      have ho8 := ho7.set1Other (k := w.heap.size) (by omega) 3 (.slice A6 (insS (⟨xid, name, topic, want, lease, most, floor, acks, queue, note⟩ : Sub) ys).length k6)
      have hb8 := hbt7.setCell (p := ⟨w.heap.size, 3, none⟩) (Nat.le_refl _) (.slice A6 (insS (⟨xid, name, topic, want, lease, most, floor, acks, queue, note⟩ : Sub) ys).length k6)
      have hon8 := hon7.kept (grown_cell w7 w.heap.size 3 (.slice A6 (insS (⟨xid, name, topic, want, lease, most, floor, acks, queue, note⟩ : Sub) ys).length k6)) (by omega) ⟨_, _, hs7, by decide, by decide⟩
      have hHeld8 : PutS w [.int .i64 xid, sv name, sv topic, sv want, .int .i64 lease, .int .i64 most, .int .i64 floor, .slice Aa acks.length ka, .slice Aq queue.length kq, sv note] (w7.setCell ⟨w.heap.size, 3, none⟩ (.slice A6 (insS (⟨xid, name, topic, want, lease, most, floor, acks, queue, note⟩ : Sub) ys).length k6)) := ⟨hx8, hb8⟩
      go_simp
      refine hK.out _ _ ?_ (fun _ => ?_)
      · exact hHeld8
      clear hK K hHeld hHeld7 hs7 hx7 ho7 hc3 hf3 hx8
      try simp only [Act.put, zA, zB, zC]
      refine wpAnyH_done (by kernel_rfl) ?_ _
      have hsz8 : w.heap.size + 2 < (w7.setCell ⟨w.heap.size, 3, none⟩ (.slice A6 (insS (⟨xid, name, topic, want, lease, most, floor, acks, queue, note⟩ : Sub) ys).length k6)).heap.size := ho8.lt
      obtain ⟨W8, hW8⟩ : ∃ W8, W8 = w7.setCell ⟨w.heap.size, 3, none⟩ (.slice A6 (insS (⟨xid, name, topic, want, lease, most, floor, acks, queue, note⟩ : Sub) ys).length k6) := ⟨_, rfl⟩
      rw [← hW8] at hs8 ho8 hb8 hon8 ⊢
      have HR8 := Lib.hid hs8.range
      have HO8 := Lib.hid ho8
      have HB8 := Lib.hid hb8
      have HON8 := Lib.hid hon8
      clear hW8 hHeld8 hs8 ho8 hb8 hon8 hsz8
      go_wp2_with (first
        | (refine wpList_load_midG (by rfl) 25 (.tmp 2) rfl w.heap.size 0 rfl _ _ HR8.out Tryz.underlying25 rfl size24 ?_)
        | (refine wpList_store_row rfl 25 (.tmp 4) (.tmp 29) rfl (w.heap.size + 2) #[.int .i64 c, .int .i64 n, .int .i64 l, .slice A6 (insS (⟨xid, name, topic, want, lease, most, floor, acks, queue, note⟩ : Sub) ys).length k6] rfl rfl 25 O.toArray HO8.out size24 HOL.out (st_all c n l rfl) ?_))
      refine bodyPost_ret (results_cell_row rfl _ _ (w.heap.size + 2) 25 #[.int .i64 c, .int .i64 n, .int .i64 l, .slice A6 (insS (⟨xid, name, topic, want, lease, most, floor, acks, queue, note⟩ : Sub) ys).length k6] (0, 0) _ rfl (HO8.out.set [.int .i64 c, .int .i64 n, .int .i64 l, .slice A6 (insS (⟨xid, name, topic, want, lease, most, floor, acks, queue, note⟩ : Sub) ys).length k6]) Tryz.underlying25 rfl size24) rfl ?_
      rw [HPUT.out]
      have hosf := HON8.out.kept (grown_row W8 (w.heap.size + 2) #[.int .i64 c, .int .i64 n, .int .i64 l, .slice A6 (insS (⟨xid, name, topic, want, lease, most, floor, acks, queue, note⟩ : Sub) ys).length k6]) (by omega) ⟨_, _, HO8.out, by decide, by decide⟩
      exact ⟨_, rfl, hosf.base_ (by omega), below_setRow HB8.out (by omega) _⟩
    · go_simp
      refine (own_any (⟨xid, name, topic, want, lease, most, floor, acks, queue, note⟩ : Sub) (.slice Aa acks.length ka) (.slice Aq queue.length kq) _ (HRA.out.below stays_ci (HPc.out.bel)) (HRQ.out.below stays_cm (HPc.out.bel)) HZX.out).mono ?_
      rintro e w5 ⟨cs, rfl, hcn, hb5⟩
      have hcs0 := hcn
      obtain ⟨a5, q5, rfl, hra5, hrq5⟩ := hcn
      have hall5 := sub_all (⟨xid, name, topic, want, lease, most, floor, acks, queue, note⟩ : Sub) (rl_one hra5.rl) (rl_one hrq5.rl)
      obtain ⟨A5, k5, rfl, _⟩ := hra5.rl.shape
      obtain ⟨Q5, j5, rfl, _⟩ := hrq5.rl.shape
      simp only [subC] at hcs0 hall5 ⊢
      try (go_wp2_with fail)
      have HPc5 := Lib.hid (HPc.out.below hb5)
      have hHeld5 : PutS w [.int .i64 xid, sv name, sv topic, sv want, .int .i64 lease, .int .i64 most, .int .i64 floor, .slice Aa acks.length ka, .slice Aq queue.length kq, sv note] w5 := ⟨HPc5.out.x, HPc5.out.bel⟩
      refine hK.out _ _ ?_ (fun _ => ?_)
      · exact hHeld5
      clear hK K hHeld hra5 hrq5 hb5
      have hHeld := hHeld5
      have HPc0 := HPc
      clear HPc
      have HPc := HPc5
      clear HPc5 hHeld5
      have HCN := Lib.hid hcs0
      clear hcs0
      try simp only [Act.put, zA, zB, zC]
      refine rdA (rs := [1, 5]) (arC2 (i := 1) (j := 5) (fun K hK => ?_) (fun K hK => ?_))
      · have hc3 := HPc.out.s.bx.cell (i := 3) (by simp)
        simp only [List.getElem_cons_succ, List.getElem_cons_zero] at hc3
        go_simp
        refine hK.out _ _ ?_ (fun _ => ?_)
        · exact hHeld
        clear hK K hc3
        try simp only [Act.put, zA, zB, zC]
        refine rdA (rs := [5]) (arC (i := 5) fun K hK => ?_)
        have hal : Below w5.heap.size w5 (w5.alloc (.cells #[.int .i64 xid, sv name, sv topic, sv want, .int .i64 lease, .int .i64 most, .int .i64 floor, .slice A5 acks.length k5, .slice Q5 queue.length j5, sv note] 30)) := (Below.refl _ _).alloc (Nat.le_refl _) _
        have HPc6 := Lib.hid (HPc.out.below hal)
        have HCN6 := Lib.hid (HCN.out.below hal)
        have HVB := Lib.hid (Wh.new w5 [.int .i64 xid, sv name, sv topic, sv want, .int .i64 lease, .int .i64 most, .int .i64 floor, .slice A5 acks.length k5, .slice Q5 queue.length j5, sv note] 30)
        have HNE := Lib.hid HPc.out.own.lt
        have hHeld6 : PutS w [.int .i64 xid, sv name, sv topic, sv want, .int .i64 lease, .int .i64 most, .int .i64 floor, .slice Aa acks.length ka, .slice Aq queue.length kq, sv note] (w5.alloc (.cells #[.int .i64 xid, sv name, sv topic, sv want, .int .i64 lease, .int .i64 most, .int .i64 floor, .slice A5 acks.length k5, .slice Q5 queue.length j5, sv note] 30)) := ⟨HPc6.out.x, HPc6.out.bel⟩
        go_simp
        refine hK.out _ _ ?_ (fun _ => ?_)
        · exact hHeld6
        clear hK K hHeld hal
        have hHeld := hHeld6
        clear HPc HCN hHeld6
        have HPc := HPc6
        have HCN := HCN6
        clear HPc6 HCN6
        try simp only [Act.put, zA, zB, zC]
        refine rdA (rs := [6]) (arC (i := 6) fun K hK => ?_)
        have HIN := Lib.hid (insert_any (w.heap.size + 3) p w5.heap.size (.slice A1 ys.length k1) ys (⟨xid, name, topic, want, lease, most, floor, acks, queue, note⟩ : Sub) [.int .i64 xid, sv name, sv topic, sv want, .int .i64 lease, .int .i64 most, .int .i64 floor, .slice A5 acks.length k5, .slice Q5 queue.length j5, sv note] (w5.alloc (.cells #[.int .i64 xid, sv name, sv topic, sv want, .int .i64 lease, .int .i64 most, .int .i64 floor, .slice A5 acks.length k5, .slice Q5 queue.length j5, sv note] 30)) HPc.out.own hpl (by omega) HVB.out HNE.out HCN.out HPc.out.sz)
        go_simp
        refine HIN.out.mono ?_
        rintro e w7 ⟨v7, rfl, hon7, hb7⟩
        try (go_wp2_with fail)
        rw [← HINS.out] at hon7
        obtain ⟨A6, k6, rfl, _⟩ := hon7.shape
        have hsz7 := HPc.out.sz
        have hs7 : Wh w7 w.heap.size [.int .i64 c, .int .i64 n, .int .i64 l, .slice A1 ys.length k1] 25 := (hb7.block _ (by omega)).trans HPc.out.s
        have hx7 : Wh w7 (w.heap.size + 1) [.int .i64 xid, sv name, sv topic, sv want, .int .i64 lease, .int .i64 most, .int .i64 floor, .slice Aa acks.length ka, .slice Aq queue.length kq, sv note] 30 := (hb7.block _ (by omega)).trans HPc.out.x
        have ho7 : Wh w7 (w.heap.size + 2) O 25 := (hb7.block _ (by omega)).trans HPc.out.o
        have hbt7 : Below w.heap.size w w7 := HPc.out.bel.trans (hb7.mono (by omega))
        have hHeld7 : PutS w [.int .i64 xid, sv name, sv topic, sv want, .int .i64 lease, .int .i64 most, .int .i64 floor, .slice Aa acks.length ka, .slice Aq queue.length kq, sv note] w7 := ⟨hx7, hbt7⟩
        refine hK.out _ _ ?_ (fun _ => ?_)
        · exact hHeld7
        clear hK K hHeld HIN hb7
        have hHeld := hHeld7
        try simp only [Act.put, zA, zB, zC]
        refine tkC 7 ?_
        refine rdA (rs := [8]) (arC (i := 8) fun K hK => ?_)
        have hc3 := hs7.bx.cell (i := 3) (by simp)
        simp only [List.getElem_cons_succ, List.getElem_cons_zero] at hc3
        have hf3 := hs7.frozen 3
        have hs8 := hs7.set1 3 (.slice A6 (insS (⟨xid, name, topic, want, lease, most, floor, acks, queue, note⟩ : Sub) ys).length k6)
        simp only [List.set_cons_succ, List.set_cons_zero] at hs8
        have hx8 := hx7.set1Other (k := w.heap.size) (by omega) 3 (.slice A6 (insS (⟨xid, name, topic, want, lease, most, floor, acks, queue, note⟩ : Sub) ys).length k6)
        have ho8 := ho7.set1Other (k := w.heap.size) (by omega) 3 (.slice A6 (insS (⟨xid, name, topic, want, lease, most, floor, acks, queue, note⟩ : Sub) ys).length k6)
        have hb8 := hbt7.setCell (p := ⟨w.heap.size, 3, none⟩) (Nat.le_refl _) (.slice A6 (insS (⟨xid, name, topic, want, lease, most, floor, acks, queue, note⟩ : Sub) ys).length k6)
        have hon8 := hon7.kept (grown_cell w7 w.heap.size 3 (.slice A6 (insS (⟨xid, name, topic, want, lease, most, floor, acks, queue, note⟩ : Sub) ys).length k6)) (by omega) ⟨_, _, hs7, by decide, by decide⟩
        have hHeld8 : PutS w [.int .i64 xid, sv name, sv topic, sv want, .int .i64 lease, .int .i64 most, .int .i64 floor, .slice Aa acks.length ka, .slice Aq queue.length kq, sv note] (w7.setCell ⟨w.heap.size, 3, none⟩ (.slice A6 (insS (⟨xid, name, topic, want, lease, most, floor, acks, queue, note⟩ : Sub) ys).length k6)) := ⟨hx8, hb8⟩
        go_simp
        refine hK.out _ _ ?_ (fun _ => ?_)
        · exact hHeld8
        clear hK K hHeld hHeld7 hs7 hx7 ho7 hc3 hf3 hx8
        try simp only [Act.put, zA, zB, zC]
        refine wpAnyH_done (by kernel_rfl) ?_ _
        have hsz8 : w.heap.size + 2 < (w7.setCell ⟨w.heap.size, 3, none⟩ (.slice A6 (insS (⟨xid, name, topic, want, lease, most, floor, acks, queue, note⟩ : Sub) ys).length k6)).heap.size := ho8.lt
        obtain ⟨W8, hW8⟩ : ∃ W8, W8 = w7.setCell ⟨w.heap.size, 3, none⟩ (.slice A6 (insS (⟨xid, name, topic, want, lease, most, floor, acks, queue, note⟩ : Sub) ys).length k6) := ⟨_, rfl⟩
        rw [← hW8] at hs8 ho8 hb8 hon8 ⊢
        have HR8 := Lib.hid hs8.range
        have HO8 := Lib.hid ho8
        have HB8 := Lib.hid hb8
        have HON8 := Lib.hid hon8
        clear hW8 hHeld8 hs8 ho8 hb8 hon8 hsz8
        go_wp2_with (first
          | (refine wpList_load_midG (by rfl) 25 (.tmp 2) rfl w.heap.size 0 rfl _ _ HR8.out Tryz.underlying25 rfl size24 ?_)
          | (refine wpList_store_row rfl 25 (.tmp 4) (.tmp 29) rfl (w.heap.size + 2) #[.int .i64 c, .int .i64 n, .int .i64 l, .slice A6 (insS (⟨xid, name, topic, want, lease, most, floor, acks, queue, note⟩ : Sub) ys).length k6] rfl rfl 25 O.toArray HO8.out size24 HOL.out (st_all c n l rfl) ?_))
        refine bodyPost_ret (results_cell_row rfl _ _ (w.heap.size + 2) 25 #[.int .i64 c, .int .i64 n, .int .i64 l, .slice A6 (insS (⟨xid, name, topic, want, lease, most, floor, acks, queue, note⟩ : Sub) ys).length k6] (0, 0) _ rfl (HO8.out.set [.int .i64 c, .int .i64 n, .int .i64 l, .slice A6 (insS (⟨xid, name, topic, want, lease, most, floor, acks, queue, note⟩ : Sub) ys).length k6]) Tryz.underlying25 rfl size24) rfl ?_
        rw [HPUT.out]
        have hosf := HON8.out.kept (grown_row W8 (w.heap.size + 2) #[.int .i64 c, .int .i64 n, .int .i64 l, .slice A6 (insS (⟨xid, name, topic, want, lease, most, floor, acks, queue, note⟩ : Sub) ys).length k6]) (by omega) ⟨_, _, HO8.out, by decide, by decide⟩
        exact ⟨_, rfl, hosf.base_ (by omega), below_setRow HB8.out (by omega) _⟩
      · have hal : Below w5.heap.size w5 (w5.alloc (.cells #[.int .i64 xid, sv name, sv topic, sv want, .int .i64 lease, .int .i64 most, .int .i64 floor, .slice A5 acks.length k5, .slice Q5 queue.length j5, sv note] 30)) := (Below.refl _ _).alloc (Nat.le_refl _) _
        have HPc6 := Lib.hid (HPc.out.below hal)
        have HCN6 := Lib.hid (HCN.out.below hal)
        have HVB := Lib.hid (Wh.new w5 [.int .i64 xid, sv name, sv topic, sv want, .int .i64 lease, .int .i64 most, .int .i64 floor, .slice A5 acks.length k5, .slice Q5 queue.length j5, sv note] 30)
        have HNE := Lib.hid HPc.out.own.lt
        have hHeld6 : PutS w [.int .i64 xid, sv name, sv topic, sv want, .int .i64 lease, .int .i64 most, .int .i64 floor, .slice Aa acks.length ka, .slice Aq queue.length kq, sv note] (w5.alloc (.cells #[.int .i64 xid, sv name, sv topic, sv want, .int .i64 lease, .int .i64 most, .int .i64 floor, .slice A5 acks.length k5, .slice Q5 queue.length j5, sv note] 30)) := ⟨HPc6.out.x, HPc6.out.bel⟩
        go_simp
        refine hK.out _ _ ?_ (fun _ => ?_)
        · exact hHeld6
        clear hK K hHeld hal
        have hHeld := hHeld6
        clear HPc HCN hHeld6
        have HPc := HPc6
        have HCN := HCN6
        clear HPc6 HCN6
        try simp only [Act.put, zA, zB, zC]
        refine rdA (rs := [1]) (arC (i := 1) fun K hK => ?_)
        have hc3 := HPc.out.s.bx.cell (i := 3) (by simp)
        simp only [List.getElem_cons_succ, List.getElem_cons_zero] at hc3
        go_simp
        refine hK.out _ _ ?_ (fun _ => ?_)
        · exact hHeld
        clear hK K hc3
        try simp only [Act.put, zA, zB, zC]
        refine rdA (rs := [6]) (arC (i := 6) fun K hK => ?_)
        have HIN := Lib.hid (insert_any (w.heap.size + 3) p w5.heap.size (.slice A1 ys.length k1) ys (⟨xid, name, topic, want, lease, most, floor, acks, queue, note⟩ : Sub) [.int .i64 xid, sv name, sv topic, sv want, .int .i64 lease, .int .i64 most, .int .i64 floor, .slice A5 acks.length k5, .slice Q5 queue.length j5, sv note] (w5.alloc (.cells #[.int .i64 xid, sv name, sv topic, sv want, .int .i64 lease, .int .i64 most, .int .i64 floor, .slice A5 acks.length k5, .slice Q5 queue.length j5, sv note] 30)) HPc.out.own hpl (by omega) HVB.out HNE.out HCN.out HPc.out.sz)
        go_simp
        refine HIN.out.mono ?_
        rintro e w7 ⟨v7, rfl, hon7, hb7⟩
        try (go_wp2_with fail)
        rw [← HINS.out] at hon7
        obtain ⟨A6, k6, rfl, _⟩ := hon7.shape
        have hsz7 := HPc.out.sz
        have hs7 : Wh w7 w.heap.size [.int .i64 c, .int .i64 n, .int .i64 l, .slice A1 ys.length k1] 25 := (hb7.block _ (by omega)).trans HPc.out.s
        have hx7 : Wh w7 (w.heap.size + 1) [.int .i64 xid, sv name, sv topic, sv want, .int .i64 lease, .int .i64 most, .int .i64 floor, .slice Aa acks.length ka, .slice Aq queue.length kq, sv note] 30 := (hb7.block _ (by omega)).trans HPc.out.x
        have ho7 : Wh w7 (w.heap.size + 2) O 25 := (hb7.block _ (by omega)).trans HPc.out.o
        have hbt7 : Below w.heap.size w w7 := HPc.out.bel.trans (hb7.mono (by omega))
        have hHeld7 : PutS w [.int .i64 xid, sv name, sv topic, sv want, .int .i64 lease, .int .i64 most, .int .i64 floor, .slice Aa acks.length ka, .slice Aq queue.length kq, sv note] w7 := ⟨hx7, hbt7⟩
        refine hK.out _ _ ?_ (fun _ => ?_)
        · exact hHeld7
        clear hK K hHeld HIN hb7
        have hHeld := hHeld7
        try simp only [Act.put, zA, zB, zC]
        refine tkC 7 ?_
        refine rdA (rs := [8]) (arC (i := 8) fun K hK => ?_)
        have hc3 := hs7.bx.cell (i := 3) (by simp)
        simp only [List.getElem_cons_succ, List.getElem_cons_zero] at hc3
        have hf3 := hs7.frozen 3
        have hs8 := hs7.set1 3 (.slice A6 (insS (⟨xid, name, topic, want, lease, most, floor, acks, queue, note⟩ : Sub) ys).length k6)
        simp only [List.set_cons_succ, List.set_cons_zero] at hs8
        have hx8 := hx7.set1Other (k := w.heap.size) (by omega) 3 (.slice A6 (insS (⟨xid, name, topic, want, lease, most, floor, acks, queue, note⟩ : Sub) ys).length k6)
        have ho8 := ho7.set1Other (k := w.heap.size) (by omega) 3 (.slice A6 (insS (⟨xid, name, topic, want, lease, most, floor, acks, queue, note⟩ : Sub) ys).length k6)
        have hb8 := hbt7.setCell (p := ⟨w.heap.size, 3, none⟩) (Nat.le_refl _) (.slice A6 (insS (⟨xid, name, topic, want, lease, most, floor, acks, queue, note⟩ : Sub) ys).length k6)
        have hon8 := hon7.kept (grown_cell w7 w.heap.size 3 (.slice A6 (insS (⟨xid, name, topic, want, lease, most, floor, acks, queue, note⟩ : Sub) ys).length k6)) (by omega) ⟨_, _, hs7, by decide, by decide⟩
        have hHeld8 : PutS w [.int .i64 xid, sv name, sv topic, sv want, .int .i64 lease, .int .i64 most, .int .i64 floor, .slice Aa acks.length ka, .slice Aq queue.length kq, sv note] (w7.setCell ⟨w.heap.size, 3, none⟩ (.slice A6 (insS (⟨xid, name, topic, want, lease, most, floor, acks, queue, note⟩ : Sub) ys).length k6)) := ⟨hx8, hb8⟩
        go_simp
        refine hK.out _ _ ?_ (fun _ => ?_)
        · exact hHeld8
        clear hK K hHeld hHeld7 hs7 hx7 ho7 hc3 hf3 hx8
        try simp only [Act.put, zA, zB, zC]
        refine wpAnyH_done (by kernel_rfl) ?_ _
        have hsz8 : w.heap.size + 2 < (w7.setCell ⟨w.heap.size, 3, none⟩ (.slice A6 (insS (⟨xid, name, topic, want, lease, most, floor, acks, queue, note⟩ : Sub) ys).length k6)).heap.size := ho8.lt
        obtain ⟨W8, hW8⟩ : ∃ W8, W8 = w7.setCell ⟨w.heap.size, 3, none⟩ (.slice A6 (insS (⟨xid, name, topic, want, lease, most, floor, acks, queue, note⟩ : Sub) ys).length k6) := ⟨_, rfl⟩
        rw [← hW8] at hs8 ho8 hb8 hon8 ⊢
        have HR8 := Lib.hid hs8.range
        have HO8 := Lib.hid ho8
        have HB8 := Lib.hid hb8
        have HON8 := Lib.hid hon8
        clear hW8 hHeld8 hs8 ho8 hb8 hon8 hsz8
        go_wp2_with (first
          | (refine wpList_load_midG (by rfl) 25 (.tmp 2) rfl w.heap.size 0 rfl _ _ HR8.out Tryz.underlying25 rfl size24 ?_)
          | (refine wpList_store_row rfl 25 (.tmp 4) (.tmp 29) rfl (w.heap.size + 2) #[.int .i64 c, .int .i64 n, .int .i64 l, .slice A6 (insS (⟨xid, name, topic, want, lease, most, floor, acks, queue, note⟩ : Sub) ys).length k6] rfl rfl 25 O.toArray HO8.out size24 HOL.out (st_all c n l rfl) ?_))
        refine bodyPost_ret (results_cell_row rfl _ _ (w.heap.size + 2) 25 #[.int .i64 c, .int .i64 n, .int .i64 l, .slice A6 (insS (⟨xid, name, topic, want, lease, most, floor, acks, queue, note⟩ : Sub) ys).length k6] (0, 0) _ rfl (HO8.out.set [.int .i64 c, .int .i64 n, .int .i64 l, .slice A6 (insS (⟨xid, name, topic, want, lease, most, floor, acks, queue, note⟩ : Sub) ys).length k6]) Tryz.underlying25 rfl size24) rfl ?_
        rw [HPUT.out]
        have hosf := HON8.out.kept (grown_row W8 (w.heap.size + 2) #[.int .i64 c, .int .i64 n, .int .i64 l, .slice A6 (insS (⟨xid, name, topic, want, lease, most, floor, acks, queue, note⟩ : Sub) ys).length k6]) (by omega) ⟨_, _, HO8.out, by decide, by decide⟩
        exact ⟨_, rfl, hosf.base_ (by omega), below_setRow HB8.out (by omega) _⟩
  · subst hpe
    go_wp2_with fail
    have HXR := Lib.hid (show ∀ W, PutS w [.int .i64 xid, sv name, sv topic, sv want, .int .i64 lease, .int .i64 most, .int .i64 floor, .slice Aa acks.length ka, .slice Aq queue.length kq, sv note] W → W.rangeAt (w.heap.size + 1) 0 [.int .i64 xid, sv name, sv topic, sv want, .int .i64 lease, .int .i64 most, .int .i64 floor, .slice Aa acks.length ka, .slice Aq queue.length kq, sv note] from fun W hW => hW.1.range)
    have hbx : w.heap.size ≤ w4.heap.size := HP4.out.bel.size
    refine wp_region_held_drew (S := PutS w [.int .i64 xid, sv name, sv topic, sv want, .int .i64 lease, .int .i64 most, .int .i64 floor, .slice Aa acks.length ka, .slice Aq queue.length kq, sv note]) (by kernel_rfl) ⟨HP4.out.x, HP4.out.bel.drew⟩ (fun hHeld => ?_)
    have HPc := Lib.hid (HP4.out.below (Below.refl _ _).drew)
    clear HP4 c34
    refine tkC 0 ?_
    refine tkC 2 ?_
    refine tkA 3 (v := .agg #[.int .i64 xid, sv name, sv topic, sv want, .int .i64 lease, .int .i64 most, .int .i64 floor, .slice Aa acks.length ka, .slice Aq queue.length kq, sv note]) (fun W hSw => exec_load_mid 30 (.tmp 3) rfl (w.heap.size + 1) 0 rfl _ _ (HXR.out W hSw) Tryz.underlying30 rfl size35) ?_
    try simp only [Act.put, zA, zB, zC]
    refine rdA (rs := [1, 4]) (arC2 (i := 1) (j := 4) (fun K hK => ?_) (fun K hK => ?_))
    · have hc3 := HPc.out.s.bx.cell (i := 3) (by simp)
      simp only [List.getElem_cons_succ, List.getElem_cons_zero] at hc3
      go_simp
      refine hK.out _ _ ?_ (fun _ => ?_)
      · exact hHeld
      clear hK K hc3
      try simp only [Act.put, zA, zB, zC]
      refine rdA (rs := [4]) (arC (i := 4) fun K hK => ?_)
      go_simp
      refine (own_any (⟨xid, name, topic, want, lease, most, floor, acks, queue, note⟩ : Sub) (.slice Aa acks.length ka) (.slice Aq queue.length kq) _ (HRA.out.below stays_ci (HPc.out.bel)) (HRQ.out.below stays_cm (HPc.out.bel)) HZX.out).mono ?_
      rintro e w5 ⟨cs, rfl, hcn, hb5⟩
      have hcs0 := hcn
      obtain ⟨a5, q5, rfl, hra5, hrq5⟩ := hcn
      have hall5 := sub_all (⟨xid, name, topic, want, lease, most, floor, acks, queue, note⟩ : Sub) (rl_one hra5.rl) (rl_one hrq5.rl)
      obtain ⟨A5, k5, rfl, _⟩ := hra5.rl.shape
      obtain ⟨Q5, j5, rfl, _⟩ := hrq5.rl.shape
      simp only [subC] at hcs0 hall5 ⊢
      try (go_wp2_with fail)
      have HPc5 := Lib.hid (HPc.out.below hb5)
      have hHeld5 : PutS w [.int .i64 xid, sv name, sv topic, sv want, .int .i64 lease, .int .i64 most, .int .i64 floor, .slice Aa acks.length ka, .slice Aq queue.length kq, sv note] w5 := ⟨HPc5.out.x, HPc5.out.bel⟩
      refine hK.out _ _ ?_ (fun _ => ?_)
      · exact hHeld5
      clear hK K hHeld hra5 hrq5 hb5
      have hHeld := hHeld5
      have HPc0 := HPc
      clear HPc
      have HPc := HPc5
      clear HPc5 hHeld5
      have HCN := Lib.hid hcs0
      clear hcs0
      try simp only [Act.put, zA, zB, zC]
      refine rdA (rs := [5]) (arC (i := 5) fun K hK => ?_)
      have hal : Below w5.heap.size w5 (w5.alloc (.cells #[.int .i64 xid, sv name, sv topic, sv want, .int .i64 lease, .int .i64 most, .int .i64 floor, .slice A5 acks.length k5, .slice Q5 queue.length j5, sv note] 30)) := (Below.refl _ _).alloc (Nat.le_refl _) _
      have HPc6 := Lib.hid (HPc.out.below hal)
      have HCN6 := Lib.hid (HCN.out.below hal)
      have HVB := Lib.hid (Wh.new w5 [.int .i64 xid, sv name, sv topic, sv want, .int .i64 lease, .int .i64 most, .int .i64 floor, .slice A5 acks.length k5, .slice Q5 queue.length j5, sv note] 30)
      have HNE := Lib.hid HPc.out.own.lt
      have hHeld6 : PutS w [.int .i64 xid, sv name, sv topic, sv want, .int .i64 lease, .int .i64 most, .int .i64 floor, .slice Aa acks.length ka, .slice Aq queue.length kq, sv note] (w5.alloc (.cells #[.int .i64 xid, sv name, sv topic, sv want, .int .i64 lease, .int .i64 most, .int .i64 floor, .slice A5 acks.length k5, .slice Q5 queue.length j5, sv note] 30)) := ⟨HPc6.out.x, HPc6.out.bel⟩
      go_simp
      refine hK.out _ _ ?_ (fun _ => ?_)
      · exact hHeld6
      clear hK K hHeld hal
      have hHeld := hHeld6
      clear HPc HCN hHeld6
      have HPc := HPc6
      have HCN := HCN6
      clear HPc6 HCN6
      try simp only [Act.put, zA, zB, zC]
      refine rdA (rs := [6]) (arC (i := 6) fun K hK => ?_)
      have HIN := Lib.hid (insert_any (w.heap.size + 3) ys.length w5.heap.size (.slice A1 ys.length k1) ys (⟨xid, name, topic, want, lease, most, floor, acks, queue, note⟩ : Sub) [.int .i64 xid, sv name, sv topic, sv want, .int .i64 lease, .int .i64 most, .int .i64 floor, .slice A5 acks.length k5, .slice Q5 queue.length j5, sv note] (w5.alloc (.cells #[.int .i64 xid, sv name, sv topic, sv want, .int .i64 lease, .int .i64 most, .int .i64 floor, .slice A5 acks.length k5, .slice Q5 queue.length j5, sv note] 30)) HPc.out.own hpl (by omega) HVB.out HNE.out HCN.out HPc.out.sz)
      go_simp
      refine HIN.out.mono ?_
      rintro e w7 ⟨v7, rfl, hon7, hb7⟩
      try (go_wp2_with fail)
      rw [← HINS.out] at hon7
      obtain ⟨A6, k6, rfl, _⟩ := hon7.shape
      have hsz7 := HPc.out.sz
      have hs7 : Wh w7 w.heap.size [.int .i64 c, .int .i64 n, .int .i64 l, .slice A1 ys.length k1] 25 := (hb7.block _ (by omega)).trans HPc.out.s
      have hx7 : Wh w7 (w.heap.size + 1) [.int .i64 xid, sv name, sv topic, sv want, .int .i64 lease, .int .i64 most, .int .i64 floor, .slice Aa acks.length ka, .slice Aq queue.length kq, sv note] 30 := (hb7.block _ (by omega)).trans HPc.out.x
      have ho7 : Wh w7 (w.heap.size + 2) O 25 := (hb7.block _ (by omega)).trans HPc.out.o
      have hbt7 : Below w.heap.size w w7 := HPc.out.bel.trans (hb7.mono (by omega))
      have hHeld7 : PutS w [.int .i64 xid, sv name, sv topic, sv want, .int .i64 lease, .int .i64 most, .int .i64 floor, .slice Aa acks.length ka, .slice Aq queue.length kq, sv note] w7 := ⟨hx7, hbt7⟩
      refine hK.out _ _ ?_ (fun _ => ?_)
      · exact hHeld7
      clear hK K hHeld HIN hb7
      have hHeld := hHeld7
      try simp only [Act.put, zA, zB, zC]
      refine tkC 7 ?_
      refine rdA (rs := [8]) (arC (i := 8) fun K hK => ?_)
      have hc3 := hs7.bx.cell (i := 3) (by simp)
      simp only [List.getElem_cons_succ, List.getElem_cons_zero] at hc3
      have hf3 := hs7.frozen 3
      have hs8 := hs7.set1 3 (.slice A6 (insS (⟨xid, name, topic, want, lease, most, floor, acks, queue, note⟩ : Sub) ys).length k6)
      simp only [List.set_cons_succ, List.set_cons_zero] at hs8
      have hx8 := hx7.set1Other (k := w.heap.size) (by omega) 3 (.slice A6 (insS (⟨xid, name, topic, want, lease, most, floor, acks, queue, note⟩ : Sub) ys).length k6)
      have ho8 := ho7.set1Other (k := w.heap.size) (by omega) 3 (.slice A6 (insS (⟨xid, name, topic, want, lease, most, floor, acks, queue, note⟩ : Sub) ys).length k6)
      have hb8 := hbt7.setCell (p := ⟨w.heap.size, 3, none⟩) (Nat.le_refl _) (.slice A6 (insS (⟨xid, name, topic, want, lease, most, floor, acks, queue, note⟩ : Sub) ys).length k6)
      have hon8 := hon7.kept (grown_cell w7 w.heap.size 3 (.slice A6 (insS (⟨xid, name, topic, want, lease, most, floor, acks, queue, note⟩ : Sub) ys).length k6)) (by omega) ⟨_, _, hs7, by decide, by decide⟩
      have hHeld8 : PutS w [.int .i64 xid, sv name, sv topic, sv want, .int .i64 lease, .int .i64 most, .int .i64 floor, .slice Aa acks.length ka, .slice Aq queue.length kq, sv note] (w7.setCell ⟨w.heap.size, 3, none⟩ (.slice A6 (insS (⟨xid, name, topic, want, lease, most, floor, acks, queue, note⟩ : Sub) ys).length k6)) := ⟨hx8, hb8⟩
      go_simp
      refine hK.out _ _ ?_ (fun _ => ?_)
      · exact hHeld8
      clear hK K hHeld hHeld7 hs7 hx7 ho7 hc3 hf3 hx8
      try simp only [Act.put, zA, zB, zC]
      refine wpAnyH_done (by kernel_rfl) ?_ _
      have hsz8 : w.heap.size + 2 < (w7.setCell ⟨w.heap.size, 3, none⟩ (.slice A6 (insS (⟨xid, name, topic, want, lease, most, floor, acks, queue, note⟩ : Sub) ys).length k6)).heap.size := ho8.lt
      obtain ⟨W8, hW8⟩ : ∃ W8, W8 = w7.setCell ⟨w.heap.size, 3, none⟩ (.slice A6 (insS (⟨xid, name, topic, want, lease, most, floor, acks, queue, note⟩ : Sub) ys).length k6) := ⟨_, rfl⟩
      rw [← hW8] at hs8 ho8 hb8 hon8 ⊢
      have HR8 := Lib.hid hs8.range
      have HO8 := Lib.hid ho8
      have HB8 := Lib.hid hb8
      have HON8 := Lib.hid hon8
      clear hW8 hHeld8 hs8 ho8 hb8 hon8 hsz8
      go_wp2_with (first
        | (refine wpList_load_midG (by rfl) 25 (.tmp 2) rfl w.heap.size 0 rfl _ _ HR8.out Tryz.underlying25 rfl size24 ?_)
        | (refine wpList_store_row rfl 25 (.tmp 4) (.tmp 29) rfl (w.heap.size + 2) #[.int .i64 c, .int .i64 n, .int .i64 l, .slice A6 (insS (⟨xid, name, topic, want, lease, most, floor, acks, queue, note⟩ : Sub) ys).length k6] rfl rfl 25 O.toArray HO8.out size24 HOL.out (st_all c n l rfl) ?_))
      refine bodyPost_ret (results_cell_row rfl _ _ (w.heap.size + 2) 25 #[.int .i64 c, .int .i64 n, .int .i64 l, .slice A6 (insS (⟨xid, name, topic, want, lease, most, floor, acks, queue, note⟩ : Sub) ys).length k6] (0, 0) _ rfl (HO8.out.set [.int .i64 c, .int .i64 n, .int .i64 l, .slice A6 (insS (⟨xid, name, topic, want, lease, most, floor, acks, queue, note⟩ : Sub) ys).length k6]) Tryz.underlying25 rfl size24) rfl ?_
      rw [HPUT.out]
      have hosf := HON8.out.kept (grown_row W8 (w.heap.size + 2) #[.int .i64 c, .int .i64 n, .int .i64 l, .slice A6 (insS (⟨xid, name, topic, want, lease, most, floor, acks, queue, note⟩ : Sub) ys).length k6]) (by omega) ⟨_, _, HO8.out, by decide, by decide⟩
      exact ⟨_, rfl, hosf.base_ (by omega), below_setRow HB8.out (by omega) _⟩
    · go_simp
      refine (own_any (⟨xid, name, topic, want, lease, most, floor, acks, queue, note⟩ : Sub) (.slice Aa acks.length ka) (.slice Aq queue.length kq) _ (HRA.out.below stays_ci (HPc.out.bel)) (HRQ.out.below stays_cm (HPc.out.bel)) HZX.out).mono ?_
      rintro e w5 ⟨cs, rfl, hcn, hb5⟩
      have hcs0 := hcn
      obtain ⟨a5, q5, rfl, hra5, hrq5⟩ := hcn
      have hall5 := sub_all (⟨xid, name, topic, want, lease, most, floor, acks, queue, note⟩ : Sub) (rl_one hra5.rl) (rl_one hrq5.rl)
      obtain ⟨A5, k5, rfl, _⟩ := hra5.rl.shape
      obtain ⟨Q5, j5, rfl, _⟩ := hrq5.rl.shape
      simp only [subC] at hcs0 hall5 ⊢
      try (go_wp2_with fail)
      have HPc5 := Lib.hid (HPc.out.below hb5)
      have hHeld5 : PutS w [.int .i64 xid, sv name, sv topic, sv want, .int .i64 lease, .int .i64 most, .int .i64 floor, .slice Aa acks.length ka, .slice Aq queue.length kq, sv note] w5 := ⟨HPc5.out.x, HPc5.out.bel⟩
      refine hK.out _ _ ?_ (fun _ => ?_)
      · exact hHeld5
      clear hK K hHeld hra5 hrq5 hb5
      have hHeld := hHeld5
      have HPc0 := HPc
      clear HPc
      have HPc := HPc5
      clear HPc5 hHeld5
      have HCN := Lib.hid hcs0
      clear hcs0
      try simp only [Act.put, zA, zB, zC]
      refine rdA (rs := [1, 5]) (arC2 (i := 1) (j := 5) (fun K hK => ?_) (fun K hK => ?_))
      · have hc3 := HPc.out.s.bx.cell (i := 3) (by simp)
        simp only [List.getElem_cons_succ, List.getElem_cons_zero] at hc3
        go_simp
        refine hK.out _ _ ?_ (fun _ => ?_)
        · exact hHeld
        clear hK K hc3
        try simp only [Act.put, zA, zB, zC]
        refine rdA (rs := [5]) (arC (i := 5) fun K hK => ?_)
        have hal : Below w5.heap.size w5 (w5.alloc (.cells #[.int .i64 xid, sv name, sv topic, sv want, .int .i64 lease, .int .i64 most, .int .i64 floor, .slice A5 acks.length k5, .slice Q5 queue.length j5, sv note] 30)) := (Below.refl _ _).alloc (Nat.le_refl _) _
        have HPc6 := Lib.hid (HPc.out.below hal)
        have HCN6 := Lib.hid (HCN.out.below hal)
        have HVB := Lib.hid (Wh.new w5 [.int .i64 xid, sv name, sv topic, sv want, .int .i64 lease, .int .i64 most, .int .i64 floor, .slice A5 acks.length k5, .slice Q5 queue.length j5, sv note] 30)
        have HNE := Lib.hid HPc.out.own.lt
        have hHeld6 : PutS w [.int .i64 xid, sv name, sv topic, sv want, .int .i64 lease, .int .i64 most, .int .i64 floor, .slice Aa acks.length ka, .slice Aq queue.length kq, sv note] (w5.alloc (.cells #[.int .i64 xid, sv name, sv topic, sv want, .int .i64 lease, .int .i64 most, .int .i64 floor, .slice A5 acks.length k5, .slice Q5 queue.length j5, sv note] 30)) := ⟨HPc6.out.x, HPc6.out.bel⟩
        go_simp
        refine hK.out _ _ ?_ (fun _ => ?_)
        · exact hHeld6
        clear hK K hHeld hal
        have hHeld := hHeld6
        clear HPc HCN hHeld6
        have HPc := HPc6
        have HCN := HCN6
        clear HPc6 HCN6
        try simp only [Act.put, zA, zB, zC]
        refine rdA (rs := [6]) (arC (i := 6) fun K hK => ?_)
        have HIN := Lib.hid (insert_any (w.heap.size + 3) ys.length w5.heap.size (.slice A1 ys.length k1) ys (⟨xid, name, topic, want, lease, most, floor, acks, queue, note⟩ : Sub) [.int .i64 xid, sv name, sv topic, sv want, .int .i64 lease, .int .i64 most, .int .i64 floor, .slice A5 acks.length k5, .slice Q5 queue.length j5, sv note] (w5.alloc (.cells #[.int .i64 xid, sv name, sv topic, sv want, .int .i64 lease, .int .i64 most, .int .i64 floor, .slice A5 acks.length k5, .slice Q5 queue.length j5, sv note] 30)) HPc.out.own hpl (by omega) HVB.out HNE.out HCN.out HPc.out.sz)
        go_simp
        refine HIN.out.mono ?_
        rintro e w7 ⟨v7, rfl, hon7, hb7⟩
        try (go_wp2_with fail)
        rw [← HINS.out] at hon7
        obtain ⟨A6, k6, rfl, _⟩ := hon7.shape
        have hsz7 := HPc.out.sz
        have hs7 : Wh w7 w.heap.size [.int .i64 c, .int .i64 n, .int .i64 l, .slice A1 ys.length k1] 25 := (hb7.block _ (by omega)).trans HPc.out.s
        have hx7 : Wh w7 (w.heap.size + 1) [.int .i64 xid, sv name, sv topic, sv want, .int .i64 lease, .int .i64 most, .int .i64 floor, .slice Aa acks.length ka, .slice Aq queue.length kq, sv note] 30 := (hb7.block _ (by omega)).trans HPc.out.x
        have ho7 : Wh w7 (w.heap.size + 2) O 25 := (hb7.block _ (by omega)).trans HPc.out.o
        have hbt7 : Below w.heap.size w w7 := HPc.out.bel.trans (hb7.mono (by omega))
        have hHeld7 : PutS w [.int .i64 xid, sv name, sv topic, sv want, .int .i64 lease, .int .i64 most, .int .i64 floor, .slice Aa acks.length ka, .slice Aq queue.length kq, sv note] w7 := ⟨hx7, hbt7⟩
        refine hK.out _ _ ?_ (fun _ => ?_)
        · exact hHeld7
        clear hK K hHeld HIN hb7
        have hHeld := hHeld7
        try simp only [Act.put, zA, zB, zC]
        refine tkC 7 ?_
        refine rdA (rs := [8]) (arC (i := 8) fun K hK => ?_)
        have hc3 := hs7.bx.cell (i := 3) (by simp)
        simp only [List.getElem_cons_succ, List.getElem_cons_zero] at hc3
        have hf3 := hs7.frozen 3
        have hs8 := hs7.set1 3 (.slice A6 (insS (⟨xid, name, topic, want, lease, most, floor, acks, queue, note⟩ : Sub) ys).length k6)
        simp only [List.set_cons_succ, List.set_cons_zero] at hs8
        have hx8 := hx7.set1Other (k := w.heap.size) (by omega) 3 (.slice A6 (insS (⟨xid, name, topic, want, lease, most, floor, acks, queue, note⟩ : Sub) ys).length k6)
        have ho8 := ho7.set1Other (k := w.heap.size) (by omega) 3 (.slice A6 (insS (⟨xid, name, topic, want, lease, most, floor, acks, queue, note⟩ : Sub) ys).length k6)
        have hb8 := hbt7.setCell (p := ⟨w.heap.size, 3, none⟩) (Nat.le_refl _) (.slice A6 (insS (⟨xid, name, topic, want, lease, most, floor, acks, queue, note⟩ : Sub) ys).length k6)
        have hon8 := hon7.kept (grown_cell w7 w.heap.size 3 (.slice A6 (insS (⟨xid, name, topic, want, lease, most, floor, acks, queue, note⟩ : Sub) ys).length k6)) (by omega) ⟨_, _, hs7, by decide, by decide⟩
        have hHeld8 : PutS w [.int .i64 xid, sv name, sv topic, sv want, .int .i64 lease, .int .i64 most, .int .i64 floor, .slice Aa acks.length ka, .slice Aq queue.length kq, sv note] (w7.setCell ⟨w.heap.size, 3, none⟩ (.slice A6 (insS (⟨xid, name, topic, want, lease, most, floor, acks, queue, note⟩ : Sub) ys).length k6)) := ⟨hx8, hb8⟩
        go_simp
        refine hK.out _ _ ?_ (fun _ => ?_)
        · exact hHeld8
        clear hK K hHeld hHeld7 hs7 hx7 ho7 hc3 hf3 hx8
        try simp only [Act.put, zA, zB, zC]
        refine wpAnyH_done (by kernel_rfl) ?_ _
        have hsz8 : w.heap.size + 2 < (w7.setCell ⟨w.heap.size, 3, none⟩ (.slice A6 (insS (⟨xid, name, topic, want, lease, most, floor, acks, queue, note⟩ : Sub) ys).length k6)).heap.size := ho8.lt
        obtain ⟨W8, hW8⟩ : ∃ W8, W8 = w7.setCell ⟨w.heap.size, 3, none⟩ (.slice A6 (insS (⟨xid, name, topic, want, lease, most, floor, acks, queue, note⟩ : Sub) ys).length k6) := ⟨_, rfl⟩
        rw [← hW8] at hs8 ho8 hb8 hon8 ⊢
        have HR8 := Lib.hid hs8.range
        have HO8 := Lib.hid ho8
        have HB8 := Lib.hid hb8
        have HON8 := Lib.hid hon8
        clear hW8 hHeld8 hs8 ho8 hb8 hon8 hsz8
        go_wp2_with (first
          | (refine wpList_load_midG (by rfl) 25 (.tmp 2) rfl w.heap.size 0 rfl _ _ HR8.out Tryz.underlying25 rfl size24 ?_)
          | (refine wpList_store_row rfl 25 (.tmp 4) (.tmp 29) rfl (w.heap.size + 2) #[.int .i64 c, .int .i64 n, .int .i64 l, .slice A6 (insS (⟨xid, name, topic, want, lease, most, floor, acks, queue, note⟩ : Sub) ys).length k6] rfl rfl 25 O.toArray HO8.out size24 HOL.out (st_all c n l rfl) ?_))
        refine bodyPost_ret (results_cell_row rfl _ _ (w.heap.size + 2) 25 #[.int .i64 c, .int .i64 n, .int .i64 l, .slice A6 (insS (⟨xid, name, topic, want, lease, most, floor, acks, queue, note⟩ : Sub) ys).length k6] (0, 0) _ rfl (HO8.out.set [.int .i64 c, .int .i64 n, .int .i64 l, .slice A6 (insS (⟨xid, name, topic, want, lease, most, floor, acks, queue, note⟩ : Sub) ys).length k6]) Tryz.underlying25 rfl size24) rfl ?_
        rw [HPUT.out]
        have hosf := HON8.out.kept (grown_row W8 (w.heap.size + 2) #[.int .i64 c, .int .i64 n, .int .i64 l, .slice A6 (insS (⟨xid, name, topic, want, lease, most, floor, acks, queue, note⟩ : Sub) ys).length k6]) (by omega) ⟨_, _, HO8.out, by decide, by decide⟩
        exact ⟨_, rfl, hosf.base_ (by omega), below_setRow HB8.out (by omega) _⟩
      · have hal : Below w5.heap.size w5 (w5.alloc (.cells #[.int .i64 xid, sv name, sv topic, sv want, .int .i64 lease, .int .i64 most, .int .i64 floor, .slice A5 acks.length k5, .slice Q5 queue.length j5, sv note] 30)) := (Below.refl _ _).alloc (Nat.le_refl _) _
        have HPc6 := Lib.hid (HPc.out.below hal)
        have HCN6 := Lib.hid (HCN.out.below hal)
        have HVB := Lib.hid (Wh.new w5 [.int .i64 xid, sv name, sv topic, sv want, .int .i64 lease, .int .i64 most, .int .i64 floor, .slice A5 acks.length k5, .slice Q5 queue.length j5, sv note] 30)
        have HNE := Lib.hid HPc.out.own.lt
        have hHeld6 : PutS w [.int .i64 xid, sv name, sv topic, sv want, .int .i64 lease, .int .i64 most, .int .i64 floor, .slice Aa acks.length ka, .slice Aq queue.length kq, sv note] (w5.alloc (.cells #[.int .i64 xid, sv name, sv topic, sv want, .int .i64 lease, .int .i64 most, .int .i64 floor, .slice A5 acks.length k5, .slice Q5 queue.length j5, sv note] 30)) := ⟨HPc6.out.x, HPc6.out.bel⟩
        go_simp
        refine hK.out _ _ ?_ (fun _ => ?_)
        · exact hHeld6
        clear hK K hHeld hal
        have hHeld := hHeld6
        clear HPc HCN hHeld6
        have HPc := HPc6
        have HCN := HCN6
        clear HPc6 HCN6
        try simp only [Act.put, zA, zB, zC]
        refine rdA (rs := [1]) (arC (i := 1) fun K hK => ?_)
        have hc3 := HPc.out.s.bx.cell (i := 3) (by simp)
        simp only [List.getElem_cons_succ, List.getElem_cons_zero] at hc3
        go_simp
        refine hK.out _ _ ?_ (fun _ => ?_)
        · exact hHeld
        clear hK K hc3
        try simp only [Act.put, zA, zB, zC]
        refine rdA (rs := [6]) (arC (i := 6) fun K hK => ?_)
        have HIN := Lib.hid (insert_any (w.heap.size + 3) ys.length w5.heap.size (.slice A1 ys.length k1) ys (⟨xid, name, topic, want, lease, most, floor, acks, queue, note⟩ : Sub) [.int .i64 xid, sv name, sv topic, sv want, .int .i64 lease, .int .i64 most, .int .i64 floor, .slice A5 acks.length k5, .slice Q5 queue.length j5, sv note] (w5.alloc (.cells #[.int .i64 xid, sv name, sv topic, sv want, .int .i64 lease, .int .i64 most, .int .i64 floor, .slice A5 acks.length k5, .slice Q5 queue.length j5, sv note] 30)) HPc.out.own hpl (by omega) HVB.out HNE.out HCN.out HPc.out.sz)
        go_simp
        refine HIN.out.mono ?_
        rintro e w7 ⟨v7, rfl, hon7, hb7⟩
        try (go_wp2_with fail)
        rw [← HINS.out] at hon7
        obtain ⟨A6, k6, rfl, _⟩ := hon7.shape
        have hsz7 := HPc.out.sz
        have hs7 : Wh w7 w.heap.size [.int .i64 c, .int .i64 n, .int .i64 l, .slice A1 ys.length k1] 25 := (hb7.block _ (by omega)).trans HPc.out.s
        have hx7 : Wh w7 (w.heap.size + 1) [.int .i64 xid, sv name, sv topic, sv want, .int .i64 lease, .int .i64 most, .int .i64 floor, .slice Aa acks.length ka, .slice Aq queue.length kq, sv note] 30 := (hb7.block _ (by omega)).trans HPc.out.x
        have ho7 : Wh w7 (w.heap.size + 2) O 25 := (hb7.block _ (by omega)).trans HPc.out.o
        have hbt7 : Below w.heap.size w w7 := HPc.out.bel.trans (hb7.mono (by omega))
        have hHeld7 : PutS w [.int .i64 xid, sv name, sv topic, sv want, .int .i64 lease, .int .i64 most, .int .i64 floor, .slice Aa acks.length ka, .slice Aq queue.length kq, sv note] w7 := ⟨hx7, hbt7⟩
        refine hK.out _ _ ?_ (fun _ => ?_)
        · exact hHeld7
        clear hK K hHeld HIN hb7
        have hHeld := hHeld7
        try simp only [Act.put, zA, zB, zC]
        refine tkC 7 ?_
        refine rdA (rs := [8]) (arC (i := 8) fun K hK => ?_)
        have hc3 := hs7.bx.cell (i := 3) (by simp)
        simp only [List.getElem_cons_succ, List.getElem_cons_zero] at hc3
        have hf3 := hs7.frozen 3
        have hs8 := hs7.set1 3 (.slice A6 (insS (⟨xid, name, topic, want, lease, most, floor, acks, queue, note⟩ : Sub) ys).length k6)
        simp only [List.set_cons_succ, List.set_cons_zero] at hs8
        have hx8 := hx7.set1Other (k := w.heap.size) (by omega) 3 (.slice A6 (insS (⟨xid, name, topic, want, lease, most, floor, acks, queue, note⟩ : Sub) ys).length k6)
        have ho8 := ho7.set1Other (k := w.heap.size) (by omega) 3 (.slice A6 (insS (⟨xid, name, topic, want, lease, most, floor, acks, queue, note⟩ : Sub) ys).length k6)
        have hb8 := hbt7.setCell (p := ⟨w.heap.size, 3, none⟩) (Nat.le_refl _) (.slice A6 (insS (⟨xid, name, topic, want, lease, most, floor, acks, queue, note⟩ : Sub) ys).length k6)
        have hon8 := hon7.kept (grown_cell w7 w.heap.size 3 (.slice A6 (insS (⟨xid, name, topic, want, lease, most, floor, acks, queue, note⟩ : Sub) ys).length k6)) (by omega) ⟨_, _, hs7, by decide, by decide⟩
        have hHeld8 : PutS w [.int .i64 xid, sv name, sv topic, sv want, .int .i64 lease, .int .i64 most, .int .i64 floor, .slice Aa acks.length ka, .slice Aq queue.length kq, sv note] (w7.setCell ⟨w.heap.size, 3, none⟩ (.slice A6 (insS (⟨xid, name, topic, want, lease, most, floor, acks, queue, note⟩ : Sub) ys).length k6)) := ⟨hx8, hb8⟩
        go_simp
        refine hK.out _ _ ?_ (fun _ => ?_)
        · exact hHeld8
        clear hK K hHeld hHeld7 hs7 hx7 ho7 hc3 hf3 hx8
        try simp only [Act.put, zA, zB, zC]
        refine wpAnyH_done (by kernel_rfl) ?_ _
        have hsz8 : w.heap.size + 2 < (w7.setCell ⟨w.heap.size, 3, none⟩ (.slice A6 (insS (⟨xid, name, topic, want, lease, most, floor, acks, queue, note⟩ : Sub) ys).length k6)).heap.size := ho8.lt
        obtain ⟨W8, hW8⟩ : ∃ W8, W8 = w7.setCell ⟨w.heap.size, 3, none⟩ (.slice A6 (insS (⟨xid, name, topic, want, lease, most, floor, acks, queue, note⟩ : Sub) ys).length k6) := ⟨_, rfl⟩
        rw [← hW8] at hs8 ho8 hb8 hon8 ⊢
        have HR8 := Lib.hid hs8.range
        have HO8 := Lib.hid ho8
        have HB8 := Lib.hid hb8
        have HON8 := Lib.hid hon8
        clear hW8 hHeld8 hs8 ho8 hb8 hon8 hsz8
        go_wp2_with (first
          | (refine wpList_load_midG (by rfl) 25 (.tmp 2) rfl w.heap.size 0 rfl _ _ HR8.out Tryz.underlying25 rfl size24 ?_)
          | (refine wpList_store_row rfl 25 (.tmp 4) (.tmp 29) rfl (w.heap.size + 2) #[.int .i64 c, .int .i64 n, .int .i64 l, .slice A6 (insS (⟨xid, name, topic, want, lease, most, floor, acks, queue, note⟩ : Sub) ys).length k6] rfl rfl 25 O.toArray HO8.out size24 HOL.out (st_all c n l rfl) ?_))
        refine bodyPost_ret (results_cell_row rfl _ _ (w.heap.size + 2) 25 #[.int .i64 c, .int .i64 n, .int .i64 l, .slice A6 (insS (⟨xid, name, topic, want, lease, most, floor, acks, queue, note⟩ : Sub) ys).length k6] (0, 0) _ rfl (HO8.out.set [.int .i64 c, .int .i64 n, .int .i64 l, .slice A6 (insS (⟨xid, name, topic, want, lease, most, floor, acks, queue, note⟩ : Sub) ys).length k6]) Tryz.underlying25 rfl size24) rfl ?_
        rw [HPUT.out]
        have hosf := HON8.out.kept (grown_row W8 (w.heap.size + 2) #[.int .i64 c, .int .i64 n, .int .i64 l, .slice A6 (insS (⟨xid, name, topic, want, lease, most, floor, acks, queue, note⟩ : Sub) ys).length k6]) (by omega) ⟨_, _, HO8.out, by decide, by decide⟩
        exact ⟨_, rfl, hosf.base_ (by omega), below_setRow HB8.out (by omega) _⟩
end Go.Proofs.YtodckdkbheapfaaGreat
