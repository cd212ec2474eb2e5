/-
  The contracts of the program's ModelOnce (layer model).
-/
import Derived.Deep.QuietTactic
import Derived.BigQuiet
import Derived.Test.YtodckdkbheapfaaGreatKOEG
import Derived.Test.YtodckdkbheapfaaGreatKOEH
set_option linter.unusedVariables false
set_option linter.unusedVariables false
set_option linter.unusedSimpArgs false
namespace Go.Proofs.YtodckdkbheapfaaGreat
open Go.RowKit Go.Rst Go.Tp Go.Ts Go.Md
set_option maxRecDepth 100000 in
set_option maxHeartbeats 8000000 in
theorem once_walk (cv : Value) (l : List UInt8) (dv : Value) (l2 : List UInt8) (w : World) (hc : RB w cv l) (hl : l.length ≤ 140737488351232) (hd : RB w dv l2) (hl2 : l2.length ≤ 140737488351232) :
    Calls Tryz.prog 9 #[cv, dv] w fun e w' => e = .returned (.bool true) ∧ Below w.heap.size w w' := by
  have HDV := Lib.hid hd
  clear hd
  have HC := Lib.hid hc
  have HB0 := Lib.hid (Below.refl w.heap.size w)
  clear hc
  go_enter Tryz.func9, Tryz.ntmps9
  go_wp2_with fail
  refine (state_any cv l _ HC.out hl).mono ?_
  rintro e v0 ⟨c0, n0, l0, u0, xs, rfl, hrs, hbw, hmade, hx6⟩
  obtain ⟨S0, e1, e2, e3, e4⟩ : ∃ S0 : Ts.St, c0 = S0.clock ∧ n0 = S0.next ∧ l0 = S0.last ∧ xs = S0.subs := ⟨⟨c0, n0, l0, xs⟩, rfl, rfl, rfl, rfl⟩
  subst e1 e2 e3 e4
  have HT0 := Lib.hid (show Rt S0 from by have h := made_rt hmade hx6; cases S0; exact h)
  have HCK := Lib.hid (show S0.clock ≤ 1000000 from by have := hmade.c1; omega)
  have HCK0 := Lib.hid (show 0 ≤ S0.clock from hmade.c0)
  clear hmade hx6
  obtain ⟨W0, hW⟩ : ∃ W, W = boxS v0 (stC S0.clock S0.next S0.last u0) := ⟨_, rfl⟩
  have HW0 := Lib.hid hW
  have HSV0 := Lib.hid (show SV W0 v0.heap.size S0 u0 by rw [hW]; exact sv_boxS hrs)
  have HA0 := Lib.hid (st_all S0.clock S0.next S0.last (rl_one hrs))
  have HB1 := Lib.hid (show Below w.heap.size w W0 by rw [hW]; exact hbw.trans ((boxS_below _ _).mono hbw.size))
  clear hW hrs hbw HB0
  go_wp2_with (first | (refine wpList_store_row rfl 25 (.tmp 5) (.tmp 15) rfl v0.heap.size (stC S0.clock S0.next S0.last u0).toArray rfl rfl 25 zT.toArray (boxS_old v0) size24 rfl HA0.out ?_; rw [boxS_def]; rw [← HW0.out]) | fail)
  obtain ⟨b0, hb0⟩ : ∃ b, b = v0.heap.size := ⟨_, rfl⟩
  rw [← hb0] at HSV0
  rw [← hb0]
  have HBN := Lib.hid HSV0.out.2.2
  obtain ⟨O1, hO1⟩ : ∃ O, O = pubN (nameL l2) := ⟨_, rfl⟩
  have HO1 := Lib.hid hO1
  obtain ⟨S1, r1, hd1⟩ : ∃ (zs : Ts.St) (zr : Rp), doS S0 (pubN (nameL l2)) = (zs, zr) := ⟨_, _, rfl⟩
  have HD1 := Lib.hid hd1
  have HT1 := Lib.hid (show Rt S1 by have h := rt_do HT0.out (pubN (nameL l2)); rw [hd1] at h; exact h)
  clear hd1 hO1
  refine RO_r (b := b0) (B := W0.heap.size) (S0 := S0) (u0 := u0) (dv := dv) (nm := nameL l2) (S1 := S1) (r1 := r1) rfl rfl rfl rfl HSV0.out (HDV.out.below HB1.out) rfl HT0.out HD1.out ?_
  intro y17 y18 y19 y20 y21 y16 y22 y23 u1 lv1 g1 g2 W1 hb hs1 hr1 hs0 hg1 hg2
  have HB2 := Lib.hid (HB1.out.trans (hb.mono HB1.out.size))
  have HS1 := Lib.hid hs1
  have HR1 := Lib.hid hr1
  have HS0 := Lib.hid hs0
  have HG1 := Lib.hid hg1
  have HG2 := Lib.hid hg2
  clear hb hs1 hr1 hs0 hg1 hg2 HSV0
  clear hb0
  simp only [Act.put, zA, zB, zC]
  have ke := HR1.out.1.cv 0 (v := .int .u16 r1.err) rfl
  by_cases he : r1.err = 0
  · obtain ⟨m1, m2, m3⟩ := once_math HT0.out (o := pubN (nameL l2)) rfl (by rw [HD1.out]; exact he)
    rw [HD1.out] at m1 m2 m3
    simp only at m1 m2
    have HM1 := Lib.hid m1
    have HM3 := Lib.hid m3
    have hn0 : 1 ≤ S0.next := HT0.out.n0
    have hn1 : S0.next ≤ 1073741824 := HT0.out.n1
    rw [he] at ke
    have k1 := HR1.out.1.cv 1 (v := .int .i64 S0.next) (by rw [show rpC r1 lv1 = [.int .u16 r1.err, .int .i64 r1.n, lv1, .slice none 0 0] from rfl, m2]; rfl)
    have k2 := HS0.out.1.cv 1 (v := .int .i64 S0.next) rfl
    have k3 := HS1.out.1.cv 1 (v := .int .i64 (S0.next + 1)) (by rw [m1]; rfl)
    obtain ⟨n, hn⟩ : ∃ n, n = S0.subs.length := ⟨_, rfl⟩
    have HN := Lib.hid hn
    have HLN := Lib.hid (show S1.subs.length = n by rw [m1, hn]; exact List.length_map _)
    obtain ⟨A0, c0, hu0, hc0, hc0m⟩ := HS0.out.2.1.shape
    obtain ⟨A1, c1, hu1, hc1, hc1m⟩ := HS1.out.2.1.shape
    rw [HLN.out] at hu1 hc1
    rw [← hn] at hu0 hc0
    have HU0 := Lib.hid hu0
    have HU1 := Lib.hid hu1
    unfold maxLen at hc0m hc1m
    have k4 := HS1.out.1.cv 3 (v := .slice A1 n c1) (by rw [hu1]; rfl)
    have k5 := HS0.out.1.cv 3 (v := .slice A0 n c0) (by rw [hu0]; rfl)
    have hnb : n ≤ 9223372036854775807 := by omega
    clear m1 m2 m3 hn hu0 hu1
    go_wp2_with fail
    clear k1 k2 k3 k4 k5 ke
    go_loopw [8] (fun i wr => ∃ k : Nat, k ≤ n ∧ i = .int .i64 k ∧ Below w.heap.size w wr ∧ SV wr b0 S0 u0 ∧ SV wr g1 S1 u1) (fun i _ => n - (intOf i).toNat)
    case atStart => exact ⟨0, Nat.zero_le _, rfl, HB2.out, HS0.out, HS1.out⟩
    case round =>
      obtain ⟨k, hk, rfl, hbw, hs0, hs1⟩ := hrel
      have HBw := Lib.hid hbw
      have HS0w := Lib.hid hs0
      have HS1w := Lib.hid hs1
      have k4 := hs1.1.cv 3 (v := .slice A1 n c1) (by rw [HU1.out]; rfl)
      have k5 := hs0.1.cv 3 (v := .slice A0 n c0) (by rw [HU0.out]; rfl)
      clear hbw hs0 hs1
      by_cases hlt : k < n
      · have q1 : (k : Int) < (n : Int) := by omega
        have hk0 : k < S0.subs.length := by rw [← HN.out]; exact hlt
        have hk1 : k < S1.subs.length := by rw [HLN.out]; exact hlt
        obtain ⟨b2, o2, a2, v2, hA0, hb2, hr2, hra2, hrq2⟩ := rs_at (by have h := HS0w.out.2.1; rw [HU0.out] at h; exact h) hk0
        obtain ⟨b3, o3, a3, v3, hA1, hb3, hr3, hra3, hrq3⟩ := rs_at (by have h := HS1w.out.2.1; rw [HU1.out] at h; exact h) hk1
        have hpx : S1.subs[k] = pubX S0 (pubN (nameL l2)) S0.subs[k] := by
          have h : S1.subs = S0.subs.map (pubX S0 (pubN (nameL l2))) := by rw [HM1.out]
          have h2 : S1.subs[k]? = some (pubX S0 (pubN (nameL l2)) S0.subs[k]) := by rw [h, List.getElem?_map, List.getElem?_eq_getElem hk0]; rfl
          rw [List.getElem?_eq_getElem hk1] at h2
          exact Option.some.inj h2
        have hmx := HM3.out S0.subs[k] (List.getElem_mem hk0)
        rw [hpx] at hr3 hra3 hrq3
        obtain ⟨x, hx⟩ : ∃ x, x = S0.subs[k] := ⟨_, rfl⟩
        rw [← hx] at hr2 hra2 hrq2 hr3 hra3 hrq3 hmx
        subst hA0
        subst hA1
        obtain ⟨Q2, cq2, rfl, hq2, hq2m⟩ := hrq2.shape
        obtain ⟨Q3, cq3, rfl, hq3, hq3m⟩ := hrq3.shape
        unfold maxLen at hq2m hq3m
        have HMX := Lib.hid hmx
        have HRQ3 := Lib.hid hrq3
        have HR3 := Lib.hid hr3
        have j8 := hr2 8 (.slice Q2 x.queue.length cq2) rfl
        have j8' := hr3 8 (.slice Q3 (pubX S0 (pubN (nameL l2)) x).queue.length cq3) rfl
        have hid3 : (pubX S0 (pubN (nameL l2)) x).id = x.id := by unfold pubX; split <;> rfl
        have j0 : wr.cell? ⟨b3, o3 + k * 10, none⟩ = some (.int .i64 x.id) := hr3 0 (.int .i64 x.id) (by show some (Value.int .i64 (pubX S0 (pubN (nameL l2)) x).id) = _; rw [hid3])
        obtain ⟨m, hm⟩ : ∃ m, m = x.queue.length := ⟨_, rfl⟩
        rw [← hm] at j8 hq2
        clear hpx hr2 hra2 hrq2 hr3 hra3 hrq3 hmx hid3 hx hk0 hk1
        have hm9 : m ≤ 9223372036854775807 := by omega
        have HME := Lib.hid hm
        clear hm
        by_cases hh : hasB x (pubN (nameL l2)) = true
        · have hlen : (pubX S0 (pubN (nameL l2)) x).queue.length = m + 1 := by unfold pubX; rw [if_pos hh, HME.out]; simp
          obtain ⟨m1, hm1⟩ : ∃ m1, m1 = m + 1 := ⟨_, rfl⟩
          rw [← hm1] at hlen
          rw [hlen] at j8' hq3
          have qm : (m : Int) < (m1 : Int) := by omega
          have hmn : m < m1 := by omega
          have HM1e := Lib.hid hm1
          go_wp2_with fail
          obtain ⟨b4, o4, cs4, rfl, hb4, hcm4, hc4⟩ := HRQ3.out.at_ (j := m) (by rw [hlen]; omega)
          have hel : (pubX S0 (pubN (nameL l2)) x).queue[m]'(by rw [hlen]; omega) = msgP S0 (pubN (nameL l2)) := by
            have h : (pubX S0 (pubN (nameL l2)) x).queue[m]? = some (msgP S0 (pubN (nameL l2))) := by
              unfold pubX
              rw [if_pos hh, HME.out]
              simp
            rw [List.getElem?_eq_getElem (by rw [hlen]; omega)] at h
            exact Option.some.inj h
          rw [hel] at hcm4
          subst hcm4
          have j9 : wr.cell? ⟨b4, o4 + m * 8, none⟩ = some (.int .i64 S0.next) := CellsAt.range hc4 0 (.int .i64 S0.next) rfl
          have k6 := HS0w.out.1.cv 1 (v := .int .i64 S0.next) rfl
          have q9 : (m1 : Int) - (m : Int) = 1 := by omega
          clear hc4 hel hlen hm1
          go_quiet (fail)
          try rw [q9]
          clear q9
          go_wp2_with fail
          go_quiet (fail)
          go_wp2_with fail
          have hbd : ∀ n, Below wr.heap.size wr (wr.drewN n) := fun n => ⟨rfl, rfl, rfl, Nat.le_refl _, fun _ _ => rfl⟩
          obtain ⟨S2, r2, hd2⟩ : ∃ (zs : Ts.St) (zr : Rp), doS S1 (kop 6 x.id 0 S0.next) = (zs, zr) := ⟨_, _, rfl⟩
          have hfin : (doS S1 (kop 6 x.id 0 S0.next)).2.err = 0 ∧ ∃ z, findS (doS S1 (kop 6 x.id 0 S0.next)).1.subs x.id = some z ∧ z.queue = [] ∧ z.floor = S0.next := HMX.out hh
          rw [hd2] at hfin
          obtain ⟨he2, z, hz1, hz2, hz3⟩ := hfin
          have HZ := Lib.hid (And.intro he2 (And.intro hz1 (And.intro hz2 hz3)))
          have HD2 := Lib.hid hd2
          have HLT := Lib.hid hlt
          have HC3 := Lib.hid k4
          have HCI := Lib.hid j0
          have HCN := Lib.hid k6
          have HB3 := Lib.hid hb3
          clear he2 hz1 hz2 hz3 hd2 k4 k5 k6 j0 j8 j8' j9
          refine RP_r (b5 := b0) (b6 := g1) (B := wr.heap.size) (S1 := S1) (u1 := u1) (b3 := b3) (o3 := o3) (n := n) (c1 := c1) (k := k) (id := x.id) (nx := S0.next) (S2 := S2) (r2 := r2) rfl rfl rfl rfl rfl (HS1w.out.below (hbd _)) hlt hnb (((hbd _).cell (p := ⟨g1, 3, none⟩) HS1w.out.2.2).trans HC3.out) (((hbd _).cell (p := ⟨b3, o3 + k * 10, none⟩) HB3.out).trans HCI.out) HB3.out (((hbd _).cell (p := ⟨b0, 1, none⟩) HS0w.out.2.2).trans HCN.out) HS0w.out.2.2 HT1.out HD2.out ?_
          intro y111 y112 y113 y114 y115 y116 y117 y118 y119 y120 y121 y110 y122 y123 u2 lv2 g3 g4 W5 hbw5 hs5 hr5 hg3 hg4
          have hbx : Below wr.heap.size wr W5 := (hbd _).trans hbw5
          have HBX := Lib.hid hbx
          have HS5 := Lib.hid hs5
          have HR5 := Lib.hid hr5
          have HS0x := Lib.hid (HS0w.out.below hbx)
          have HS1x := Lib.hid (HS1w.out.below hbx)
          have HC3x := Lib.hid ((hbx.cell (p := ⟨g1, 3, none⟩) HS1w.out.2.2).trans HC3.out)
          have HCIx := Lib.hid ((hbx.cell (p := ⟨b3, o3 + k * 10, none⟩) HB3.out).trans HCI.out)
          have HB3x := Lib.hid (Nat.lt_of_lt_of_le HB3.out hbx.size)
          clear hbw5 hs5 hr5 hg3 hg4 hbx hbd
          try simp only [Act.put, zA, zB, zC]
          go_wp2_with fail
          refine RQ_r (b6 := g1) (b10 := g3) (B := W5.heap.size) (S2 := S2) (u2 := u2) (b3 := b3) (o3 := o3) (n := n) (c1 := c1) (k := k) (id := x.id) (X := z) (f := true) rfl rfl rfl rfl rfl HS5.out hlt hnb HC3x.out HS1x.out.2.2 HCIx.out HB3x.out (by rw [HZ.out.2.1]; rfl) (by rw [HZ.out.2.1]; rfl) ?_
          intro y125 y126 y127 y128 y129 y130 y131 y132 y124 y133 y134 av qv g5 W6 hbw6 hw6 hsh hg5
          obtain ⟨Aq, cq, hqv⟩ := hsh
          rw [HZ.out.2.2.1] at hqv
          subst hqv
          have HS0y := Lib.hid (HS0x.out.below hbw6)
          have HS1y := Lib.hid (HS1x.out.below hbw6)
          have HR6 := Lib.hid (HR5.out.below hbw6)
          have HB6 := Lib.hid (HBw.out.trans ((HBX.out.trans (hbw6.mono HBX.out.size)).mono HBw.out.size))
          have ke := HR6.out.1.cv 0 (v := .int .u16 0) (by rw [show rpC r2 lv2 = [.int .u16 r2.err, .int .i64 r2.n, lv2, .slice none 0 0] from rfl, HZ.out.1]; rfl)
          have kq := hw6.cv 8 (v := .slice Aq 0 cq) rfl
          have kf := hw6.cv 6 (v := .int .i64 S0.next) (by rw [← HZ.out.2.2.2]; rfl)
          have kn := HS0y.out.1.cv 1 (v := .int .i64 S0.next) rfl
          clear hbw6 hw6 hg5
          try simp only [Act.put, zA, zB, zC]
          go_wp2_with fail
          exact ⟨⟨k + 1, by omega, by go_num, HB6.out, HS0y.out, HS1y.out⟩, by simp only [intOf]; omega⟩
        · have hlen : (pubX S0 (pubN (nameL l2)) x).queue.length = m := by unfold pubX; rw [if_neg hh, HME.out]
          rw [hlen] at j8' hq3
          go_wp2_with fail
          go_quiet (fail)
          go_wp2_with fail
          go_quiet (fail)
          go_wp2_with fail
          have hbd : ∀ n, Below wr.heap.size wr (wr.drewN n) := fun n => ⟨rfl, rfl, rfl, Nat.le_refl _, fun _ _ => rfl⟩
          exact ⟨⟨k + 1, by omega, by go_num, HBw.out.trans ((hbd _).mono HBw.out.size), HS0w.out.below (hbd _), HS1w.out.below (hbd _)⟩, by simp only [intOf]; omega⟩
      · have q1 : ¬ (k : Int) < (n : Int) := by omega
        go_wp2_with fail
        refine (known11_any _).mono ?_
        rintro e v5 ⟨rfl, hb⟩
        have HB5 := Lib.hid (HBw.out.trans (hb.mono HBw.out.size))
        clear hb
        go_wp2_with (first | (refine wpList_stop 4 rfl ?_) | fail)
        go_ret
        exact ⟨rfl, HB5.out⟩
  · go_wp2_with fail
    refine (known11_any _).mono ?_
    rintro e v5 ⟨rfl, hb⟩
    have HBS5 := Lib.hid hb
    have HB5 := Lib.hid (HB2.out.trans (HBS5.out.mono HB2.out.size))
    have S0_5 := Lib.hid (HS0.out.below HBS5.out)
    clear HS0
    have S1_5 := Lib.hid (HS1.out.below HBS5.out)
    clear HS1
    clear hb ke
    go_wp2_with (first | (refine wpList_load_midG (by rfl) 25 (.tmp 5) rfl b0 0 rfl _ _ S0_5.out.1.range Tryz.underlying25 rfl size24 ?_) | (refine wpList_load_midG (by rfl) 25 (.tmp 6) rfl g1 0 rfl _ _ S1_5.out.1.range Tryz.underlying25 rfl size24 ?_) | fail)
    have HZ := Lib.hid (show S1 = S0 by have h := (do_err S0 (pubN (nameL l2)) (by rw [HD1.out]; exact he)).1; rw [HD1.out] at h; exact h)
    have hsm := same_any (c := S0.clock) (n := S0.next) (l := S0.last) (c2 := S1.clock) (n2 := S1.next) (l2 := S1.last) S0_5.out.2.1 S1_5.out.2.1
    rw [show decide (S0.clock = S1.clock ∧ S0.next = S1.next ∧ S0.last = S1.last ∧ S0.subs = S1.subs) = true from decide_eq_true (by rw [HZ.out]; exact ⟨rfl, rfl, rfl, rfl⟩)] at hsm
    refine hsm.mono ?_
    clear hsm
    rintro e v6 ⟨rfl, hb⟩
    have HBS6 := Lib.hid hb
    have HB6 := Lib.hid (HB5.out.trans (HBS6.out.mono HB5.out.size))
    have S0_6 := Lib.hid (S0_5.out.below HBS6.out)
    clear S0_5
    have S1_6 := Lib.hid (S1_5.out.below HBS6.out)
    clear S1_5
    clear hb
    go_wp2_with (first | (refine wpList_stop 4 rfl ?_) | fail)
    go_ret
    exact ⟨rfl, HB6.out⟩
end Go.Proofs.YtodckdkbheapfaaGreat
