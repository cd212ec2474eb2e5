/-
  The contracts of the program's ModelQuota (layer model).
-/
import Derived.Test.YtodckdkbheapfaaGreatKQEA
import Derived.Test.YtodckdkbheapfaaGreatKQEB
set_option linter.unusedVariables false
set_option linter.unusedVariables false
set_option linter.unusedSimpArgs false
namespace Go.Proofs.YtodckdkbheapfaaGreat
open Go.RowKit Go.Rst Go.Tp Go.Ts Go.Md
set_option maxRecDepth 100000
def qN (k : Nat) : Nat := min k 20
theorem q_sub {k : Nat} : ∃ r, doS (qS (qN k) 0) subO = (qS (qN (k + 1)) 0, r) ∧ (k < 20 ∧ r.err = 0 ∧ r.n = (k : Int) + 1 ∨ ¬ k < 20 ∧ r.err = 31 ∧ r.n = 0) := by
  rw [quota_sub]
  by_cases h : k < 20
  · have e1 : qN k = k := by unfold qN; omega
    have e2 : qN (k + 1) = k + 1 := by unfold qN; omega
    rw [e1, e2, if_pos h]
    exact ⟨_, rfl, .inl ⟨h, rfl, rfl⟩⟩
  · have e1 : qN k = 20 := by unfold qN; omega
    have e2 : qN (k + 1) = 20 := by unfold qN; omega
    rw [e1, e2, if_neg (by decide)]
    exact ⟨_, rfl, .inr ⟨h, rfl, rfl⟩⟩
def qJ (M j : Nat) : Nat := if 0 < M then min j 30 else j
theorem q_pub {M j : Nat} (hj : j < 40) : ∃ r, doS (qS M (qJ M j)) pubO = (qS M (qJ M (j + 1)), r) ∧ ((0 < M ∧ 30 ≤ j) ∧ r.err = 31 ∨ ¬ (0 < M ∧ 30 ≤ j) ∧ r.err = 0) := by
  have hq : qJ M j < 1000 := by unfold qJ; split <;> omega
  rw [quota_pub hq]
  by_cases h : 0 < M ∧ 30 ≤ j
  · have e1 : qJ M j = 30 := by unfold qJ; rw [if_pos h.1]; omega
    have e2 : qJ M (j + 1) = 30 := by unfold qJ; rw [if_pos h.1]; omega
    rw [e1, e2, if_pos ⟨h.1, by decide⟩]
    exact ⟨_, rfl, .inl ⟨h, rfl⟩⟩
  · have e0 : ¬ (0 < M ∧ 30 ≤ qJ M j) := by unfold qJ; split <;> omega
    have e2 : qJ M (j + 1) = qJ M j + 1 := by unfold qJ; split <;> omega
    rw [e2, if_neg e0]
    exact ⟨_, rfl, .inr ⟨h, rfl⟩⟩
theorem conv_u8 {w : World} {a : Int} {N : Nat} (h : a = (N : Int)) (hN : N ≤ 1000) : (convert 5 3 (.int .u8 a)).run Tryz.prog w = .ok (.int .i64 (N : Int)) w := by
  rw [h]
  have e := run_convert_int (P := Tryz.prog) w 5 3 .u8 (N : Int) (by rw [Tryz.underlying5]; rfl) Tryz.underlying3
  have e2 : IntKind.i64.wrap (N : Int) = (N : Int) := by rw [IntKind.wrap_i64]; omega
  rw [e, show Tryz.prog.intKind 3 = .i64 from rfl, e2]
theorem sv_again {W : World} {b B : Nat} {s : St} {u : Value} {cs : List Value} (h : Wh W b cs 25) (hon : ON B W u s.subs) (hb : b < B) : SV (W.setRow b (stC s.clock s.next s.last u).toArray) b s u := by
  have hs := (Array.getElem?_eq_some_iff.1 h).1
  exact ⟨h.set _, (hon.kept (grown_row W b _) hb ⟨_, _, h, by decide, by decide⟩).rs, by simp; omega⟩
set_option maxRecDepth 100000 in
set_option maxHeartbeats 8000000 in
theorem quota_walk (n m : Nat) (w : World) (hn : n ≤ 255) (hm : m ≤ 255) :
    Calls Tryz.prog 5 #[.int .u8 n, .int .u8 m] w fun e w' => e = .returned (.bool true) ∧ Below w.heap.size w w' := by
  go_enter Tryz.func5, Tryz.ntmps5
  go_wp2_with fail
  refine (new_any _).mono ?_
  rintro e v0 ⟨rfl, hb⟩
  obtain ⟨W0, hW⟩ : ∃ W, W = boxS v0 (stC 0 1 0 (.slice none 0 0)) := ⟨_, rfl⟩
  have HW0 := Lib.hid hW
  have HSV0 := Lib.hid (show SV W0 v0.heap.size (qS (qN 0) 0) (.slice none 0 0) by rw [hW]; exact sv_boxS (s := qS 0 0) (RL.nil_ _ _ _ (Nat.zero_le _)))
  have HB0 := Lib.hid (show Below w.heap.size w W0 by rw [hW]; exact hb.trans ((boxS_below _ _).mono hb.size))
  have HBN := Lib.hid (show w.heap.size ≤ v0.heap.size from hb.size)
  have HT0 := Lib.hid (show Rt (qS (qN 0) 0) from rt_new)
  have HA0 := Lib.hid (show ((stC 0 1 0 (.slice none 0 0)).toArray.all fun x => x.oneCell') = true from st_all 0 1 0 rfl)
  clear hW hb
  go_wp2_with (first | (refine wpList_store_row rfl 25 (.tmp 5) (.tmp 12) rfl v0.heap.size (stC 0 1 0 (.slice none 0 0)).toArray rfl rfl 25 zT.toArray (boxS_old v0) size24 rfl HA0.out ?_; rw [boxS_def]; rw [← HW0.out]) | fail)
  obtain ⟨b0, hb0⟩ : ∃ b, b = v0.heap.size := ⟨_, rfl⟩
  rw [← hb0] at HSV0 HBN
  rw [← hb0]
  clear hb0 HW0 HA0
  obtain ⟨N, hN⟩ : ∃ N, N = n % 25 := ⟨_, rfl⟩
  have hN25 : N < 25 := by omega
  go_loopw [6] (fun i wr => ∃ (k : Nat) (u : Value), k ≤ N ∧ i = .int .i64 k ∧ Below w.heap.size w wr ∧ SV wr b0 (qS (qN k) 0) u ∧ Rt (qS (qN k) 0)) (fun i _ => N - (intOf i).toNat)
  case atStart => exact ⟨0, _, Nat.zero_le _, rfl, HB0.out, HSV0.out, HT0.out⟩
  case round =>
    obtain ⟨k, u0, hk, rfl, hbw, hsw, htw⟩ := hrel
    have HBw := Lib.hid hbw
    have HSw := Lib.hid hsw
    have HTw := Lib.hid htw
    have HNe := Lib.hid hN
    have hcv : (convert 5 3 (.int .u8 ((n : Int) % 25))).run Tryz.prog wr = .ok (.int .i64 (N : Int)) wr := conv_u8 (by omega) (by omega)
    clear hbw hsw htw
    by_cases hlt : k < N
    · obtain ⟨S0, hS0⟩ : ∃ S, S = qS (qN k) 0 := ⟨_, rfl⟩
      rw [← hS0] at HSw HTw
      have HSE := Lib.hid hS0
      clear hS0
      have HZB := Lib.hid HSw.out.2.2
      go_wp2_with (first | (refine wpList_load_midG (by rfl) 25 (.tmp 5) rfl b0 0 rfl _ _ HSw.out.1.range Tryz.underlying25 rfl size24 ?_) | fail)
      obtain ⟨S1, r1, hd1⟩ : ∃ (zs : Ts.St) (zr : Rp), doS S0 (subO) = (zs, zr) := ⟨_, _, rfl⟩
      have hc : Calls Tryz.prog 17 #[.agg (stC S0.clock S0.next S0.last u0).toArray, .agg (opC (subO) (.slice none 0 0)).toArray] wr (GivesDo wr S1 r1) := by
        have h := do_p S0 u0 (subO) (.slice none 0 0) wr HSw.out.2.1 HTw.out ⟨by decide, by decide, by decide, by decide, by decide⟩ rfl (fun h => absurd (show (1 : Int) = 4 from h) (by decide))
        rw [hd1] at h
        exact h
      have HD1 := Lib.hid hd1
      have HT1 := Lib.hid (show Rt S1 by have h := rt_do HTw.out (subO); rw [hd1] at h; exact h)
      clear hd1
      refine hc.mono ?_
      clear hc
      rintro e v1 ⟨u1, lv1, rfl, hon, hlv, hb⟩
      obtain ⟨W1, hW⟩ : ∃ W, W = boxD v1 (stC S1.clock S1.next S1.last u1) (rpC r1 lv1) := ⟨_, rfl⟩
      have HW1 := Lib.hid hW
      have HBS1 := Lib.hid (show Below _ _ W1 by rw [hW]; exact hb.trans ((boxD_below ..).mono hb.size))
      have HSV1 := Lib.hid (show SV W1 v1.heap.size S1 u1 by rw [hW]; exact sv_box _ hon)
      have HA1 := Lib.hid (st_all S1.clock S1.next S1.last (rl_one hon.rs))
      have HON1 := Lib.hid (show ON wr.heap.size W1 u1 S1.subs by rw [hW]; exact hon.below (boxD_below ..))
      have HRV1 := Lib.hid (show RV W1 (v1.heap.size + 1) r1 lv1 by rw [hW]; exact rv_box _ hlv)
      have HAR1 := Lib.hid (rp_all r1 (rl_one hlv.rl))
      have HB1 := Lib.hid (HBw.out.trans (HBS1.out.mono HBw.out.size))
      clear hW hon hlv hb
      have S0_1 := Lib.hid (HSw.out.below HBS1.out)
      clear HSw
      obtain ⟨rq, hq, hcs⟩ := q_sub (k := k)
      rw [← HSE.out, HD1.out] at hq
      injection hq with z1 z2
      rw [← z2] at hcs
      have HS1 := Lib.hid z1
      have q2 : (k : Int) < (N : Int) := by omega
      clear z1 z2
      rcases hcs with ⟨hk20, he, hn1⟩ | ⟨hk20, he, hn1⟩
      · have q3 : (k : Int) < 20 := by omega
        have ke := HRV1.out.1.cv 0 (v := .int .u16 0) (by rw [show rpC r1 lv1 = [.int .u16 r1.err, .int .i64 r1.n, lv1, .slice none 0 0] from rfl, he]; rfl)
        have kn := HRV1.out.1.cv 1 (v := .int .i64 ((k : Int) + 1)) (by rw [show rpC r1 lv1 = [.int .u16 r1.err, .int .i64 r1.n, lv1, .slice none 0 0] from rfl, hn1]; rfl)
        clear he hn1
        go_wp2_with (first | (refine wpList_store_row rfl 25 (.tmp 7) (.tmp 24) rfl v1.heap.size (stC S1.clock S1.next S1.last u1).toArray rfl rfl 25 zT.toArray (boxD_old1 v1) size24 rfl HA1.out ?_) | (refine wpList_store_row rfl 37 (.tmp 8) (.tmp 25) rfl (v1.heap.size + 1) (rpC r1 lv1).toArray rfl rfl 37 zR.toArray (boxD_old2 v1 (stC S1.clock S1.next S1.last u1)) sizeR rfl HAR1.out ?_; rw [boxD_def]; rw [← HW1.out]) | (refine wpList_load_midG (by rfl) 25 (.tmp 7) rfl v1.heap.size 0 rfl _ _ HSV1.out.1.range Tryz.underlying25 rfl size24 ?_) | (refine wpList_store_row rfl 25 (.tmp 5) (.tmp 44) rfl b0 (stC S1.clock S1.next S1.last u1).toArray rfl rfl 25 _ S0_1.out.1 size24 rfl HA1.out ?_) | fail)
        have HX := sv_again S0_1.out.1 HON1.out HZB.out
        have HTN := HT1.out
        rw [HS1.out] at HTN
        exact ⟨⟨k + 1, u1, by omega, by go_num, below_setRow HB1.out HBN.out _, by rw [← HS1.out]; exact HX, HTN⟩, by simp only [intOf]; omega⟩
      · have q3 : (20 : Int) ≤ k := by omega
        have ke := HRV1.out.1.cv 0 (v := .int .u16 31) (by rw [show rpC r1 lv1 = [.int .u16 r1.err, .int .i64 r1.n, lv1, .slice none 0 0] from rfl, he]; rfl)
        have kn := HRV1.out.1.cv 1 (v := .int .i64 (0)) (by rw [show rpC r1 lv1 = [.int .u16 r1.err, .int .i64 r1.n, lv1, .slice none 0 0] from rfl, hn1]; rfl)
        clear he hn1
        go_wp2_with (first | (refine wpList_store_row rfl 25 (.tmp 7) (.tmp 24) rfl v1.heap.size (stC S1.clock S1.next S1.last u1).toArray rfl rfl 25 zT.toArray (boxD_old1 v1) size24 rfl HA1.out ?_) | (refine wpList_store_row rfl 37 (.tmp 8) (.tmp 25) rfl (v1.heap.size + 1) (rpC r1 lv1).toArray rfl rfl 37 zR.toArray (boxD_old2 v1 (stC S1.clock S1.next S1.last u1)) sizeR rfl HAR1.out ?_; rw [boxD_def]; rw [← HW1.out]) | (refine wpList_load_midG (by rfl) 25 (.tmp 7) rfl v1.heap.size 0 rfl _ _ HSV1.out.1.range Tryz.underlying25 rfl size24 ?_) | (refine wpList_store_row rfl 25 (.tmp 5) (.tmp 44) rfl b0 (stC S1.clock S1.next S1.last u1).toArray rfl rfl 25 _ S0_1.out.1 size24 rfl HA1.out ?_) | fail)
        have HX := sv_again S0_1.out.1 HON1.out HZB.out
        have HTN := HT1.out
        rw [HS1.out] at HTN
        exact ⟨⟨k + 1, u1, by omega, by go_num, below_setRow HB1.out HBN.out _, by rw [← HS1.out]; exact HX, HTN⟩, by simp only [intOf]; omega⟩
    · obtain rfl : k = N := by omega
      have HN2 := Lib.hid (show qN k = min k 20 from rfl)
      obtain ⟨M, hM⟩ : ∃ M, M = qN k := ⟨_, rfl⟩
      rw [← hM] at HSw HTw HN2
      have HZB := Lib.hid HSw.out.2.2
      clear hM
      go_wp2_with fail
      clear hcv
      obtain ⟨W2, hW2⟩ : ∃ W, W = wr := ⟨_, rfl⟩
      rw [← hW2] at HBw HSw HZB
      rw [← hW2]
      clear hW2
      obtain ⟨L, hL⟩ : ∃ L, L = m % 40 := ⟨_, rfl⟩
      have hL40 : L < 40 := by omega
      go_loopw [9] (fun i wr => ∃ (j : Nat) (u : Value), j ≤ L ∧ i = .int .i64 j ∧ Below w.heap.size w wr ∧ SV wr b0 (qS M (qJ M j)) u ∧ Rt (qS M (qJ M j))) (fun i _ => L - (intOf i).toNat)
      case atStart => exact ⟨0, _, Nat.zero_le _, rfl, HBw.out, by rw [show qJ M 0 = 0 from by unfold qJ; split <;> simp]; exact HSw.out, by rw [show qJ M 0 = 0 from by unfold qJ; split <;> simp]; exact HTw.out⟩
      case round =>
        obtain ⟨j, u4, hj, rfl, hbw, hsw, htw⟩ := hrel
        have HBr := Lib.hid hbw
        have HSr := Lib.hid hsw
        have HTr := Lib.hid htw
        have HLe := Lib.hid hL
        have hcv : (convert 5 3 (.int .u8 ((m : Int) % 40))).run Tryz.prog wr = .ok (.int .i64 (L : Int)) wr := conv_u8 (by omega) (by omega)
        clear hbw hsw htw hN
        by_cases hjt : j < L
        · obtain ⟨S0, hS0⟩ : ∃ S, S = qS M (qJ M j) := ⟨_, rfl⟩
          rw [← hS0] at HSr HTr
          have HSE := Lib.hid hS0
          clear hS0
          have HZr := Lib.hid HSr.out.2.2
          go_wp2_with (first | (refine wpList_load_midG (by rfl) 25 (.tmp 5) rfl b0 0 rfl _ _ HSr.out.1.range Tryz.underlying25 rfl size24 ?_) | fail)
          obtain ⟨S1, r1, hd1⟩ : ∃ (zs : Ts.St) (zr : Rp), doS S0 (pubO) = (zs, zr) := ⟨_, _, rfl⟩
          have hc : Calls Tryz.prog 17 #[.agg (stC S0.clock S0.next S0.last u4).toArray, .agg (opC (pubO) (.slice none 0 0)).toArray] wr (GivesDo wr S1 r1) := by
            have h := do_p S0 u4 (pubO) (.slice none 0 0) wr HSr.out.2.1 HTr.out ⟨by decide, by decide, by decide, by decide, by decide⟩ rfl (fun h => absurd (show (3 : Int) = 4 from h) (by decide))
            rw [hd1] at h
            exact h
          have HD1 := Lib.hid hd1
          have HT1 := Lib.hid (show Rt S1 by have h := rt_do HTr.out (pubO); rw [hd1] at h; exact h)
          clear hd1
          refine hc.mono ?_
          clear hc
          rintro e v1 ⟨u1, lv1, rfl, hon, hlv, hb⟩
          obtain ⟨W1, hW⟩ : ∃ W, W = boxD v1 (stC S1.clock S1.next S1.last u1) (rpC r1 lv1) := ⟨_, rfl⟩
          have HW1 := Lib.hid hW
          have HBS1 := Lib.hid (show Below _ _ W1 by rw [hW]; exact hb.trans ((boxD_below ..).mono hb.size))
          have HSV1 := Lib.hid (show SV W1 v1.heap.size S1 u1 by rw [hW]; exact sv_box _ hon)
          have HA1 := Lib.hid (st_all S1.clock S1.next S1.last (rl_one hon.rs))
          have HON1 := Lib.hid (show ON wr.heap.size W1 u1 S1.subs by rw [hW]; exact hon.below (boxD_below ..))
          have HRV1 := Lib.hid (show RV W1 (v1.heap.size + 1) r1 lv1 by rw [hW]; exact rv_box _ hlv)
          have HAR1 := Lib.hid (rp_all r1 (rl_one hlv.rl))
          have HB1 := Lib.hid (HBr.out.trans (HBS1.out.mono HBr.out.size))
          clear hW hon hlv hb
          have S0_1 := Lib.hid (HSr.out.below HBS1.out)
          clear HSr
          obtain ⟨rq, hq, hcs⟩ := q_pub (M := M) (j := j) (by omega)
          rw [← HSE.out, HD1.out] at hq
          injection hq with z1 z2
          rw [← z2] at hcs
          have HS1 := Lib.hid z1
          have q2 : (j : Int) < (L : Int) := by omega
          clear z1 z2
          rcases hcs with ⟨⟨hM0, h30⟩, he⟩ | ⟨hn30, he⟩
          · have q3 : (30 : Int) ≤ (j : Int) := by omega
            have q4 : (0 : Int) < (n : Int) % 25 := by have := HN2.out; have := HNe.out; omega
            have ke := HRV1.out.1.cv 0 (v := .int .u16 31) (by rw [show rpC r1 lv1 = [.int .u16 r1.err, .int .i64 r1.n, lv1, .slice none 0 0] from rfl, he]; rfl)
            clear he
            go_wp2_with (first | (refine wpList_store_row rfl 25 (.tmp 10) (.tmp 56) rfl v1.heap.size (stC S1.clock S1.next S1.last u1).toArray rfl rfl 25 zT.toArray (boxD_old1 v1) size24 rfl HA1.out ?_) | (refine wpList_store_row rfl 37 (.tmp 11) (.tmp 57) rfl (v1.heap.size + 1) (rpC r1 lv1).toArray rfl rfl 37 zR.toArray (boxD_old2 v1 (stC S1.clock S1.next S1.last u1)) sizeR rfl HAR1.out ?_; rw [boxD_def]; rw [← HW1.out]) | (refine wpList_load_midG (by rfl) 25 (.tmp 10) rfl v1.heap.size 0 rfl _ _ HSV1.out.1.range Tryz.underlying25 rfl size24 ?_) | (refine wpList_store_row rfl 25 (.tmp 5) (.tmp 69) rfl b0 (stC S1.clock S1.next S1.last u1).toArray rfl rfl 25 _ S0_1.out.1 size24 rfl HA1.out ?_) | fail)
            have HX := sv_again S0_1.out.1 HON1.out HZr.out
            have HTN := HT1.out
            rw [HS1.out] at HTN
            exact ⟨⟨j + 1, u1, by omega, by go_num, below_setRow HB1.out HBN.out _, by rw [← HS1.out]; exact HX, HTN⟩, by simp only [intOf]; omega⟩
          · by_cases h30 : 30 ≤ j
            · have q3 : (30 : Int) ≤ (j : Int) := by omega
              have q4 : (n : Int) % 25 ≤ 0 := by have := HN2.out; have := HNe.out; omega
              have ke := HRV1.out.1.cv 0 (v := .int .u16 0) (by rw [show rpC r1 lv1 = [.int .u16 r1.err, .int .i64 r1.n, lv1, .slice none 0 0] from rfl, he]; rfl)
              clear he
              go_wp2_with (first | (refine wpList_store_row rfl 25 (.tmp 10) (.tmp 56) rfl v1.heap.size (stC S1.clock S1.next S1.last u1).toArray rfl rfl 25 zT.toArray (boxD_old1 v1) size24 rfl HA1.out ?_) | (refine wpList_store_row rfl 37 (.tmp 11) (.tmp 57) rfl (v1.heap.size + 1) (rpC r1 lv1).toArray rfl rfl 37 zR.toArray (boxD_old2 v1 (stC S1.clock S1.next S1.last u1)) sizeR rfl HAR1.out ?_; rw [boxD_def]; rw [← HW1.out]) | (refine wpList_load_midG (by rfl) 25 (.tmp 10) rfl v1.heap.size 0 rfl _ _ HSV1.out.1.range Tryz.underlying25 rfl size24 ?_) | (refine wpList_store_row rfl 25 (.tmp 5) (.tmp 69) rfl b0 (stC S1.clock S1.next S1.last u1).toArray rfl rfl 25 _ S0_1.out.1 size24 rfl HA1.out ?_) | fail)
              have HX := sv_again S0_1.out.1 HON1.out HZr.out
              have HTN := HT1.out
              rw [HS1.out] at HTN
              exact ⟨⟨j + 1, u1, by omega, by go_num, below_setRow HB1.out HBN.out _, by rw [← HS1.out]; exact HX, HTN⟩, by simp only [intOf]; omega⟩
            · have q3 : (j : Int) < 30 := by omega
              have ke := HRV1.out.1.cv 0 (v := .int .u16 0) (by rw [show rpC r1 lv1 = [.int .u16 r1.err, .int .i64 r1.n, lv1, .slice none 0 0] from rfl, he]; rfl)
              clear he
              go_wp2_with (first | (refine wpList_store_row rfl 25 (.tmp 10) (.tmp 56) rfl v1.heap.size (stC S1.clock S1.next S1.last u1).toArray rfl rfl 25 zT.toArray (boxD_old1 v1) size24 rfl HA1.out ?_) | (refine wpList_store_row rfl 37 (.tmp 11) (.tmp 57) rfl (v1.heap.size + 1) (rpC r1 lv1).toArray rfl rfl 37 zR.toArray (boxD_old2 v1 (stC S1.clock S1.next S1.last u1)) sizeR rfl HAR1.out ?_; rw [boxD_def]; rw [← HW1.out]) | (refine wpList_load_midG (by rfl) 25 (.tmp 10) rfl v1.heap.size 0 rfl _ _ HSV1.out.1.range Tryz.underlying25 rfl size24 ?_) | (refine wpList_store_row rfl 25 (.tmp 5) (.tmp 69) rfl b0 (stC S1.clock S1.next S1.last u1).toArray rfl rfl 25 _ S0_1.out.1 size24 rfl HA1.out ?_) | fail)
              have HX := sv_again S0_1.out.1 HON1.out HZr.out
              have HTN := HT1.out
              rw [HS1.out] at HTN
              exact ⟨⟨j + 1, u1, by omega, by go_num, below_setRow HB1.out HBN.out _, by rw [← HS1.out]; exact HX, HTN⟩, by simp only [intOf]; omega⟩
        · obtain rfl : j = L := by omega
          clear hcv
          go_wp2_with fail
          refine (known11_any _).mono ?_
          rintro e v9 ⟨rfl, hb⟩
          have HB9 := Lib.hid (HBr.out.trans (hb.mono HBr.out.size))
          have HS9 := Lib.hid (HSr.out.below hb)
          clear hb
          obtain ⟨Au, cu, hus, _, _⟩ := HS9.out.2.1.shape
          have hlen : (qS M (qJ M j)).subs.length = M := by show ((List.range M).map _).length = M; simp
          rw [hlen] at hus
          have ks := HS9.out.1.cv 3 (v := .slice Au M cu) (by rw [show stC (qS M (qJ M j)).clock (qS M (qJ M j)).next (qS M (qJ M j)).last u4 = [.int .i64 (qS M (qJ M j)).clock, .int .i64 (qS M (qJ M j)).next, .int .i64 (qS M (qJ M j)).last, u4] from rfl, hus]; rfl)
          have hcv : (convert 5 3 (.int .u8 ((n : Int) % 25))).run Tryz.prog v9 = .ok (.int .i64 (k : Int)) v9 := conv_u8 (by have := HNe.out; omega) (by omega)
          clear hus hlen
          go_wp2_with (first | (refine wpList_stop 4 rfl ?_) | fail)
          go_ret
          have e8 : ((M : Int) == min (k : Int) 20) = true := by have := HN2.out; rw [beq_iff_eq]; omega
          exact ⟨congrArg Ending.returned (congrArg Value.bool e8), HB9.out⟩
end Go.Proofs.YtodckdkbheapfaaGreat
