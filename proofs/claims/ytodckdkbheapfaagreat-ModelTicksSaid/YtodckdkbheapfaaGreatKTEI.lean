/-
  The contracts of the program's ModelTicks (layer model).
-/
import Derived.Test.YtodckdkbheapfaaGreatKTEG
import Derived.Test.YtodckdkbheapfaaGreatKTEH
set_option linter.unusedVariables false
set_option linter.unusedVariables false
set_option linter.unusedSimpArgs false
namespace Go.Proofs.YtodckdkbheapfaaGreat
open Go.RowKit Go.Rst Go.Tp Go.Ts Go.Md
set_option maxRecDepth 100000 in
set_option maxHeartbeats 8000000 in
theorem ticks_walk (cv : Value) (l : List UInt8) (a b : Nat) (w : World) (hc : RB w cv l) (hl : l.length ≤ 140737488351232) (ha : a ≤ 65535) (hb : b ≤ 65535) :
    Calls Tryz.prog 12 #[cv, .int .u16 a, .int .u16 b] w fun e w' => e = .returned (.bool true) ∧ Below w.heap.size w w' := by
  have HC := Lib.hid hc
  have HB0 := Lib.hid (Below.refl w.heap.size w)
  clear hc
  go_enter Tryz.func12, Tryz.ntmps12
  go_wp2_with fail
  refine (state_any cv l _ HC.out hl).mono ?_
  rintro e v0 ⟨c0, n0, l0, u0, xs, rfl, hrs, hbw, hmade, hx6⟩
  obtain ⟨S0, e1, e2, e3, e4⟩ : ∃ S0 : Ts.St, c0 = S0.clock ∧ n0 = S0.next ∧ l0 = S0.last ∧ xs = S0.subs := ⟨⟨c0, n0, l0, xs⟩, rfl, rfl, rfl, rfl⟩
  subst e1 e2 e3 e4
  have HT0 := Lib.hid (show Rt S0 from by have h := made_rt hmade hx6; cases S0; exact h)
  have HCK := Lib.hid (show S0.clock ≤ 1000000 from by have := hmade.c1; omega)
  have HCK0 := Lib.hid (show 0 ≤ S0.clock from hmade.c0)
  clear hmade hx6
  obtain ⟨W0, hW⟩ : ∃ W, W = boxS v0 (stC S0.clock S0.next S0.last u0) := ⟨_, rfl⟩
  have HW0 := Lib.hid hW
  have HSV0 := Lib.hid (show SV W0 v0.heap.size S0 u0 by rw [hW]; exact sv_boxS hrs)
  have HA0 := Lib.hid (st_all S0.clock S0.next S0.last (rl_one hrs))
  have HB1 := Lib.hid (show Below w.heap.size w W0 by rw [hW]; exact hbw.trans ((boxS_below _ _).mono hbw.size))
  clear hW hrs hbw HB0
  go_wp2_with (first | (refine wpList_store_row rfl 25 (.tmp 7) (.tmp 15) rfl v0.heap.size (stC S0.clock S0.next S0.last u0).toArray rfl rfl 25 zT.toArray (boxS_old v0) size24 rfl HA0.out ?_; rw [boxS_def]; rw [← HW0.out]) | (refine wpList_load_midG (by rfl) 25 (.tmp 7) rfl v0.heap.size 0 rfl _ _ HSV0.out.1.range Tryz.underlying25 rfl size24 ?_) | fail)
  obtain ⟨S2, r2, hd2⟩ : ∃ (zs : Ts.St) (zr : Rp), doS S0 (kop 8 0 (a : Int) 0) = (zs, zr) := ⟨_, _, rfl⟩
  have hc : Calls Tryz.prog 17 #[.agg (stC S0.clock S0.next S0.last u0).toArray, .agg (opC (kop 8 0 (a : Int) 0) (.slice none 0 0)).toArray] W0 (GivesDo W0 S2 r2) := by
    have h := do_p S0 u0 (kop 8 0 (a : Int) 0) (.slice none 0 0) W0 HSV0.out.2.1 HT0.out (kop_ok _ _ _ _) rfl (fun h => absurd (show (8 : Int) = 4 from h) (by decide))
    rw [hd2] at h
    exact h
  have HD2 := Lib.hid hd2
  have HT2 := Lib.hid (show Rt S2 by have h := rt_do HT0.out (kop 8 0 (a : Int) 0); rw [hd2] at h; exact h)
  clear hd2
  refine hc.mono ?_
  clear hc
  rintro e v2 ⟨u2, lv2, rfl, hon, hlv, hb⟩
  obtain ⟨W2, hW⟩ : ∃ W, W = boxD v2 (stC S2.clock S2.next S2.last u2) (rpC r2 lv2) := ⟨_, rfl⟩
  have HW2 := Lib.hid hW
  have HBS2 := Lib.hid (show Below _ _ W2 by rw [hW]; exact hb.trans ((boxD_below ..).mono hb.size))
  have HSV2 := Lib.hid (show SV W2 v2.heap.size S2 u2 by rw [hW]; exact sv_box _ hon)
  have HA2 := Lib.hid (st_all S2.clock S2.next S2.last (rl_one hon.rs))
  have HRV2 := Lib.hid (show RV W2 (v2.heap.size + 1) r2 lv2 by rw [hW]; exact rv_box _ hlv)
  have HAR2 := Lib.hid (rp_all r2 (rl_one hlv.rl))
  have HB2 := Lib.hid (HB1.out.trans (HBS2.out.mono HB1.out.size))
  clear hW hon hlv hb
  have S0_2 := Lib.hid (HSV0.out.below HBS2.out)
  clear HSV0
  go_wp2_with (first | (refine wpList_store_row rfl 25 (.tmp 8) (.tmp 22) rfl v2.heap.size (stC S2.clock S2.next S2.last u2).toArray rfl rfl 25 zT.toArray (boxD_old1 v2) size24 rfl HA2.out ?_) | (refine wpList_store_row rfl 37 (.tmp 9) (.tmp 23) rfl (v2.heap.size + 1) (rpC r2 lv2).toArray rfl rfl 37 zR.toArray (boxD_old2 v2 (stC S2.clock S2.next S2.last u2)) sizeR rfl HAR2.out ?_; rw [boxD_def]; rw [← HW2.out]) | (refine wpList_load_midG (by rfl) 25 (.tmp 8) rfl v2.heap.size 0 rfl _ _ HSV2.out.1.range Tryz.underlying25 rfl size24 ?_) | fail)
  obtain ⟨S3, r3, hd3⟩ : ∃ (zs : Ts.St) (zr : Rp), doS S2 (kop 8 0 (b : Int) 0) = (zs, zr) := ⟨_, _, rfl⟩
  have hc : Calls Tryz.prog 17 #[.agg (stC S2.clock S2.next S2.last u2).toArray, .agg (opC (kop 8 0 (b : Int) 0) (.slice none 0 0)).toArray] W2 (GivesDo W2 S3 r3) := by
    have h := do_p S2 u2 (kop 8 0 (b : Int) 0) (.slice none 0 0) W2 HSV2.out.2.1 HT2.out (kop_ok _ _ _ _) rfl (fun h => absurd (show (8 : Int) = 4 from h) (by decide))
    rw [hd3] at h
    exact h
  have HD3 := Lib.hid hd3
  have HT3 := Lib.hid (show Rt S3 by have h := rt_do HT2.out (kop 8 0 (b : Int) 0); rw [hd3] at h; exact h)
  clear hd3
  refine hc.mono ?_
  clear hc
  rintro e v3 ⟨u3, lv3, rfl, hon, hlv, hb⟩
  obtain ⟨W3, hW⟩ : ∃ W, W = boxD v3 (stC S3.clock S3.next S3.last u3) (rpC r3 lv3) := ⟨_, rfl⟩
  have HW3 := Lib.hid hW
  have HBS3 := Lib.hid (show Below _ _ W3 by rw [hW]; exact hb.trans ((boxD_below ..).mono hb.size))
  have HSV3 := Lib.hid (show SV W3 v3.heap.size S3 u3 by rw [hW]; exact sv_box _ hon)
  have HA3 := Lib.hid (st_all S3.clock S3.next S3.last (rl_one hon.rs))
  have HRV3 := Lib.hid (show RV W3 (v3.heap.size + 1) r3 lv3 by rw [hW]; exact rv_box _ hlv)
  have HAR3 := Lib.hid (rp_all r3 (rl_one hlv.rl))
  have HB3 := Lib.hid (HB2.out.trans (HBS3.out.mono HB2.out.size))
  clear hW hon hlv hb
  have S0_3 := Lib.hid (S0_2.out.below HBS3.out)
  clear S0_2
  have S2_3 := Lib.hid (HSV2.out.below HBS3.out)
  clear HSV2
  have R2_3 := Lib.hid (HRV2.out.below HBS3.out)
  clear HRV2
  go_wp2_with (first | (refine wpList_store_row rfl 25 (.tmp 10) (.tmp 30) rfl v3.heap.size (stC S3.clock S3.next S3.last u3).toArray rfl rfl 25 zT.toArray (boxD_old1 v3) size24 rfl HA3.out ?_) | (refine wpList_store_row rfl 37 (.tmp 11) (.tmp 31) rfl (v3.heap.size + 1) (rpC r3 lv3).toArray rfl rfl 37 zR.toArray (boxD_old2 v3 (stC S3.clock S3.next S3.last u3)) sizeR rfl HAR3.out ?_; rw [boxD_def]; rw [← HW3.out]) | (refine wpList_load_midG (by rfl) 25 (.tmp 7) rfl v0.heap.size 0 rfl _ _ S0_3.out.1.range Tryz.underlying25 rfl size24 ?_) | fail)
  obtain ⟨S4, r4, hd4⟩ : ∃ (zs : Ts.St) (zr : Rp), doS S0 (kop 8 0 ((a : Int) + (b : Int)) 0) = (zs, zr) := ⟨_, _, rfl⟩
  have hc : Calls Tryz.prog 17 #[.agg (stC S0.clock S0.next S0.last u0).toArray, .agg (opC (kop 8 0 ((a : Int) + (b : Int)) 0) (.slice none 0 0)).toArray] W3 (GivesDo W3 S4 r4) := by
    have h := do_p S0 u0 (kop 8 0 ((a : Int) + (b : Int)) 0) (.slice none 0 0) W3 S0_3.out.2.1 HT0.out (kop_ok _ _ _ _) rfl (fun h => absurd (show (8 : Int) = 4 from h) (by decide))
    rw [hd4] at h
    exact h
  have HD4 := Lib.hid hd4
  have HT4 := Lib.hid (show Rt S4 by have h := rt_do HT0.out (kop 8 0 ((a : Int) + (b : Int)) 0); rw [hd4] at h; exact h)
  clear hd4
  refine hc.mono ?_
  clear hc
  rintro e v4 ⟨u4, lv4, rfl, hon, hlv, hb⟩
  obtain ⟨W4, hW⟩ : ∃ W, W = boxD v4 (stC S4.clock S4.next S4.last u4) (rpC r4 lv4) := ⟨_, rfl⟩
  have HW4 := Lib.hid hW
  have HBS4 := Lib.hid (show Below _ _ W4 by rw [hW]; exact hb.trans ((boxD_below ..).mono hb.size))
  have HSV4 := Lib.hid (show SV W4 v4.heap.size S4 u4 by rw [hW]; exact sv_box _ hon)
  have HA4 := Lib.hid (st_all S4.clock S4.next S4.last (rl_one hon.rs))
  have HRV4 := Lib.hid (show RV W4 (v4.heap.size + 1) r4 lv4 by rw [hW]; exact rv_box _ hlv)
  have HAR4 := Lib.hid (rp_all r4 (rl_one hlv.rl))
  have HB4 := Lib.hid (HB3.out.trans (HBS4.out.mono HB3.out.size))
  clear hW hon hlv hb
  have S0_4 := Lib.hid (S0_3.out.below HBS4.out)
  clear S0_3
  have S2_4 := Lib.hid (S2_3.out.below HBS4.out)
  clear S2_3
  have R2_4 := Lib.hid (R2_3.out.below HBS4.out)
  clear R2_3
  have S3_4 := Lib.hid (HSV3.out.below HBS4.out)
  clear HSV3
  have R3_4 := Lib.hid (HRV3.out.below HBS4.out)
  clear HRV3
  obtain ⟨m1, m2, m3⟩ := ticks_math (s := S0) (a := (a : Int)) (b := (b : Int)) (by omega) (by omega) (by omega) (by omega) HCK.out
  rw [HD4.out] at m1 m2 m3
  rw [HD2.out] at m2
  simp only at m1 m2 m3
  rw [HD3.out] at m2
  have HM := Lib.hid (And.intro m1 (And.intro m2 m3))
  clear m1 m2 m3
  go_wp2_with (first | (refine wpList_store_row rfl 25 (.tmp 12) (.tmp 41) rfl v4.heap.size (stC S4.clock S4.next S4.last u4).toArray rfl rfl 25 zT.toArray (boxD_old1 v4) size24 rfl HA4.out ?_) | (refine wpList_store_row rfl 37 (.tmp 13) (.tmp 42) rfl (v4.heap.size + 1) (rpC r4 lv4).toArray rfl rfl 37 zR.toArray (boxD_old2 v4 (stC S4.clock S4.next S4.last u4)) sizeR rfl HAR4.out ?_; rw [boxD_def]; rw [← HW4.out]) | fail)
  refine (known11_any _).mono ?_
  rintro e v5 ⟨rfl, hb⟩
  have HBS5 := Lib.hid hb
  have HB5 := Lib.hid (HB4.out.trans (HBS5.out.mono HB4.out.size))
  have S0_5 := Lib.hid (S0_4.out.below HBS5.out)
  clear S0_4
  have S2_5 := Lib.hid (S2_4.out.below HBS5.out)
  clear S2_4
  have R2_5 := Lib.hid (R2_4.out.below HBS5.out)
  clear R2_4
  have S3_5 := Lib.hid (S3_4.out.below HBS5.out)
  clear S3_4
  have R3_5 := Lib.hid (R3_4.out.below HBS5.out)
  clear R3_4
  have S4_5 := Lib.hid (HSV4.out.below HBS5.out)
  clear HSV4
  have R4_5 := Lib.hid (HRV4.out.below HBS5.out)
  clear HRV4
  clear hb
  have ke := R4_5.out.1.cv 0 (v := .int .u16 0) (by rw [show rpC r4 lv4 = [.int .u16 r4.err, .int .i64 r4.n, lv4, .slice none 0 0] from rfl, HM.out.1]; rfl)
  go_wp2_with (first | (refine wpList_load_midG (by rfl) 25 (.tmp 10) rfl v3.heap.size 0 rfl _ _ S3_5.out.1.range Tryz.underlying25 rfl size24 ?_) | (refine wpList_load_midG (by rfl) 25 (.tmp 12) rfl v4.heap.size 0 rfl _ _ S4_5.out.1.range Tryz.underlying25 rfl size24 ?_) | fail)
  have hsm := same_any (c := S3.clock) (n := S3.next) (l := S3.last) (c2 := S4.clock) (n2 := S4.next) (l2 := S4.last) S3_5.out.2.1 S4_5.out.2.1
  rw [show decide (S3.clock = S4.clock ∧ S3.next = S4.next ∧ S3.last = S4.last ∧ S3.subs = S4.subs) = true from decide_eq_true (by rw [HM.out.2.1]; exact ⟨rfl, rfl, rfl, rfl⟩)] at hsm
  refine hsm.mono ?_
  clear hsm ke
  rintro e v6 ⟨rfl, hb⟩
  have HBS6 := Lib.hid hb
  have HB6 := Lib.hid (HB5.out.trans (HBS6.out.mono HB5.out.size))
  have S0_6 := Lib.hid (S0_5.out.below HBS6.out)
  clear S0_5
  have S2_6 := Lib.hid (S2_5.out.below HBS6.out)
  clear S2_5
  have R2_6 := Lib.hid (R2_5.out.below HBS6.out)
  clear R2_5
  have S3_6 := Lib.hid (S3_5.out.below HBS6.out)
  clear S3_5
  have R3_6 := Lib.hid (R3_5.out.below HBS6.out)
  clear R3_5
  have S4_6 := Lib.hid (S4_5.out.below HBS6.out)
  clear S4_5
  have R4_6 := Lib.hid (R4_5.out.below HBS6.out)
  clear R4_5
  clear hb
  obtain ⟨ca, hca⟩ : ∃ z, z = S0.clock + (a : Int) := ⟨_, rfl⟩
  obtain ⟨cb, hcb⟩ : ∃ z, z = ca + (b : Int) := ⟨_, rfl⟩
  have e7 : wrap64 (S0.clock + (a : Int)) = ca := by have := HCK.out; have := HCK0.out; rw [hca]; unfold wrap64; omega
  have e8 : wrap64 (ca + (b : Int)) = cb := by have := HCK.out; have := HCK0.out; rw [hcb, hca]; unfold wrap64; omega
  have kc := S4_6.out.1.cv 0 (v := .int .i64 cb) (by rw [show stC S4.clock S4.next S4.last u4 = [.int .i64 S4.clock, .int .i64 S4.next, .int .i64 S4.last, u4] from rfl, HM.out.2.2, ← hca, ← hcb]; rfl)
  have k0 := S0_6.out.1.cv 0 (v := .int .i64 S0.clock) rfl
  clear hca hcb
  go_wp2_with (first | (refine wpList_stop 6 rfl ?_) | fail)
  go_ret
  exact ⟨rfl, HB6.out⟩
end Go.Proofs.YtodckdkbheapfaaGreat
