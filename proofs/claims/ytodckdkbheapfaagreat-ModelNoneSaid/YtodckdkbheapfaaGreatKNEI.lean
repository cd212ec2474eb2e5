/-
  The contracts of the program's ModelNone (layer model).
-/
import Derived.Test.YtodckdkbheapfaaGreatKNEG
import Derived.Test.YtodckdkbheapfaaGreatKNEH
set_option linter.unusedVariables false
set_option linter.unusedVariables false
set_option linter.unusedSimpArgs false
namespace Go.Proofs.YtodckdkbheapfaaGreat
open Go.RowKit Go.Rst Go.Tp Go.Ts Go.Md
def kdV : List Value := [.int .i64 2, .int .i64 4, .int .i64 5, .int .i64 6, .int .i64 7, .int .i64 9, .int .i64 10, .int .i64 11]
theorem kdV_get (k : Nat) (h : k < 8) : ∃ kd : Int, (kd = 2 ∨ kd = 4 ∨ kd = 5 ∨ kd = 6 ∨ kd = 7 ∨ kd = 9 ∨ kd = 10 ∨ kd = 11) ∧ kdV[k]? = some (.int .i64 kd) := by
  rcases k with _|_|_|_|_|_|_|_|k
  · exact ⟨2, by decide, rfl⟩
  · exact ⟨4, by decide, rfl⟩
  · exact ⟨5, by decide, rfl⟩
  · exact ⟨6, by decide, rfl⟩
  · exact ⟨7, by decide, rfl⟩
  · exact ⟨9, by decide, rfl⟩
  · exact ⟨10, by decide, rfl⟩
  · exact ⟨11, by decide, rfl⟩
  · omega
set_option maxRecDepth 100000 in
set_option maxHeartbeats 8000000 in
theorem none_walk (cv : Value) (l : List UInt8) (kind id : Int) (w : World) (hc : RB w cv l) (hl : l.length ≤ 140737488351232) :
    Calls Tryz.prog 3 #[cv, .int .i64 kind, .int .i64 id] w fun e w' => e = .returned (.bool true) ∧ Below w.heap.size w w' := by
  have HC := Lib.hid hc
  have HB0 := Lib.hid (Below.refl w.heap.size w)
  clear hc
  go_enter Tryz.func3, Tryz.ntmps3
  go_wp2_with fail
  refine (state_any cv l _ HC.out hl).mono ?_
  rintro e v0 ⟨c0, n0, l0, u0, xs, rfl, hrs, hbw, hmade, hx6⟩
  obtain ⟨S0, e1, e2, e3, e4⟩ : ∃ S0 : Ts.St, c0 = S0.clock ∧ n0 = S0.next ∧ l0 = S0.last ∧ xs = S0.subs := ⟨⟨c0, n0, l0, xs⟩, rfl, rfl, rfl, rfl⟩
  subst e1 e2 e3 e4
  have HT0 := Lib.hid (show Rt S0 from by have h := made_rt hmade hx6; cases S0; exact h)
  have HCK := Lib.hid (show S0.clock ≤ 1000000 from by have := hmade.c1; omega)
  have HCK0 := Lib.hid (show 0 ≤ S0.clock from hmade.c0)
  clear hmade hx6
  obtain ⟨W0, hW⟩ : ∃ W, W = boxS v0 (stC S0.clock S0.next S0.last u0) := ⟨_, rfl⟩
  have HW0 := Lib.hid hW
  have HSV0 := Lib.hid (show SV W0 v0.heap.size S0 u0 by rw [hW]; exact sv_boxS hrs)
  have HA0 := Lib.hid (st_all S0.clock S0.next S0.last (rl_one hrs))
  have HB1 := Lib.hid (show Below w.heap.size w W0 by rw [hW]; exact hbw.trans ((boxS_below _ _).mono hbw.size))
  clear hW hrs hbw HB0
  go_wp2_with (first | (refine wpList_store_row rfl 25 (.tmp 7) (.tmp 17) rfl v0.heap.size (stC S0.clock S0.next S0.last u0).toArray rfl rfl 25 zT.toArray (boxS_old v0) size24 rfl HA0.out ?_; rw [boxS_def]; rw [← HW0.out]) | (refine wpList_load_midG (by rfl) 25 (.tmp 7) rfl v0.heap.size 0 rfl _ _ HSV0.out.1.range Tryz.underlying25 rfl size24 ?_) | fail)
  refine (find_any S0.clock S0.next S0.last u0 S0.subs id W0 HSV0.out.2.1).mono ?_
  rintro e v2 ⟨av, qv, rfl, ha, hq, hb⟩
  obtain ⟨E, hE⟩ : ∃ E, E = subC ((findS S0.subs id).getD noSub) av qv := ⟨_, rfl⟩
  have HE := Lib.hid (show Cub E by rw [hE]; exact Cub.mk_ _ (rl_one ha) (rl_one hq))
  rw [← hE]
  have HBS2 := Lib.hid (show Below _ _ (boxW v2 E) from hb.trans ((box_below v2 E).mono hb.size))
  have HB2 := Lib.hid (HB1.out.trans (HBS2.out.mono HB1.out.size))
  clear hE ha hq hb
  have S0_2 := Lib.hid (HSV0.out.below HBS2.out)
  clear HSV0
  obtain ⟨fo, hfo⟩ : ∃ f, f = (findS S0.subs id).isSome := ⟨_, rfl⟩
  rw [← hfo]
  have HFO := Lib.hid hfo
  clear hfo
  cases fo with
  | true =>
    go_wp2_with (first | (refine wpList_store_row rfl 30 (.tmp 8) (.tmp 22) rfl v2.heap.size E.toArray rfl rfl 30 #[.int .i64 0, .string ⟨#[]⟩, .string ⟨#[]⟩, .string ⟨#[]⟩, .int .i64 0, .int .i64 0, .int .i64 0, .slice none 0 0, .slice none 0 0, .string ⟨#[]⟩] (box_old v2) HE.out.info HE.out.old HE.out.all ?_; rw [box_def]) | fail)
    refine (known11_any _).mono ?_
    rintro e v3 ⟨rfl, hb⟩
    have HBE := Lib.hid (HB2.out.trans (hb.mono HB2.out.size))
    clear hb
    go_wp2_with (first | (refine wpList_stop 6 rfl ?_) | fail)
    go_ret
    exact ⟨rfl, HBE.out⟩
  | false =>
    have HNO := Lib.hid (show findS S0.subs id = none from by have h := HFO.out; cases hf : findS S0.subs id with | none => rfl | some x => rw [hf] at h; cases h)
    clear HFO
    go_wp2_with (first | (refine wpList_store_row rfl 30 (.tmp 8) (.tmp 22) rfl v2.heap.size E.toArray rfl rfl 30 #[.int .i64 0, .string ⟨#[]⟩, .string ⟨#[]⟩, .string ⟨#[]⟩, .int .i64 0, .int .i64 0, .int .i64 0, .slice none 0 0, .slice none 0 0, .string ⟨#[]⟩] (box_old v2) HE.out.info HE.out.old HE.out.all ?_; rw [box_def]) | fail)
    obtain ⟨b8, hb8⟩ : ∃ b, b = (boxW v2 E).heap.size := ⟨_, rfl⟩
    obtain ⟨W8, hW8⟩ : ∃ W, W = (boxW v2 E).alloc (Obj.cells #[Value.int IntKind.i64 2, Value.int IntKind.i64 4, Value.int IntKind.i64 5, Value.int IntKind.i64 6, Value.int IntKind.i64 7, Value.int IntKind.i64 9, Value.int IntKind.i64 10, Value.int IntKind.i64 11] 3) := ⟨_, rfl⟩
    have HKD := Lib.hid (show Wh W8 b8 kdV 3 by rw [hW8, hb8]; exact Wh.new _ kdV 3)
    have HBA := Lib.hid (show Below (boxW v2 E).heap.size (boxW v2 E) W8 by rw [hW8]; exact (Below.refl _ _).alloc (Nat.le_refl _) _)
    have HB8 := Lib.hid (show Below w.heap.size w W8 from HB2.out.trans (HBA.out.mono HB2.out.size))
    have HSV8 := Lib.hid (S0_2.out.below HBA.out)
    have HBN := Lib.hid (show v0.heap.size < W8.heap.size from HSV8.out.2.2)
    rw [← hW8]
    rw [← hb8]
    clear hW8 hb8 HBA
    go_loopw [28] (fun i wr => ∃ k : Nat, k ≤ 8 ∧ i = .int .i64 k ∧ Below w.heap.size w wr ∧ SV wr v0.heap.size S0 u0 ∧ Wh wr b8 kdV 3) (fun i _ => 8 - (intOf i).toNat)
    case atStart => exact ⟨0, Nat.zero_le _, rfl, HB8.out, HSV8.out, HKD.out⟩
    case round =>
      obtain ⟨k, hk, rfl, hbw, hsw, hkw⟩ := hrel
      have HBw := Lib.hid hbw
      have HSw := Lib.hid hsw
      have HKw := Lib.hid hkw
      clear hbw hsw hkw
      by_cases hlt : k < 8
      · obtain ⟨kd, hkd, hcv⟩ := kdV_get k hlt
        have hck := HKw.out.cv k hcv
        clear hcv
        go_wp2_with (first | (refine wpList_load_midG (by rfl) 25 (.tmp 7) rfl v0.heap.size 0 rfl _ _ HSw.out.1.range Tryz.underlying25 rfl size24 ?_) | fail)
        obtain ⟨S3, r3, hd3⟩ : ∃ (zs : Ts.St) (zr : Rp), doS S0 (kop kd id 1 0) = (zs, zr) := ⟨_, _, rfl⟩
        have hc : Calls Tryz.prog 17 #[.agg (stC S0.clock S0.next S0.last u0).toArray, .agg (opC (kop kd id 1 0) (.slice none 0 0)).toArray] wr (GivesDo wr S3 r3) := by
          have h := do_p S0 u0 (kop kd id 1 0) (.slice none 0 0) wr HSw.out.2.1 HT0.out (kop_ok _ _ _ _) rfl (fun _ x hx _ => by rw [show (kop kd id 1 0).sub = id from rfl, HNO.out] at hx; cases hx)
          rw [hd3] at h
          exact h
        have HD3 := Lib.hid hd3
        have HT3 := Lib.hid (show Rt S3 by have h := rt_do HT0.out (kop kd id 1 0); rw [hd3] at h; exact h)
        clear hd3
        refine hc.mono ?_
        clear hc
        rintro e v3 ⟨u3, lv3, rfl, hon, hlv, hb⟩
        obtain ⟨W3, hW⟩ : ∃ W, W = boxD v3 (stC S3.clock S3.next S3.last u3) (rpC r3 lv3) := ⟨_, rfl⟩
        have HW3 := Lib.hid hW
        have HBS3 := Lib.hid (show Below _ _ W3 by rw [hW]; exact hb.trans ((boxD_below ..).mono hb.size))
        have HSV3 := Lib.hid (show SV W3 v3.heap.size S3 u3 by rw [hW]; exact sv_box _ hon)
        have HA3 := Lib.hid (st_all S3.clock S3.next S3.last (rl_one hon.rs))
        have HRV3 := Lib.hid (show RV W3 (v3.heap.size + 1) r3 lv3 by rw [hW]; exact rv_box _ hlv)
        have HAR3 := Lib.hid (rp_all r3 (rl_one hlv.rl))
        have HB3 := Lib.hid (HBw.out.trans (HBS3.out.mono HBw.out.size))
        clear hW hon hlv hb
        have S0_3 := Lib.hid (HSw.out.below HBS3.out)
        clear HSw
        have K_3 := Lib.hid (HKw.out.below HBS3.out)
        clear HKw
        have hz := none_math HNO.out (n := 1) hkd
        rw [HD3.out] at hz
        injection hz with z1 z2
        have ke := HRV3.out.1.cv 0 (v := .int .u16 30) (by rw [show rpC r3 lv3 = [.int .u16 r3.err, .int .i64 r3.n, lv3, .slice none 0 0] from rfl, z2]; rfl)
        have HZ := Lib.hid z1
        clear z1 z2 hck
        go_wp2_with (first | (refine wpList_store_row rfl 25 (.tmp 12) (.tmp 38) rfl v3.heap.size (stC S3.clock S3.next S3.last u3).toArray rfl rfl 25 zT.toArray (boxD_old1 v3) size24 rfl HA3.out ?_) | (refine wpList_store_row rfl 37 (.tmp 13) (.tmp 39) rfl (v3.heap.size + 1) (rpC r3 lv3).toArray rfl rfl 37 zR.toArray (boxD_old2 v3 (stC S3.clock S3.next S3.last u3)) sizeR rfl HAR3.out ?_; rw [boxD_def]; rw [← HW3.out]) | (refine wpList_load_midG (by rfl) 25 (.tmp 7) rfl v0.heap.size 0 rfl _ _ S0_3.out.1.range Tryz.underlying25 rfl size24 ?_) | (refine wpList_load_midG (by rfl) 25 (.tmp 12) rfl v3.heap.size 0 rfl _ _ HSV3.out.1.range Tryz.underlying25 rfl size24 ?_) | fail)
        have hsm := same_any (c := S0.clock) (n := S0.next) (l := S0.last) (c2 := S3.clock) (n2 := S3.next) (l2 := S3.last) S0_3.out.2.1 HSV3.out.2.1
        rw [show decide (S0.clock = S3.clock ∧ S0.next = S3.next ∧ S0.last = S3.last ∧ S0.subs = S3.subs) = true from decide_eq_true (by rw [HZ.out]; exact ⟨rfl, rfl, rfl, rfl⟩)] at hsm
        refine hsm.mono ?_
        clear hsm ke
        rintro e v6 ⟨rfl, hb⟩
        have HBS6 := Lib.hid hb
        have HB6 := Lib.hid (HB3.out.trans (HBS6.out.mono HB3.out.size))
        have S0_6 := Lib.hid (S0_3.out.below HBS6.out)
        clear S0_3
        have K_6 := Lib.hid (K_3.out.below HBS6.out)
        clear K_3
        have S3_6 := Lib.hid (HSV3.out.below HBS6.out)
        clear HSV3
        have R3_6 := Lib.hid (HRV3.out.below HBS6.out)
        clear HRV3
        clear hb
        go_wp2_with fail
        exact ⟨⟨k + 1, by omega, by go_num, HB6.out, S0_6.out, K_6.out⟩, by simp only [intOf]; omega⟩
      · go_wp2_with (first | (refine wpList_load_midG (by rfl) 25 (.tmp 7) rfl v0.heap.size 0 rfl _ _ HSw.out.1.range Tryz.underlying25 rfl size24 ?_) | fail)
        obtain ⟨S7, r7, hd7⟩ : ∃ (zs : Ts.St) (zr : Rp), doS S0 (kop kind id 0 0) = (zs, zr) := ⟨_, _, rfl⟩
        have hc : Calls Tryz.prog 17 #[.agg (stC S0.clock S0.next S0.last u0).toArray, .agg (opC (kop kind id 0 0) (.slice none 0 0)).toArray] wr (GivesDo wr S7 r7) := by
          have h := do_p S0 u0 (kop kind id 0 0) (.slice none 0 0) wr HSw.out.2.1 HT0.out (kop_ok _ _ _ _) rfl (fun _ x hx _ => by rw [show (kop kind id 0 0).sub = id from rfl, HNO.out] at hx; cases hx)
          rw [hd7] at h
          exact h
        have HD7 := Lib.hid hd7
        have HT7 := Lib.hid (show Rt S7 by have h := rt_do HT0.out (kop kind id 0 0); rw [hd7] at h; exact h)
        clear hd7
        refine hc.mono ?_
        clear hc
        rintro e v7 ⟨u7, lv7, rfl, hon, hlv, hb⟩
        obtain ⟨W7, hW⟩ : ∃ W, W = boxD v7 (stC S7.clock S7.next S7.last u7) (rpC r7 lv7) := ⟨_, rfl⟩
        have HW7 := Lib.hid hW
        have HBS7 := Lib.hid (show Below _ _ W7 by rw [hW]; exact hb.trans ((boxD_below ..).mono hb.size))
        have HSV7 := Lib.hid (show SV W7 v7.heap.size S7 u7 by rw [hW]; exact sv_box _ hon)
        have HA7 := Lib.hid (st_all S7.clock S7.next S7.last (rl_one hon.rs))
        have HRV7 := Lib.hid (show RV W7 (v7.heap.size + 1) r7 lv7 by rw [hW]; exact rv_box _ hlv)
        have HAR7 := Lib.hid (rp_all r7 (rl_one hlv.rl))
        have HB7 := Lib.hid (HBw.out.trans (HBS7.out.mono HBw.out.size))
        clear hW hon hlv hb
        have S0_7 := Lib.hid (HSw.out.below HBS7.out)
        clear HSw
        have K_7 := Lib.hid (HKw.out.below HBS7.out)
        clear HKw
        have HZ := Lib.hid (show r7.err = 70 ↔ (kind < 1 ∨ 12 < kind) by have h := kind_math S0 (kop kind id 0 0); rw [HD7.out] at h; exact h)
        have ke := HRV7.out.1.cv 0 (v := .int .u16 r7.err) rfl
        go_wp2_with (first | (refine wpList_store_row rfl 25 (.tmp 14) (.tmp 56) rfl v7.heap.size (stC S7.clock S7.next S7.last u7).toArray rfl rfl 25 zT.toArray (boxD_old1 v7) size24 rfl HA7.out ?_) | (refine wpList_store_row rfl 37 (.tmp 15) (.tmp 57) rfl (v7.heap.size + 1) (rpC r7 lv7).toArray rfl rfl 37 zR.toArray (boxD_old2 v7 (stC S7.clock S7.next S7.last u7)) sizeR rfl HAR7.out ?_; rw [boxD_def]; rw [← HW7.out]) | fail)
        refine (known11_any _).mono ?_
        rintro e v9 ⟨rfl, hb⟩
        have HBS9 := Lib.hid hb
        have HB9 := Lib.hid (HB7.out.trans (HBS9.out.mono HB7.out.size))
        have S0_9 := Lib.hid (S0_7.out.below HBS9.out)
        clear S0_7
        have K_9 := Lib.hid (K_7.out.below HBS9.out)
        clear K_7
        have S7_9 := Lib.hid (HSV7.out.below HBS9.out)
        clear HSV7
        have R7_9 := Lib.hid (HRV7.out.below HBS9.out)
        clear HRV7
        clear hb ke
        have ke := R7_9.out.1.cv 0 (v := .int .u16 r7.err) rfl
        by_cases q1 : kind < 1
        · have e7 : r7.err = 70 := HZ.out.2 (Or.inl q1)
          rw [e7] at ke
          clear e7
          go_wp2_with (first | (refine wpList_stop 6 rfl ?_) | fail)
          go_ret
          exact ⟨rfl, HB9.out⟩
        · by_cases q2 : 12 < kind
          · have e7 : r7.err = 70 := HZ.out.2 (Or.inr q2)
            rw [e7] at ke
            clear e7
            go_wp2_with (first | (refine wpList_stop 6 rfl ?_) | fail)
            go_ret
            exact ⟨rfl, HB9.out⟩
          · have e7 : r7.err ≠ 70 := fun h => by rcases HZ.out.1 h with h | h <;> omega
            go_wp2_with (first | (refine wpList_stop 6 rfl ?_) | fail)
            go_ret
            have e8 : ((r7.err == 70) == (decide (kind < 1) || decide (12 < kind))) = true := by rw [show (r7.err == 70) = false from by simpa using e7, decide_eq_false (p := kind < 1) (by omega), decide_eq_false (p := 12 < kind) (by omega)]; rfl
            exact ⟨congrArg Ending.returned (congrArg Value.bool e8), HB9.out⟩
end Go.Proofs.YtodckdkbheapfaaGreat
