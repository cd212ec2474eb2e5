/-
  The contract of the device's Flush: all that is loose is firm, whatever the device; nothing, if its fuse lets nothing through.
-/
import Derived.Test.YtpaahbohbnfibaaCrash
namespace Go.Proofs.Ytpaahbohbnfibaa
open Go.RowKit Go.Rst Go.Dv

theorem addW (a b : Nat) (ha : a < 300) (hb : b < 300) : ∀ w, (binOp .add 58 (.complex .f64 (fb a) (fb b)) (.complex .f64 4607182418800017408 0)).run Try.prog w = .ok (.complex .f64 (fb (a + 1)) (fb b)) w := fun w =>
  run_complex_sum w .add (.inl rfl) 58 .f64 _ _ _ _ _ _ (by unfold cSumBits; rw [fb_more a ha, fb_same b hb]; rfl)
theorem addF (a b : Nat) (ha : a < 300) (hb : b < 300) : ∀ w, (binOp .add 58 (.complex .f64 (fb a) (fb b)) (.complex .f64 0 4607182418800017408)).run Try.prog w = .ok (.complex .f64 (fb a) (fb (b + 1))) w := fun w =>
  run_complex_sum w .add (.inl rfl) 58 .f64 _ _ _ _ _ _ (by unfold cSumBits; rw [fb_same a ha, fb_more b hb]; rfl)
/-- A sum of two complex numbers, as a step. -/
theorem wpList_cadd {P : Program} {w : World} {ops : Array Oper} {rest : List Oper} {o : Oper} {a : Act} {Q : Exit → Act → World → Prop} (hgd : o.guard = none) (x y : Operand) (ho : o.op = .binOp .add 58 x y 58)
    {u v r : Value} (hx : a.eval x = u) (hy : a.eval y = v) (hrun : ∀ w, (binOp .add 58 u v).run P w = .ok r w) (h : wpList P ops Q rest (a.put o.dst r) w) : wpList P ops Q (o :: rest) a w := by
  refine wpList_plain hgd fun K hK => ?_
  unfold Oper.wp execOp
  have e : (eqGuard .add 58 x y u v).run P w = .ok () w := rfl
  simp only [ho, hx, hy, Sem.run_bind, e, hrun, Result.andThen_ok, Sem.run_pure]
  exact hK _ _ h
set_option maxRecDepth 100000 in
set_option maxHeartbeats 1000000 in
theorem flush_any {D : Nat → Prop} {w : World} {v : Value} {s : Sim} (h : Dev D w v s) (hw : s.nw < 300) (hn : s.nf < 300) :
    Calls Try.prog 13 #[v] w fun e w' => e = .returned (.tuple #[]) ∧ Fr D w w' ∧ Dev D w' v s.flush := by
  have H := Lib.hid h
  obtain ⟨y0, rfl, _⟩ := h
  cases hg : s.goes with
  | false =>
    have HG := Lib.hid hg
    clear hg
    go_enter Try.func13, Try.ntmps13
    go_wp2_with fail
    go_at_call 27
    refine (passes_any H.out).mono ?_
    rintro e w1 ⟨rfl, hf, hd⟩
    rw [HG.out] at hd ⊢
    have HF := Lib.hid hf
    have HD := Lib.hid hd
    clear hf hd
    go_wp2
    refine bodyPost_ret (v := .tuple #[]) (results_none rfl _ _ _) rfl ?_
    refine ⟨rfl, HF.out, ?_⟩
    have e : s.flush = s := by simp [Sim.flush, HG.out]
    rw [e]
    exact HD.out
  | true =>
    have HG := Lib.hid hg
    clear hg
    go_enter Try.func13, Try.ntmps13
    go_wp2_with fail
    go_at_call 27
    refine (passes_any H.out).mono ?_
    rintro e w1 ⟨rfl, hf, hd⟩
    rw [HG.out] at hd ⊢
    rw [if_pos rfl] at hd
    obtain ⟨y, hy, hr, hok, hfu⟩ := hd
    have hy' : y0.g = y.g := by injection hy with hy; injection hy with hy; injection hy
    rw [hy']
    have HY := Lib.hid hy'
    have HF := Lib.hid hf
    have HOk := Lib.hid hok
    have HFu := Lib.hid hfu
    clear hy hy' hf hfu
    obtain ⟨S, hS⟩ : ∃ S, S = s.burnt := ⟨_, rfl⟩
    have e1 : S.firm = s.firm := by rw [hS]; rfl
    have e2 : S.loose = s.loose := by rw [hS]; rfl
    have e3 : S.nw = s.nw := by rw [hS]; rfl
    have e4 : S.nf = s.nf := by rw [hS]; rfl
    have hr0 : Raw D w1 y s.firm s.loose (newL s.firm.length s.loose) s.burnt.fuse.isSome s.nw s.nf := hr
    clear hr e1 e2 e3 e4 hS
    obtain ⟨F, hF⟩ : ∃ F, F = s.firm := ⟨_, rfl⟩
    obtain ⟨L, hL⟩ : ∃ L, L = s.loose := ⟨_, rfl⟩
    obtain ⟨f, hf⟩ : ∃ f, f = s.burnt.fuse.isSome := ⟨_, rfl⟩
    rw [← hF, ← hL, ← hf] at hr0
    have HFa := Lib.hid (show ∀ x ∈ F, x.length = 64 by rw [hF]; exact hok.f)
    have HL := Lib.hid (show ∀ x ∈ L, x.1 < F.length ∧ x.2.length = 64 by rw [hF, hL]; exact hok.l)
    have HF4 := Lib.hid (show F.length ≤ 4096 by rw [hF]; exact hok.n)
    have hLl : L.length ≤ 100000 := by rw [hL]; have h1 : s.loose.length ≤ s.nw := hok.w; omega
    have HEF := Lib.hid hF
    have HEL := Lib.hid hL
    have HEf := Lib.hid hf
    have c1 := hr0.c1
    obtain ⟨Z, hZ⟩ : ∃ Z, Z = #[Value.int .i64 0] ++ Array.replicate 64 (Value.int .u8 0) := ⟨_, rfl⟩
    have z68 := zero68
    rw [← hZ] at z68
    have HZ := Lib.hid hZ
    have HR := Lib.hid hr0
    clear hZ hr0 hF hL hf hok
    obtain ⟨K, hK⟩ : ∃ K, K = List.replicate L.length true := ⟨_, rfl⟩
    have HK := Lib.hid hK
    clear hK
    go_wp2
    go_loopw [16] (fun i wr => ∃ k : Nat, k ≤ L.length ∧ i = .int .i64 k ∧ Raw D wr y (kept F L K k) L (newL F.length L) f s.nw s.nf ∧ Fr D w1 wr) (fun i _ => L.length - (intOf i).toNat)
    case atStart => exact ⟨0, Nat.zero_le _, rfl, HR.out, Fr.refl _ _⟩
    case round =>
      obtain ⟨k, hk, rfl, hr, hf⟩ := hrel
      clear c1
      by_cases hlt : k < L.length
      · obtain ⟨gL, hA, hn1, hn2, hn3, hat⟩ := hr.looseAt (fun x hx => (HL.out x hx).2) hlt
        have hx := HL.out _ (wat_mem hlt)
        obtain ⟨x, hxe⟩ : ∃ x, x = wat L k := ⟨_, rfl⟩
        rw [← hxe] at hat hx
        have HX := Lib.hid hxe
        have HAt := Lib.hid hat
        have HXl := Lib.hid (show (Try.prog.info? 68).map (·.size) = some (wc x).length by rw [wc_length hx.2]; exact size68)
        have HRr := Lib.hid hr
        have HFr := Lib.hid hf
        have HCs := Lib.hid (show (Try.prog.info? 68).map (·.size) = some (wc x).toArray.size by rw [List.size_toArray, wc_length hx.2]; exact size68)
        have HZC := Lib.hid (show Z.size = (wc x).toArray.size by rw [HZ.out]; simp [wc_length hx.2])
        have HKf := Lib.hid (kept_all K HFa.out (fun x hx => (HL.out x hx).2) k hk)
        have HKl := Lib.hid (kept_length F L K k)
        rw [hA]
        have hA2 := Lib.hid hA
        have H1 := Lib.hid hx
        have hv : K.getD k false = true := by rw [HK.out]; simp [hlt]
        have e : kept F L K (k + 1) = (kept F L K k).set x.1 x.2 := by rw [kept, if_pos hv, ← HX.out]
        have HE := Lib.hid e
        clear hxe hat hr hf hA hx e hv
        go_wp2_with (first
          | (refine wpList_load_mid rfl 68 (.tmp 18) rfl gL (k * 65) rfl (wc x) _ HAt.out Try.underlying68 rfl HXl.out ?_)
          | (refine wpList_store_row rfl 68 (.tmp 3) (.tmp 19) rfl wr.heap.size (wc x).toArray rfl rfl 68 Z (heap_alloc_new wr _) HCs.out HZC.out (wc_all x) ?_))
        try simp only [Act.put]
        obtain ⟨g3, hg3⟩ : ∃ g3, g3 = wr.heap.size := ⟨_, rfl⟩
        rw [← hg3]
        obtain ⟨W2, hW2⟩ : ∃ W2, W2 = (wr.alloc (Obj.cells Z 68)).setRow g3 (wc x).toArray := ⟨_, rfl⟩
        rw [← hW2]
        rw [hg3, World.setRow_alloc_new] at hW2
        have hr2 : Raw D W2 y (kept F L K k) L (newL F.length L) f s.nw s.nf := by rw [hW2]; exact HRr.out.alloc _
        have hb3 : Blk W2 g3 68 (wc x).toArray := by rw [hW2, hg3]; exact heap_alloc_new wr _
        have hx0 : W2.cell? ⟨g3, 0, none⟩ = some (.int .i64 (x.1 : Int)) := hb3.cell 0
        have hx1 : W2.rangeAt g3 1 (bvs x.2) := fun j v hv => by
          rw [hb3.cell, Nat.add_comm, List.getElem?_toArray]
          exact hv
        have hf2 : Fr D w1 W2 := by rw [hW2]; exact HFr.out.alloc _
        have c0 := hr2.c0
        have hxl : x.1 < (kept F L K k).length := by rw [HKl.out]; exact H1.out.1
        have hx5 : ((x.1 : Nat) : Int) < ((kept F L K k).length : Int) := by omega
        have hx6 : (0 : Int) ≤ ((x.1 : Nat) : Int) := by omega
        have hth := hr2.firmThere HKf.out hxl
        have HTh := Lib.hid hth
        have HR2 := Lib.hid hr2
        have HF2 := Lib.hid hf2
        have HXl2 := Lib.hid hxl
        have HG3 := Lib.hid hg3
        have HX1 := Lib.hid hx1
        have HS66 := Lib.hid (show (Try.prog.info? 66).map (·.size) = some (bvs x.2).length by rw [bvs_length, H1.out.2]; exact size66)
        clear hr2 hf2 hW2 hth z68 hb3 hx1 hg3
        obtain ⟨M, hM⟩ : ∃ M, M = kept F L K k := ⟨_, rfl⟩
        rw [← hM] at c0 hx5
        have HM := Lib.hid hM
        clear hM hxl
        go_still_tail 9, (by kernel_rfl)
        refine still_load_mid rfl 66 (.tmp 26) rfl g3 1 rfl (bvs x.2) _ HX1.out Try.underlying66 rfl HS66.out ?_
        try simp only [Act.put, List.setIfInBounds_toArray, List.set_cons_zero, List.set_cons_succ]
        repeat still_step
        refine wpStill_nil ?_
        go_wp2_with (refine wpList_store_mid rfl 66 (.tmp 28) (.tmp 27) rfl y.gF (x.1 * 64) (bvs x.2).toArray rfl rfl (by rw [List.size_toArray, bvs_length, H1.out.2]; exact HTh.out) (by rw [List.size_toArray]; exact HS66.out) (bvs_all _) ?_)
        go_roundw
        case rel =>
          refine ⟨k + 1, by omega, by go_num, ?_, ?_⟩
          · rw [HE.out]
            exact (HR2.out.same (w' := W2.drew) (fun _ _ => rfl) (Nat.le_refl _)).setFirm HKf.out HXl2.out H1.out.2
          · exact (HF2.out.drew).setCells (.inl HR2.out.dF) _ _
        case measure => simp [intOf]; omega
      · obtain rfl : k = L.length := by omega
        have hr' : Raw D wr y (kept F L K L.length) L (newL (kept F L K L.length).length L) f s.nw s.nf := by rw [kept_length]; exact hr
        have HRr := Lib.hid hr'
        have HFr := Lib.hid hf
        have HKf := Lib.hid (show ∀ x ∈ L, x.1 < (kept F L K L.length).length ∧ x.2.length = 64 by rw [kept_length]; exact HL.out)
        have HK4 := Lib.hid (show (kept F L K L.length).length ≤ 4096 by rw [kept_length]; exact HF4.out)
        clear hr hr' hf z68
        go_wp2_with fail
        go_at_call 28
        refine (forget_any HRr.out HKf.out HK4.out hLl).mono ?_
        rintro e w2 ⟨rfl, hf2, hr2⟩
        have fz := hr2.bd.frozen 5
        have c5 := hr2.c5
        rw [kept_length] at hr2
        have HR2 := Lib.hid hr2
        have HF2 := Lib.hid hf2
        have hadd := addF s.nw s.nf hw hn
        have HA := Lib.hid hadd
        have hst : ∀ w, (store ⟨y.g, 5, none⟩ (.complex .f64 (fb s.nw) (fb (s.nf + 1)))).run Try.prog w = stored Try.prog w ⟨y.g, 5, none⟩ (.complex .f64 (fb s.nw) (fb (s.nf + 1))) .plain := fun w => run_store Try.prog w _ _ _ rfl
        clear hr2 hf2 hadd
        go_wp2_with (refine wpList_cadd rfl (.tmp 35) (.const (.complex .f64 0 4607182418800017408)) rfl rfl rfl HA.out ?_)
        go_end0
        refine ⟨rfl, (((HF.out.trans HFr.out (fun _ h => .inl h)).trans HF2.out (fun _ h => .inl h)).setCell (.inl HRr.out.dg) _), ?_⟩
        have e : s.flush = { s.burnt.land (List.replicate s.loose.length true) with nf := s.nf + 1 } := by simp [Sim.flush, HG.out]
        have hokf := HOk.out.land (List.replicate s.loose.length true)
        rw [e]
        have h7 := HR2.out.setTraf s.nw (s.nf + 1)
        rw [HK.out, HEF.out, HEL.out, HEf.out] at h7
        refine ⟨{ y with A := none, c := 0 }, by rw [HY.out], ?_, ⟨hokf.n, hokf.f, hokf.l, hokf.w, hokf.u⟩, HFu.out⟩
        show Raw D _ _ (kept s.firm s.loose (List.replicate s.loose.length true) s.loose.length) [] (newL (kept s.firm s.loose (List.replicate s.loose.length true) s.loose.length).length []) s.burnt.fuse.isSome s.nw (s.nf + 1)
        rw [kept_length]
        exact h7
end Go.Proofs.Ytpaahbohbnfibaa
