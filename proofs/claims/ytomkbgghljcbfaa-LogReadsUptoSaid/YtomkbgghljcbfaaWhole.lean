/-
  The walk of LogWhole: it answers true of any choices.
-/
import Derived.Test.YtomkbgghljcbfaaGKnown
import Derived.Test.YtomkbgghljcbfaaGFrs
import Derived.Test.YtomkbgghljcbfaaReadP
import Derived.Test.YtomkbgghljcbfaaGNum
namespace Go.Proofs.Ytomkbgghljcbfaa
open Go.RowKit Go.Rst Go.Pg Go.Crc
theorem framesL_secs (ep : Nat) (c : List UInt8) : ∀ K, framesL ep c K = secsF ep 0 ((List.range K).map (gcs c))
  | 0 => rfl
  | K + 1 => by
    rw [framesL_succ, framesL_secs ep c K, List.range_succ, List.map_append, List.map_cons, List.map_nil, secsF_snoc, List.length_map, List.length_range, Nat.zero_add]
theorem made_range {ep : Nat} (c : List UInt8) (he : ep ≤ 1073741824) : ∀ (n k : Nat), k + n ≤ 1000 → MadeF ep k ((List.range' k n).map (gcs c))
  | 0, k, _ => trivial
  | n + 1, k, h => by
    rw [List.range'_succ, List.map_cons]
    exact ⟨gcs_true c he (by omega), gcs_back c k, made_range c he n (k + 1) (by omega)⟩
theorem made_frames {ep : Nat} (c : List UInt8) (he : ep ≤ 1073741824) {K : Nat} (hK : K ≤ 1000) : MadeF ep 0 ((List.range K).map (gcs c)) := by
  rw [List.range_eq_range']
  exact made_range c he K 0 (by omega)
theorem make64 : ∀ w, (Instr.makeSlice 23 (.int .i64 64) (.int .i64 64)).run Try.prog w = .ok (.slice (some ⟨w.heap.size, 0, none⟩) 64 64) (w.alloc (.cells (bvs (List.replicate 64 0)).toArray 5)) := fun _ => by kernel_rfl
theorem fb_zero (w : World) {base : Nat} (h : base ≤ w.heap.size) : FB 5 (w.alloc (.cells (bvs (List.replicate 64 0)).toArray 5)) base (.slice (some ⟨w.heap.size, 0, none⟩) 64 64) (List.replicate 64 0) :=
  .inr ⟨w.heap.size, 64, _, _, rfl, h, heap_alloc_new w _, Nat.le_refl _, by unfold maxLen; omega, by simp [bvs]⟩
theorem nfr_le (c : List UInt8) : nfr c ≤ 5 := by unfold nfr; omega

theorem quiet_of2 {P : Program} {f : FuncId} {args : Array Value} {w : World} {m n : Nat} {v : Value}
    (h : Calls P f args (w.drewN (m + n)) fun e w' => e = .returned v ∧ ∃ k, w' = (w.drewN (m + n)).drewN k) : Calls P f args (w.drewN (m + n)) fun e w'' => e = .returned v ∧ ∃ k, w'' = w.drewN (m + k) :=
  h.mono fun _ _ ⟨he, k, hk⟩ => ⟨he, n + k, by rw [hk, World.drewN_drewN, Nat.add_assoc]⟩

set_option maxRecDepth 100000 in
set_option maxHeartbeats 3000000 in
theorem whole_walk (vc : Value) (c : List UInt8) (vd : Value) (d : List UInt8) (at_ : Nat) (old : Bool) (w : World) (hc : RB w vc c) (hl1 : c.length ≤ 140737488351232) (hd : RB w vd d) (hl2 : d.length ≤ 140737488351232) (hat : at_ ≤ 65535) :
    Calls Try.prog 7 #[vc, vd, .int .u16 at_, .bool old] w fun e w' => e = .returned (.bool true) ∧ Below w.heap.size w w' := by
  have HD := Lib.hid hd
  have K1 := Lib.hid (frames_any vc c 5 w hc hl1)
  have K2 := Lib.hid (fun W (h : RB W vd d) => frames_any vd d 4 W h hl2)
  have hmade := made_frames c (ep := 5) (by decide) (Nat.le_trans (nfr_le c) (by decide))
  have hread := readS_all hmade
  have hbad := fun (i : Nat) (b : List UInt8) (hi : i < (secsF 5 0 ((List.range (nfr c)).map (gcs c))).length) (hb : Bad 5 b) => readS_bad hb hmade hi
  have hlen : ((List.range (nfr c)).map (gcs c)).length = nfr c := by rw [List.length_map, List.length_range]
  have hfew := framesL_few 5 c (nfr c)
  have hfewY := framesL_few 4 d (nfr d)
  have hdn := nfr_le d
  rw [← framesL_secs] at hread hbad
  have hY : ∀ s ∈ framesL 4 d (nfr d), Bad 5 s := fun s hs => by
    rw [framesL_secs] at hs
    exact bad_secs (by decide) (by decide) (by decide) hs
  generalize (List.range (nfr c)).map (gcs c) = css at *
  generalize framesL 5 c (nfr c) = X at *
  generalize framesL 4 d (nfr d) = Y at *
  obtain ⟨Ac, cc, rfl, hlc, hcc, _⟩ := hc
  obtain ⟨Ad, cd, rfl, hld, hcd, _⟩ := hd
  unfold maxLen at hcc hcd
  obtain ⟨L, hL⟩ : ∃ L, L = c.length := ⟨_, rfl⟩
  obtain ⟨K, hK⟩ : ∃ K, K = nfr c := ⟨_, rfl⟩
  have hKe : K = (min L 40 + 7) / 8 := by rw [hK, hL]; rfl
  rw [← hK] at hlen hfew
  rw [← hL] at hl1 hlc K1 ⊢
  obtain ⟨M, hM⟩ : ∃ M, M = min L 40 := ⟨_, rfl⟩
  rw [← hM] at hKe
  have hmin : min (L : Int) 40 = (M : Int) := by omega
  have hM40 : (M : Int) ≤ 40 := by omega
  have hq1 : ((M : Int) + 7) / 8 = K := by omega
  have hq2 : ((M : Int) + 7).tdiv 8 = K := by rw [Int.tdiv_eq_ediv_of_nonneg (by omega)]; exact hq1
  have hK5 : K ≤ 5 := by omega
  have hXl : X.length ≤ 1000 := by omega
  have hYl : Y.length ≤ 1000 := by omega
  have HLEN := Lib.hid hlen
  have K3 := Lib.hid (fun v W (h : RP W v X) => readP_any (5 : Nat) v X W h (by omega))
  rw [hread] at K3
  have K4 := Lib.hid (fun v W ss (h : RP W v ss) (hl : ss.length ≤ 1000) => readP_any (5 : Nat) v ss W h (by omega))
  have HBAD := Lib.hid hbad
  have HY := Lib.hid hY
  clear hmade hread hbad hlen hfew hfewY hdn hY hL hK hKe hM
  go_enter Try.func7, Try.ntmps7
  go_wp2_with fail
  refine K1.out.mono ?_
  rintro e w1 ⟨v1, rfl, ho1, hb1⟩
  have HO1 := Lib.hid ho1
  have HB1 := Lib.hid hb1
  have H3 := Lib.hid (K3.out v1 w1 ho1.rp)
  obtain ⟨A1, c1, rfl, hc163, hlc1⟩ := ho1.shape
  clear ho1 hb1 K1 K3
  go_wp2_with fail
  refine H3.out.mono ?_
  rintro e w2 ⟨v2, rfl, ho2, hb2⟩
  have ho2 : OF w2 w1.heap.size v2 css := ho2
  have HO2 := Lib.hid ho2
  have HO1' := Lib.hid (HO1.out.below hb2)
  have HB2 := Lib.hid (HB1.out.trans (hb2.mono HB1.out.size))
  have hsz1 := HB1.out.size
  obtain ⟨A2, c2, hv2, hc263, hlc2⟩ := ho2.shape
  rw [HLEN.out] at hv2 hlc2
  subst hv2
  clear ho2 hb2 H3
  by_cases hX0 : X.length = 0
  · have hX0' : X = [] := List.eq_nil_of_length_eq_zero hX0
    subst hX0'
    go_wp2_with fail
    refine (known_any _).mono ?_
    rintro e w5 ⟨rfl, hb5⟩
    have HB5 := Lib.hid (HB2.out.trans (hb5.mono HB2.out.size))
    clear hb5
    go_wp2
    go_ret
    exact ⟨rfl, HB5.out⟩
  · have hXp : (0 : Int) < X.length := by omega
    obtain ⟨I, hI⟩ : ∃ I, I = at_ % X.length := ⟨_, rfl⟩
    have hIl : I < X.length := by rw [hI]; exact Nat.mod_lt _ (by omega)
    have hIm : (at_ : Int) % (X.length : Int) = I := by rw [hI, Int.natCast_emod]
    have hIt : (at_ : Int).tmod (X.length : Int) = I := by rw [Int.tmod_eq_emod_of_nonneg (by omega)]; exact hIm
    have hnz : ((X.length : Int) == 0) = false := by rw [beq_eq_false_iff_ne]; omega
    have hI1 : (I : Int) < X.length := by omega
    have hI0 : (0 : Int) ≤ I := by omega
    clear hI
    obtain ⟨g, cg, ug, hvg, hgb, hgl, _, _⟩ := op_at HO1.out hIl
    injection hvg with e1 _ e3
    subst e1
    subst e3
    clear HO1
    have hmk := make64 w2
    have HFZ := Lib.hid (fb_zero w2 (base := w.heap.size) HB2.out.size)
    have HBZ := Lib.hid ((Below.refl w2.heap.size w2).alloc (Nat.le_refl _) (.cells (bvs (List.replicate 64 0)).toArray 5))
    obtain ⟨w3, hw3⟩ : ∃ w3, w3 = w2.alloc (.cells (bvs (List.replicate 64 0)).toArray 5) := ⟨_, rfl⟩
    rw [← hw3] at hmk HFZ HBZ
    clear hw3
    have H4 := Lib.hid (K2.out w3 ((HD.out.below HB2.out).below HBZ.out))
    clear K2 HD
    go_wp2_with fail
    refine H4.out.mono ?_
    rintro e w4 ⟨v4, rfl, ho4, hb4⟩
    have ho4 : OP 5 23 w4 w3.heap.size v4 Y := ho4
    have HBZ4 := Lib.hid (HBZ.out.trans (hb4.mono HBZ.out.size))
    have HX4 := Lib.hid (((HO1'.out.below HBZ4.out)))
    have HF4 := Lib.hid (HO2.out.below HBZ4.out)
    have HB4 := Lib.hid (HB2.out.trans (HBZ4.out.mono HB2.out.size))
    have HFZ4 := Lib.hid (HFZ.out.below hb4)
    have HY4 := Lib.hid (ho4.base_ (base' := w.heap.size) (Nat.le_trans HB2.out.size HBZ.out.size))
    obtain ⟨A4, c4, rfl, hc463, hlc4⟩ := ho4.shape
    clear ho4 hb4 H4 HO1' HO2 HBZ HFZ hmk
    by_cases hA : old = true ∧ I < Y.length
    · obtain ⟨hold, hY1⟩ := hA
      subst hold
      obtain ⟨gy, cy, uy, hvy, hyb, hyl, hyc, hyf⟩ := op_at HY4.out hY1
      injection hvy with e1 _ e3
      subst e1
      subst e3
      have hbad1 := HY.out _ (List.getElem_mem hY1)
      generalize Y[I] = yb at *
      obtain ⟨Ay, cy2, rfl⟩ := hyf.shape
      have HYF := Lib.hid hyf
      have hY2 : (I : Int) < Y.length := by omega
      clear hyf
      obtain ⟨j, q, hrd, hqi⟩ := HBAD.out I yb hIl hbad1
      have H6 := Lib.hid (K4.out _ _ _ (op_set HX4.out hIl HYF.out).rp (by rw [List.length_set]; omega))
      rw [hrd] at H6
      have hfrz := op_frozen HX4.out I
      obtain ⟨gz, cz, uz, hvz, _, _, hcz, hfz⟩ := op_at HX4.out hIl
      injection hvz with e1 _ e3
      subst e3
      injection e1 with e1
      injection e1 with e1 _ _
      subst e1
      obtain ⟨Az, cz2, rfl⟩ := hfz.shape
      clear hfz
      have HF5 := Lib.hid (HF4.out.set_far (p := ⟨g, I, none⟩) hgl (.slice Ay yb.length cy2))
      have HB5 := Lib.hid (HB4.out.setCell (p := ⟨g, I, none⟩) hgb (.slice Ay yb.length cy2))
      have hq1' : (q : Int) ≤ I := by omega
      have hjl : (css.take j).length ≤ K := by rw [List.length_take, HLEN.out]; omega
      have hjm : (css.take j).length ≤ j := by rw [List.length_take]; omega
      obtain ⟨gs, hgs⟩ : ∃ gs, gs = css.take j := ⟨_, rfl⟩
      rw [← hgs] at hjl hjm H6
      have HGS := Lib.hid hgs
      have hjl' : (gs.length : Int) ≤ K := by omega
      clear hgs hrd HX4
      go_wp2_with fail
      refine H6.out.mono ?_
      rintro e w6 ⟨v6, rfl, ho6, hb6⟩
      have ho6 : OF w6 _ v6 gs := ho6
      have HF6 := Lib.hid (HF5.out.below hb6).rf
      have HG6 := Lib.hid ho6.rf
      have HB6 := Lib.hid (HB5.out.trans (hb6.mono HB5.out.size))
      obtain ⟨A6, c6, rfl, hc663, hlc6⟩ := ho6.shape
      clear ho6 hb6 H6 HF5
      go_wp2
      go_loopw [17] (fun i wr => ∃ k : Nat, k ≤ gs.length ∧ i = .int .i64 k ∧ ∃ m, wr = w6.drewN m) (fun i _ => gs.length - (intOf i).toNat)
      case atStart => exact ⟨0, Nat.zero_le _, rfl, 0, rfl⟩
      case round =>
        obtain ⟨k, hk, rfl, m, rfl⟩ := hrel
        by_cases hlt : k < gs.length
        · have hkc : k < css.length := by rw [HLEN.out]; omega
          obtain ⟨bf, of_, uf, rfl, hbf, huf, hrf⟩ := rf_at HF6.out (k := k) hkc
          obtain ⟨bg, og, ug2, rfl, hbg, hug, hrg⟩ := rf_at HG6.out hlt
          have hsame : gs[k] = css[k] := by simp only [HGS.out, List.getElem_take]
          rw [hsame] at hrg
          generalize css[k] = cs at *
          have HRF := Lib.hid hrf
          have HRG := Lib.hid hrg
          have q1 : (0 : Int) ≤ (k : Int) := by omega
          have q2 : (k : Int) < gs.length := by omega
          have q3 : (k : Int) < K := by omega
          clear hsame hrf hrg
          go_wp2
          go_quiet ((go_at_call 20; exact quiet_of2 (sameChgs_any _ _ cs _ (rc_below HRF.out (bel_drewN _ _) (Nat.le_refl _)) (rc_below HRG.out (bel_drewN _ _) (Nat.le_refl _)))))
          go_wp2
          go_roundw
          case rel => exact ⟨k + 1, by omega, by go_num, _, rfl⟩
          case measure => simp [intOf]; omega
        · go_wp2_with fail
          refine (known_any _).mono ?_
          rintro e w7 ⟨rfl, hb7⟩
          have HB7 := Lib.hid ((below_drewN HB6.out m).trans (hb7.mono (below_drewN HB6.out m).size))
          clear hb7
          go_wp2
          go_ret
          exact ⟨rfl, HB7.out⟩
    · cases old with
      | false =>
        clear hA HY HY4
        obtain ⟨j, q, hrd, hqi⟩ := HBAD.out I (List.replicate 64 0) hIl (bad_zero 5)
        have H6 := Lib.hid (K4.out _ _ _ (op_set HX4.out hIl HFZ4.out).rp (by rw [List.length_set]; omega))
        rw [hrd] at H6
        have hfrz := op_frozen HX4.out I
        obtain ⟨gz, cz, uz, hvz, _, _, hcz, hfz⟩ := op_at HX4.out hIl
        injection hvz with e1 _ e3
        subst e3
        injection e1 with e1
        injection e1 with e1 _ _
        subst e1
        obtain ⟨Az, cz2, rfl⟩ := hfz.shape
        clear hfz
        have HF5 := Lib.hid (HF4.out.set_far (p := ⟨g, I, none⟩) hgl (.slice (some ⟨w2.heap.size, 0, none⟩) 64 64))
        have HB5 := Lib.hid (HB4.out.setCell (p := ⟨g, I, none⟩) hgb (.slice (some ⟨w2.heap.size, 0, none⟩) 64 64))
        have hq1' : (q : Int) ≤ I := by omega
        have hjl : (css.take j).length ≤ K := by rw [List.length_take, HLEN.out]; omega
        have hjm : (css.take j).length ≤ j := by rw [List.length_take]; omega
        obtain ⟨gs, hgs⟩ : ∃ gs, gs = css.take j := ⟨_, rfl⟩
        rw [← hgs] at hjl hjm H6
        have HGS := Lib.hid hgs
        have hjl' : (gs.length : Int) ≤ K := by omega
        clear hgs hrd HX4
        go_wp2_with fail
        refine H6.out.mono ?_
        rintro e w6 ⟨v6, rfl, ho6, hb6⟩
        have ho6 : OF w6 _ v6 gs := ho6
        have HF6 := Lib.hid (HF5.out.below hb6).rf
        have HG6 := Lib.hid ho6.rf
        have HB6 := Lib.hid (HB5.out.trans (hb6.mono HB5.out.size))
        obtain ⟨A6, c6, rfl, hc663, hlc6⟩ := ho6.shape
        clear ho6 hb6 H6 HF5
        go_wp2
        go_loopw [17] (fun i wr => ∃ k : Nat, k ≤ gs.length ∧ i = .int .i64 k ∧ ∃ m, wr = w6.drewN m) (fun i _ => gs.length - (intOf i).toNat)
        case atStart => exact ⟨0, Nat.zero_le _, rfl, 0, rfl⟩
        case round =>
          obtain ⟨k, hk, rfl, m, rfl⟩ := hrel
          by_cases hlt : k < gs.length
          · have hkc : k < css.length := by rw [HLEN.out]; omega
            obtain ⟨bf, of_, uf, rfl, hbf, huf, hrf⟩ := rf_at HF6.out (k := k) hkc
            obtain ⟨bg, og, ug2, rfl, hbg, hug, hrg⟩ := rf_at HG6.out hlt
            have hsame : gs[k] = css[k] := by simp only [HGS.out, List.getElem_take]
            rw [hsame] at hrg
            generalize css[k] = cs at *
            have HRF := Lib.hid hrf
            have HRG := Lib.hid hrg
            have q1 : (0 : Int) ≤ (k : Int) := by omega
            have q2 : (k : Int) < gs.length := by omega
            have q3 : (k : Int) < K := by omega
            clear hsame hrf hrg
            go_wp2
            go_quiet ((go_at_call 20; exact quiet_of2 (sameChgs_any _ _ cs _ (rc_below HRF.out (bel_drewN _ _) (Nat.le_refl _)) (rc_below HRG.out (bel_drewN _ _) (Nat.le_refl _)))))
            go_wp2
            go_roundw
            case rel => exact ⟨k + 1, by omega, by go_num, _, rfl⟩
            case measure => simp [intOf]; omega
          · go_wp2_with fail
            refine (known_any _).mono ?_
            rintro e w7 ⟨rfl, hb7⟩
            have HB7 := Lib.hid ((below_drewN HB6.out m).trans (hb7.mono (below_drewN HB6.out m).size))
            clear hb7
            go_wp2
            go_ret
            exact ⟨rfl, HB7.out⟩
      | true =>
        have hY1 : ¬ (I : Int) < Y.length := fun h => hA ⟨rfl, by omega⟩
        clear hA HY HY4
        obtain ⟨j, q, hrd, hqi⟩ := HBAD.out I (List.replicate 64 0) hIl (bad_zero 5)
        have H6 := Lib.hid (K4.out _ _ _ (op_set HX4.out hIl HFZ4.out).rp (by rw [List.length_set]; omega))
        rw [hrd] at H6
        have hfrz := op_frozen HX4.out I
        obtain ⟨gz, cz, uz, hvz, _, _, hcz, hfz⟩ := op_at HX4.out hIl
        injection hvz with e1 _ e3
        subst e3
        injection e1 with e1
        injection e1 with e1 _ _
        subst e1
        obtain ⟨Az, cz2, rfl⟩ := hfz.shape
        clear hfz
        have HF5 := Lib.hid (HF4.out.set_far (p := ⟨g, I, none⟩) hgl (.slice (some ⟨w2.heap.size, 0, none⟩) 64 64))
        have HB5 := Lib.hid (HB4.out.setCell (p := ⟨g, I, none⟩) hgb (.slice (some ⟨w2.heap.size, 0, none⟩) 64 64))
        have hq1' : (q : Int) ≤ I := by omega
        have hjl : (css.take j).length ≤ K := by rw [List.length_take, HLEN.out]; omega
        have hjm : (css.take j).length ≤ j := by rw [List.length_take]; omega
        obtain ⟨gs, hgs⟩ : ∃ gs, gs = css.take j := ⟨_, rfl⟩
        rw [← hgs] at hjl hjm H6
        have HGS := Lib.hid hgs
        have hjl' : (gs.length : Int) ≤ K := by omega
        clear hgs hrd HX4
        go_wp2_with fail
        refine H6.out.mono ?_
        rintro e w6 ⟨v6, rfl, ho6, hb6⟩
        have ho6 : OF w6 _ v6 gs := ho6
        have HF6 := Lib.hid (HF5.out.below hb6).rf
        have HG6 := Lib.hid ho6.rf
        have HB6 := Lib.hid (HB5.out.trans (hb6.mono HB5.out.size))
        obtain ⟨A6, c6, rfl, hc663, hlc6⟩ := ho6.shape
        clear ho6 hb6 H6 HF5
        go_wp2
        go_loopw [17] (fun i wr => ∃ k : Nat, k ≤ gs.length ∧ i = .int .i64 k ∧ ∃ m, wr = w6.drewN m) (fun i _ => gs.length - (intOf i).toNat)
        case atStart => exact ⟨0, Nat.zero_le _, rfl, 0, rfl⟩
        case round =>
          obtain ⟨k, hk, rfl, m, rfl⟩ := hrel
          by_cases hlt : k < gs.length
          · have hkc : k < css.length := by rw [HLEN.out]; omega
            obtain ⟨bf, of_, uf, rfl, hbf, huf, hrf⟩ := rf_at HF6.out (k := k) hkc
            obtain ⟨bg, og, ug2, rfl, hbg, hug, hrg⟩ := rf_at HG6.out hlt
            have hsame : gs[k] = css[k] := by simp only [HGS.out, List.getElem_take]
            rw [hsame] at hrg
            generalize css[k] = cs at *
            have HRF := Lib.hid hrf
            have HRG := Lib.hid hrg
            have q1 : (0 : Int) ≤ (k : Int) := by omega
            have q2 : (k : Int) < gs.length := by omega
            have q3 : (k : Int) < K := by omega
            clear hsame hrf hrg
            go_wp2
            go_quiet ((go_at_call 20; exact quiet_of2 (sameChgs_any _ _ cs _ (rc_below HRF.out (bel_drewN _ _) (Nat.le_refl _)) (rc_below HRG.out (bel_drewN _ _) (Nat.le_refl _)))))
            go_wp2
            go_roundw
            case rel => exact ⟨k + 1, by omega, by go_num, _, rfl⟩
            case measure => simp [intOf]; omega
          · go_wp2_with fail
            refine (known_any _).mono ?_
            rintro e w7 ⟨rfl, hb7⟩
            have HB7 := Lib.hid ((below_drewN HB6.out m).trans (hb7.mono (below_drewN HB6.out m).size))
            clear hb7
            go_wp2
            go_ret
            exact ⟨rfl, HB7.out⟩
end Go.Proofs.Ytomkbgghljcbfaa
