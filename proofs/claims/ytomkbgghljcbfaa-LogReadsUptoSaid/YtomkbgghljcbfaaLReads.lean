/-
  The walk of LogReads: it answers true of any sectors and choices.
-/
import Derived.Test.YtomkbgghljcbfaaGRefRd
import Derived.Test.YtomkbgghljcbfaaWhole
set_option linter.unusedVariables false
namespace Go.Proofs.Ytomkbgghljcbfaa
open Go.RowKit Go.Rst Go.Pg Go.Crc

set_option maxRecDepth 100000 in
set_option maxHeartbeats 3000000 in
theorem reads_any (ep : Int) (v : Value) (ss : List (List UInt8)) (w : World) (hv : RP w v ss) (hl : ss.length ≤ 1000000) :
    Calls Try.prog 15 #[.int .i64 ep, v] w fun e w' => e = .returned (.bool true) ∧ Below w.heap.size w w' := by
  have HV := Lib.hid hv
  have K1 := Lib.hid (readP_any ep v ss w hv hl)
  have K2 := Lib.hid (fun W (h : RP W v ss) => refRead_any ep v ss W h hl)
  obtain ⟨A, c, rfl, hlc, hc, _⟩ := hv
  unfold maxLen at hc
  generalize readS ep ss = R at *
  obtain ⟨fs, q⟩ := R
  go_enter Try.func15, Try.ntmps15
  go_wp2_with fail
  refine K1.out.mono ?_
  rintro e w1 ⟨v1, rfl, ho1, hb1⟩
  have ho1 : OF w1 w.heap.size v1 fs := ho1
  have HO1 := Lib.hid ho1
  have HB1 := Lib.hid hb1
  have H2 := Lib.hid (K2.out w1 (rp_below HV.out hb1 (Nat.le_refl _)))
  obtain ⟨A1, c1, rfl, hc163, hlc1⟩ := ho1.shape
  clear ho1 hb1 K1 K2
  go_wp2_with fail
  refine H2.out.mono ?_
  rintro e w2 ⟨v2, rfl, ho2, hb2⟩
  have ho2 : OF w2 w1.heap.size v2 fs := ho2
  have HF6 := Lib.hid (HO1.out.below hb2).rf
  have HG6 := Lib.hid ho2.rf
  have HB2 := Lib.hid (HB1.out.trans (hb2.mono HB1.out.size))
  obtain ⟨A2, c2, rfl, hc263, hlc2⟩ := ho2.shape
  clear ho2 hb2 H2 HO1
  have hn1 : ((q : Int) != (q : Int)) = false := by simp
  have hn2 : ((fs.length : Int) != (fs.length : Int)) = false := by simp
  go_wp2
  go_loopw [9] (fun i wr => ∃ k : Nat, k ≤ fs.length ∧ i = .int .i64 k ∧ ∃ m, wr = w2.drewN m) (fun i _ => fs.length - (intOf i).toNat)
  case atStart => exact ⟨0, Nat.zero_le _, rfl, 0, rfl⟩
  case round =>
    obtain ⟨k, hk, rfl, m, rfl⟩ := hrel
    by_cases hlt : k < fs.length
    · obtain ⟨bf, of_, uf, rfl, hbf, huf, hrf⟩ := rf_at HF6.out hlt
      obtain ⟨bg, og, ug2, rfl, hbg, hug, hrg⟩ := rf_at HG6.out hlt
      generalize fs[k] = cs at *
      have HRF := Lib.hid hrf
      have HRG := Lib.hid hrg
      have q1 : (0 : Int) ≤ (k : Int) := by omega
      have q2 : (k : Int) < fs.length := by omega
      clear hrf hrg
      go_wp2
      go_quiet ((go_at_call 20; exact quiet_of2 (sameChgs_any _ _ cs _ (rc_below HRF.out (bel_drewN _ _) (Nat.le_refl _)) (rc_below HRG.out (bel_drewN _ _) (Nat.le_refl _)))))
      go_wp2
      go_roundw
      case rel => exact ⟨k + 1, by omega, by go_num, _, rfl⟩
      case measure => simp [intOf]; omega
    · go_wp2
      go_ret
      exact ⟨rfl, below_drewN HB2.out m⟩
def sumP (ps : List (List UInt8)) : Nat := (ps.map List.length).sum
theorem sumP_take {ps : List (List UInt8)} {k : Nat} (h : k < ps.length) : sumP (ps.take (k + 1)) = sumP (ps.take k) + ps[k].length := by
  unfold sumP
  rw [List.take_succ_eq_append_getElem h]
  simp only [List.map_append, List.sum_append, List.map_cons, List.map_nil, List.sum_cons, List.sum_nil, Nat.add_zero]
theorem sumP_le (ps : List (List UInt8)) (k : Nat) : sumP (ps.take k) ≤ sumP ps := by
  conv => rhs; rw [← List.take_append_drop k ps]
  unfold sumP
  rw [List.map_append, List.sum_append]
  omega
theorem framesL_64 (ep : Nat) (c : List UInt8) : ∀ k, ∀ s ∈ framesL ep c k, s.length = 64
  | 0, s, h => by simp [framesL] at h
  | k + 1, s, h => by
    rw [framesL_succ] at h
    rcases List.mem_append.1 h with h | h
    · exact framesL_64 ep c k s h
    · by_cases hp : (partsL (ep : Int) (k : Int) (gcs c k)).2 = true
      · exact parts_64 hp h
      · exfalso
        have : (partsL (ep : Int) (k : Int) (gcs c k)).1 = [] := by
          unfold partsL at hp ⊢
          split
          · rfl
          · split
            · rfl
            · rename_i h1 h2
              rw [if_neg h1, if_neg h2] at hp
              exact (hp rfl).elim
        rw [this] at h
        cases h
theorem own_frozen {w : World} {base n c g : Nat} {e : TypeId} {size : Nat} {xs : List Value} (h : w.ownsRow base e size (.slice (some ⟨g, 0, none⟩) n c) n xs) (i : Nat) : w.frozen? ⟨g, i, none⟩ = false := by
  rcases h.2 with ⟨he, _⟩ | ⟨g2, cap, cur2, he, hb, hg2, _⟩
  · cases he
  · injection he with he _ _
    injection he with he
    injection he with e1 _ _
    subst e1
    exact Blk.frozen (t := e) (cs := cur2) hg2 i
theorem bvs_set (l : List UInt8) (j : Nat) (d : UInt8) : (bvs l).set j (bv d) = bvs (l.set j d) := by unfold bvs; rw [List.map_set]

set_option maxRecDepth 100000 in
set_option maxHeartbeats 6000000 in
theorem lreads_walk (ep : Int) (vs : Value) (ss : List (List UInt8)) (vc : Value) (c : List UInt8) (vd : Value) (d : List UInt8) (at_ V : Nat) (w : World) (hs : RP w vs ss) (hst : ss.length + sumP ss ≤ 4000000)
    (hc : RB w vc c) (hl1 : c.length ≤ 140737488351232) (hd : RB w vd d) (hl2 : d.length ≤ 140737488351232) (hat : at_ ≤ 65535) (hV : V ≤ 255) :
    Calls Try.prog 4 #[.int .i64 ep, vs, vc, vd, .int .u16 at_, .int .u8 V] w fun e w' => e = .returned (.bool true) ∧ Below w.heap.size w w' := by
  have HS := Lib.hid hs
  have HC := Lib.hid hc
  have HD := Lib.hid hd
  obtain ⟨As, cs_, rfl, hls, hcs, _⟩ := hs
  have K1 := Lib.hid (fun W (h : RB W vc c) => frames_any vc c 3 W h hl1)
  have K2 := Lib.hid (fun W (h : RB W vd d) => frames_any vd d 2 W h hl2)
  have hX := framesL_few 3 c (nfr c)
  have hY := framesL_few 2 d (nfr d)
  have hn1 := nfr_le c
  have hn2 := nfr_le d
  have hx64 := framesL_64 3 c (nfr c)
  have hy64 := framesL_64 2 d (nfr d)
  generalize framesL 3 c (nfr c) = X at *
  generalize framesL 2 d (nfr d) = Y at *
  obtain ⟨Ac, cc, rfl, hlc, hcc, _⟩ := hc
  obtain ⟨Ad, cd, rfl, hld, hcd, _⟩ := hd
  unfold maxLen at hcc hcd hcs
  have hXl : X.length ≤ 1000 := by omega
  have hYl : Y.length ≤ 1000 := by omega
  have HX64 := Lib.hid hx64
  have HY64 := Lib.hid hy64
  clear hX hY hn1 hn2 hx64 hy64
  have hsl : (ss.length : Int) ≤ cs_ := by omega
  have hz0 : sumP (ss.take 0) = 0 := rfl
  have HZ0 := Lib.hid hz0
  clear hz0
  go_enter Try.func4, Try.ntmps4
  go_wp2
  go_loopw [13, 14] (fun n i wr => ∃ k S : Nat, k ≤ ss.length ∧ S = sumP (ss.take k) ∧ i = .int .i64 k ∧ n = .int .i64 ((ss.length : Int) + (S : Int)) ∧ wr = w) (fun _ i _ => ss.length - (intOf i).toNat)
  case atStart => exact ⟨0, 0, Nat.zero_le _, HZ0.out.symm, rfl, by simp, rfl⟩
  case round =>
    obtain ⟨k, S, hk, hS, rfl, rfl, hwr⟩ := hrel
    have hwr2 := hwr.symm
    subst hwr2
    clear hwr
    have hSl := sumP_le ss k
    rw [← hS] at hSl
    by_cases hlt : k < ss.length
    · obtain ⟨b1, o1, u1, rfl, hb1, hx1, hr1⟩ := rp_at HS.out hlt
      have hs1 := sumP_take hlt
      have hsle := sumP_le ss (k + 1)
      rw [hs1, ← hS] at hsle
      rw [← hS] at hs1
      obtain ⟨A2, c2, rfl⟩ := rb_shape hr1
      generalize ss[k].length = p at *
      have HS1 := Lib.hid hs1
      have b1' : (0 : Int) ≤ (k : Int) := by omega
      have b2' : (k : Int) < (ss.length : Int) := by omega
      have w1 : IntKind.i64.wrap ((ss.length : Int) + (S : Int) + (p : Int)) = (ss.length : Int) + (S : Int) + (p : Int) := by rw [IntKind.wrap_i64]; omega
      clear hs1 hr1 hS
      go_wp2
      clear w1
      go_roundw
      case rel => exact ⟨k + 1, S + p, by omega, HS1.out.symm, by go_num, by go_num, by first | rfl | trivial⟩
      case measure => simp [intOf]; omega
    · clear hS
      by_cases hbig : 1500 < ss.length + S
      · have hb : (1500 : Int) < (ss.length : Int) + (S : Int) := by omega
        go_wp2_with fail
        refine (known_any _).mono ?_
        rintro e w1 ⟨rfl, hb1⟩
        have HB1 := Lib.hid hb1
        clear hb1
        go_wp2
        go_ret
        exact ⟨rfl, HB1.out⟩
      · have hb : ¬ (1500 : Int) < (ss.length : Int) + (S : Int) := by omega
        have hss : ss.length ≤ 1500 := by omega
        go_wp2_with fail
        refine (known_any _).mono ?_
        rintro e w1 ⟨rfl, hb1⟩
        have HB1 := Lib.hid hb1
        have H2 := Lib.hid (K1.out w1 (HC.out.below hb1))
        clear hb1 K1 HC
        go_wp2_with fail
        refine H2.out.mono ?_
        rintro e w2 ⟨v2, rfl, ho2, hb2⟩
        have ho2 : OP 5 23 w2 w1.heap.size v2 X := ho2
        have HO2 := Lib.hid (ho2.base_ HB1.out.size)
        have HB2 := Lib.hid (HB1.out.trans (hb2.mono HB1.out.size))
        have H3 := Lib.hid (K2.out w2 (HD.out.below HB2.out))
        obtain ⟨A2, c2, rfl, hc263, hlc2⟩ := ho2.shape
        clear ho2 hb2 H2 K2 HD
        go_wp2_with fail
        refine H3.out.mono ?_
        rintro e w3 ⟨v3, rfl, ho3, hb3⟩
        have ho3 : OP 5 23 w3 w2.heap.size v3 Y := ho3
        have HB3 := Lib.hid (HB2.out.trans (hb3.mono HB2.out.size))
        have hop5 := HO2.out.below hb3
        have hs5 := ho3.base_ (base' := w.heap.size) HB2.out.size
        obtain ⟨A5, c5, rfl, hc5, hl5⟩ := ho3.shape
        obtain ⟨us, hus, hus2, hus3⟩ := hop5
        obtain ⟨ts, hts, hts2, hts3⟩ := hs5
        have hul : us.length = X.length := by rw [← hus, List.length_map]
        have htl : ts.length = Y.length := by rw [← hts, List.length_map]
        have HUS := Lib.hid hus
        have HTS := Lib.hid hts
        have HU2 := Lib.hid hus2
        have HU3 := Lib.hid hus3
        have HT3 := Lib.hid hts3
        have HUL := Lib.hid hul
        have HTL := Lib.hid htl
        have HSRC := Lib.hid (OP.src hts2 Try.underlying29 (fun x hx => fb_one (hts3 x hx)))
        clear hus hts hus2 hts2 hus3 hts3 hul htl ho3 hb3 H3 HO2
        go_wp2_with (at_builtin; refine wpList_own rfl (.tmp 45) (.tmp 46) 29 29 rfl w.heap.size 23 (.slice none 0 0) 1 24 Try.underlying29 info23 rfl rfl HU2.out rfl HSRC.out HB3.out (Nat.le_refl _) ?_ ?_ ?_ ?_)
        · have := HUL.out; have := HTL.out; unfold maxLen; omega
        · have := HUL.out; have := HTL.out; omega
        · exact HB3.out.size
        intro v6 w6 ho6 hb6 hg6
        have hop6 := OP.join (e := 5) (eP := 23) (by decide) HU2.out HU3.out HT3.out ho6 hg6
        rw [HUS.out, HTS.out] at hop6
        have h64 : ∀ s ∈ X ++ Y, s.length = 64 := fun s hs => by
          rcases List.mem_append.1 hs with hs | hs
          · exact HX64.out s hs
          · exact HY64.out s hs
        have hnl : (X ++ Y).length ≤ 2000 := by rw [List.length_append]; omega
        generalize X ++ Y = Z at *
        obtain ⟨A6, c6, rfl, hc663, hlc6⟩ := hop6.shape
        obtain ⟨N, hN⟩ : ∃ N, N = Z.length := ⟨_, rfl⟩
        rw [← hN] at hop6 hnl hlc6
        have HOP6 := Lib.hid hop6
        have HB6 := Lib.hid hb6
        have H64 := Lib.hid h64
        have HN := Lib.hid hN
        rw [← hN]
        have hc6' : (N : Int) ≤ c6 := by omega
        clear ho6 hb6 hg6 hop6 h64 hN hlt hk HU2 HU3 HT3 HSRC HUS HTS HUL HTL HX64 HY64
        obtain ⟨m2, hm2⟩ : ∃ m, m = V % 2 := ⟨_, rfl⟩
        have hm2a : (V : Int) % 2 = (m2 : Int) := by omega
        have hm2b : (V : Int).tmod 2 = (m2 : Int) := by rw [Int.tmod_eq_emod_of_nonneg (by omega)]; exact hm2a
        have hm2c : m2 ≤ 1 := by omega
        clear hm2
        go_wp2
        go_loopw [17, 18] (fun i _ wr => ∃ (k : Nat) (ps : List (List UInt8)), k ≤ N ∧ i = .int .i64 k ∧ ps.length = N ∧ (∀ s ∈ ps, s.length = 64) ∧ OP 5 23 wr w.heap.size (.slice A6 N c6) ps ∧ Below w.heap.size w wr) (fun i _ _ => N - (intOf i).toNat)
        case atStart => exact ⟨0, Z, Nat.zero_le _, rfl, HN.out.symm, H64.out, HOP6.out, HB6.out⟩
        case round =>
          clear HOP6 HB6 H64 HN
          obtain ⟨k, ps, hk, rfl, hpl, hp64, hop, hbel⟩ := hrel
          have HOP := Lib.hid hop
          have HB := Lib.hid hbel
          have HPL := Lib.hid hpl
          have HP64 := Lib.hid hp64
          have hsz := hbel.size
          clear hop hbel hpl hp64
          by_cases hgo : k < N ∧ m2 = 0
          · obtain ⟨hkn, hm0⟩ := hgo
            have hkn' : (k : Int) < N := by omega
            have hm0' : ((m2 : Int) == 0) = true := by rw [beq_iff_eq]; omega
            have hnz : ((N : Int) == 0) = false := by rw [beq_eq_false_iff_ne]; omega
            obtain ⟨I, hI⟩ : ∃ I, I = at_ % N := ⟨_, rfl⟩
            have hIm : (at_ : Int) % (N : Int) = I := by rw [hI, Int.natCast_emod]
            have hIt : (at_ : Int).tmod (N : Int) = I := by rw [Int.tmod_eq_emod_of_nonneg (by omega)]; exact hIm
            clear hI hm0
            by_cases hki : k = I
            · have hki' : ((k : Int) == (I : Int)) = true := by rw [beq_iff_eq]; omega
              clear hki
              obtain ⟨g, cg, u, hvg, hgb, hgl, hcell, hfb⟩ := op_at HOP.out (j := k) (by rw [HPL.out]; exact hkn)
              injection hvg with e1 e2 e3
              subst e1
              subst e3
              obtain ⟨s, hs⟩ : ∃ s, s = ps[k]'(by rw [HPL.out]; exact hkn) := ⟨_, rfl⟩
              rw [← hs] at hfb
              have hs64 : s.length = 64 := HP64.out s (by rw [hs]; exact List.getElem_mem _)
              obtain ⟨Au, cu, rfl⟩ := hfb.shape
              have hrb := hfb.rb
              rw [hs64] at hrb hcell
              have hsrc := hrb.src (P := Try.prog) Try.underlying23
              rw [hs64] at hsrc
              have HSRC := Lib.hid hsrc
              clear hs hfb hrb hsrc e2
              go_wp2_with (at_builtin; refine wpList_own rfl (.tmp 66) (.tmp 70) 23 23 rfl wr.heap.size 5 (.int .u8 0) 1 1 Try.underlying23 info5 rfl rfl (World.ownsRow_nil _ _ _ _) rfl HSRC.out (Below.refl wr.heap.size _) (Nat.le_refl _) ?_ ?_ ?_ ?_)
              · unfold maxLen; omega
              · omega
              · exact Nat.le_refl _
              intro v5 w5 ho5 hb5 _
              have ho5 : w5.ownsRow wr.heap.size 5 1 v5 64 (bvs s) := ho5
              obtain ⟨g5, c5, rfl⟩ := ownsRow_succ (k := 63) ho5
              have ho5 : w5.ownsRow wr.heap.size 5 1 (.slice (some ⟨g5, 0, none⟩) 64 c5) 64 (bvs s) := ho5
              obtain ⟨J, hJ⟩ : ∃ J, J = at_ / 256 % 64 := ⟨_, rfl⟩
              have hJl : J < 64 := by omega
              have hJ1 : (at_ : Int) / 256 % 64 = J := by omega
              have hJ2 : ((at_ : Int).tdiv 256).tmod 64 = J := by rw [Int.tdiv_eq_ediv_of_nonneg (by omega), Int.tmod_eq_emod_of_nonneg (by omega)]; exact hJ1
              have hJ3 : (J : Int) < 64 := by omega
              have hg5 : wr.heap.size ≤ g5 := by
                rcases ho5.2 with ⟨he, _⟩ | ⟨g2, cap, cur2, he, hb, _⟩
                · cases he
                · injection he with he _ _
                  injection he with he
                  injection he with e1 _ _
                  subst e1
                  exact hb
              have hfz := own_frozen ho5 J
              obtain ⟨xo, hcj⟩ : ∃ x : UInt8, w5.cell? ⟨g5, J, none⟩ = some (bv x) := by
                have h := ho5.cells (g := g5) rfl J _ (bvs_get (l := s) (j := J) (by omega))
                rw [Addr.add_lit, Nat.zero_add] at h
                exact ⟨_, h⟩
              unfold bv at hcj
              have HO5 := Lib.hid ho5
              have HBW := Lib.hid hb5
              clear ho5 hb5 hJ
              obtain ⟨D, hD⟩ : ∃ D : UInt8, (D.toNat : Int) = V := ⟨UInt8.ofNat V, by rw [UInt8.toNat_ofNat']; omega⟩
              have ho7 := own_set HO5.out J (bv D)
              rw [bvs_set] at ho7
              have hb7 := HBW.out.setCell (p := ⟨g5, J, none⟩) hg5 (bv D)
              unfold bv at ho7 hb7
              rw [hD] at ho7 hb7
              have HO7 := Lib.hid ho7
              have HB7 := Lib.hid hb7
              have hop7 := HOP.out.below hb7
              have hfr8 := op_frozen hop7 k
              have hcell8 := (hb7.cell (p := ⟨g, k, none⟩) hgl).trans hcell
              have hfb7 := FB.own (l := s.set J D) (by rw [List.length_set, hs64]; exact ho7)
              have h64s : (s.set J D).length = 64 := by rw [List.length_set]; exact hs64
              have hop8 := op_set hop7 (i := k) (by rw [HPL.out]; exact hkn) (hfb7.base_ hsz)
              try rw [h64s] at hop8
              have HOP8 := Lib.hid hop8
              have hb8 := (HB.out.trans (hb7.mono hsz)).setCell (p := ⟨g, k, none⟩) hgb (.slice (some ⟨g5, 0, none⟩) 64 c5)
              have HB8 := Lib.hid hb8
              have H64s := Lib.hid h64s
              clear ho7 hb7 hop7 hop8 hb8 hfb7 h64s
              go_wp2
              go_roundw
              case rel => exact ⟨k + 1, ps.set k (s.set J D), by omega, by go_num, by rw [List.length_set]; exact HPL.out, fun x hx => (List.mem_or_eq_of_mem_set hx).elim (HP64.out x) (fun h => by rw [h]; exact H64s.out), HOP8.out, HB8.out⟩
              case measure => simp [intOf]; omega
            · have hki' : ((k : Int) == (I : Int)) = false := by rw [beq_eq_false_iff_ne]; omega
              clear hki
              go_wp2
              go_roundw
              case rel => exact ⟨k + 1, ps, by omega, by go_num, HPL.out, HP64.out, HOP.out, HB.out⟩
              case measure => simp [intOf]; omega
          · rcases (show (¬ k < N) ∨ (k < N ∧ ¬ m2 = 0) by omega) with hno | ⟨hkn, hno⟩
            · have hkn' : ¬ (k : Int) < N := by omega
              have HRP := Lib.hid HOP.out.rp
              rw [← HPL.out] at HRP
              have hps : ps.length ≤ 2000 := by rw [HPL.out]; exact hnl
              have R1 := Lib.hid (reads_any ep _ ss wr (rp_below HS.out HB.out (Nat.le_refl _)) (by omega))
              have R3 := Lib.hid (fun (q : Int) W (hb : Below wr.heap.size wr W) => reads_any q _ ps W (rp_below HRP.out hb (Nat.le_refl _)) (by omega))
              obtain ⟨M, hM⟩ : ∃ M, M = min N (at_ % 3) := ⟨_, rfl⟩
              have hM0 : (at_ : Int) % 3 = ((at_ % 3 : Nat) : Int) := by omega
              have hM0' : (at_ : Int).tmod 3 = ((at_ % 3 : Nat) : Int) := by rw [Int.tmod_eq_emod_of_nonneg (by omega)]; exact hM0
              obtain ⟨T3, hT3⟩ : ∃ T3, T3 = at_ % 3 := ⟨_, rfl⟩
              rw [← hT3] at hM hM0 hM0'
              have hM1 : min (N : Int) (T3 : Int) = (M : Int) := by omega
              have hMN : M ≤ N := by omega
              have hMN' : (M : Int) ≤ N := by omega
              have hMN0 : (0 : Int) ≤ M := by omega
              have R4 := Lib.hid (fun W (hb : Below wr.heap.size wr W) => reads_any 3 _ (ps.drop M) W (rp_cut (rp_below HRP.out hb (Nat.le_refl _)) (K := M) (by rw [HPL.out]; exact hMN)) (by rw [List.length_drop]; omega))
              rw [HPL.out] at R3 R4
              obtain ⟨A9, hA9⟩ : ∃ A9, (if c6 = M then A6 else Option.map (fun x => x.add M) A6) = A9 := ⟨_, rfl⟩
              rw [hA9] at R4
              clear hM hT3 HRP
              go_wp2_with fail
              refine R1.out.mono ?_
              rintro e w7 ⟨rfl, hb7⟩
              have E7 := Lib.hid hb7
              clear hb7
              go_wp2_with fail
              refine (R3.out 3 w7 E7.out).mono ?_
              rintro e w8 ⟨rfl, hb8⟩
              have E8 := Lib.hid (E7.out.trans (hb8.mono E7.out.size))
              clear hb8
              go_wp2_with fail
              refine (R3.out 2 w8 E8.out).mono ?_
              rintro e w9 ⟨rfl, hb9⟩
              have E9 := Lib.hid (E8.out.trans (hb9.mono E8.out.size))
              clear hb9
              go_wp2_with fail
              refine (R4.out w9 E9.out).mono ?_
              rintro e w10 ⟨rfl, hb10⟩
              have E10 := Lib.hid (HB.out.trans ((E9.out.trans (hb10.mono E9.out.size)).mono hsz))
              clear hb10
              go_wp2
              go_ret
              exact ⟨rfl, E10.out⟩
            · have hkn' : (k : Int) < N := by omega
              have hm0' : ((m2 : Int) == 0) = false := by rw [beq_eq_false_iff_ne]; omega
              have HRP := Lib.hid HOP.out.rp
              rw [← HPL.out] at HRP
              have hps : ps.length ≤ 2000 := by rw [HPL.out]; exact hnl
              have R1 := Lib.hid (reads_any ep _ ss wr (rp_below HS.out HB.out (Nat.le_refl _)) (by omega))
              have R3 := Lib.hid (fun (q : Int) W (hb : Below wr.heap.size wr W) => reads_any q _ ps W (rp_below HRP.out hb (Nat.le_refl _)) (by omega))
              obtain ⟨M, hM⟩ : ∃ M, M = min N (at_ % 3) := ⟨_, rfl⟩
              have hM0 : (at_ : Int) % 3 = ((at_ % 3 : Nat) : Int) := by omega
              have hM0' : (at_ : Int).tmod 3 = ((at_ % 3 : Nat) : Int) := by rw [Int.tmod_eq_emod_of_nonneg (by omega)]; exact hM0
              obtain ⟨T3, hT3⟩ : ∃ T3, T3 = at_ % 3 := ⟨_, rfl⟩
              rw [← hT3] at hM hM0 hM0'
              have hM1 : min (N : Int) (T3 : Int) = (M : Int) := by omega
              have hMN : M ≤ N := by omega
              have hMN' : (M : Int) ≤ N := by omega
              have hMN0 : (0 : Int) ≤ M := by omega
              have R4 := Lib.hid (fun W (hb : Below wr.heap.size wr W) => reads_any 3 _ (ps.drop M) W (rp_cut (rp_below HRP.out hb (Nat.le_refl _)) (K := M) (by rw [HPL.out]; exact hMN)) (by rw [List.length_drop]; omega))
              rw [HPL.out] at R3 R4
              obtain ⟨A9, hA9⟩ : ∃ A9, (if c6 = M then A6 else Option.map (fun x => x.add M) A6) = A9 := ⟨_, rfl⟩
              rw [hA9] at R4
              clear hM hT3 HRP
              go_wp2_with fail
              refine R1.out.mono ?_
              rintro e w7 ⟨rfl, hb7⟩
              have E7 := Lib.hid hb7
              clear hb7
              go_wp2_with fail
              refine (R3.out 3 w7 E7.out).mono ?_
              rintro e w8 ⟨rfl, hb8⟩
              have E8 := Lib.hid (E7.out.trans (hb8.mono E7.out.size))
              clear hb8
              go_wp2_with fail
              refine (R3.out 2 w8 E8.out).mono ?_
              rintro e w9 ⟨rfl, hb9⟩
              have E9 := Lib.hid (E8.out.trans (hb9.mono E8.out.size))
              clear hb9
              go_wp2_with fail
              refine (R4.out w9 E9.out).mono ?_
              rintro e w10 ⟨rfl, hb10⟩
              have E10 := Lib.hid (HB.out.trans ((E9.out.trans (hb10.mono E9.out.size)).mono hsz))
              clear hb10
              go_wp2
              go_ret
              exact ⟨rfl, E10.out⟩
end Go.Proofs.Ytomkbgghljcbfaa
