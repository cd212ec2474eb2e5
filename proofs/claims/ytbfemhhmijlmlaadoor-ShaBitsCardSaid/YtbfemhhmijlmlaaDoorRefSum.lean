/-
  The contract of the reference's Sum: it is SHA-256, as chapter 3 tells it, for every slice of at most 900000 bytes.
-/
import Derived.Test.YtbfemhhmijlmlaaDoorRefPad
import Derived.Test.YtbfemhhmijlmlaaDoorSum
namespace Go.Proofs.YtbfemhhmijlmlaaDoor
open Go.RowKit Go.Rst Go.Sha

theorem refBegin_at (k : Nat) (w : World) : Calls Tryd.prog 12 #[.int .i64 (k : Int)] w fun e w' => e = .returned (.int .u32 ((hbs.getD k 0).toNat : Int)) ∧ Below w.heap.size w w' := by
  have := refBegin_any (k : Int) w
  rw [tab_in] at this
  exact this
theorem hbs_take (k : Nat) (h : k < 8) : hbs.take (k + 1) = hbs.take k ++ [hbs.getD k 0] := by
  match k, h with
  | 0, _ => rfl
  | 1, _ => rfl
  | 2, _ => rfl
  | 3, _ => rfl
  | 4, _ => rfl
  | 5, _ => rfl
  | 6, _ => rfl
  | 7, _ => rfl

set_option maxRecDepth 100000 in
set_option maxHeartbeats 2000000 in
theorem refSum_any (v : Value) (l : List UInt8) (w : World) (hv : RB w v l) (hbig : l.length ≤ 900000) :
    Calls Tryd.prog 8 #[v] w fun e w' => e = .returned (.agg (bva (sum l))) ∧ Below w.heap.size w w' := by
  obtain ⟨Z, hZ⟩ : ∃ Z, Z = Array.replicate 32 (Value.int .u8 0) := ⟨_, rfl⟩
  have z24 := zero24
  rw [← hZ] at z24
  rw [← fillB_nil] at hZ
  have HZ := Lib.hid hZ
  have HV := Lib.hid hv
  obtain ⟨A, c, rfl, _⟩ := hv
  obtain ⟨R, hR⟩ : ∃ R, R = bva (sum l) := ⟨_, rfl⟩
  rw [← hR]
  have HRes := Lib.hid hR
  obtain ⟨L, hL⟩ : ∃ L, L = l.length := ⟨_, rfl⟩
  rw [← hL] at hbig ⊢
  have HLn := Lib.hid hL
  clear hZ hR hL
  go_enter Tryd.func8, Tryd.ntmps8
  go_wp2
  obtain ⟨H, hH⟩ : ∃ H, H = w.heap.size := ⟨_, rfl⟩
  rw [← hH]
  obtain ⟨W0, hW0⟩ : ∃ W0, W0 = w.alloc (Obj.cells Z 24) := ⟨_, rfl⟩
  rw [← hW0]
  have hB0 : Below w.heap.size w W0 := by rw [hW0]; exact (Below.refl _ _).alloc (Nat.le_refl _) _
  have hblk : Blk W0 H 24 (fillB []) := by rw [hW0, hH, HZ.out]; exact heap_alloc_new w _
  have hHW : H < W0.heap.size := hblk.lt
  have HB0 := Lib.hid hB0
  have HBK := Lib.hid hblk
  have HHW := Lib.hid hHW
  have HH := Lib.hid hH
  clear hB0 hblk hHW hH hW0
  go_loopw [3, 4] (fun v3 i wr => ∃ k : Nat, k ≤ 8 ∧ i = .int .i64 k ∧ wr.ownsRow W0.heap.size 27 1 v3 k ((hbs.take k).map wv) ∧ Below W0.heap.size W0 wr) (fun _ i _ => 8 - (intOf i).toNat)
  case atStart => exact ⟨0, by omega, rfl, World.ownsRow_nil _ _ _ _, Below.refl _ _⟩
  case round =>
    obtain ⟨k, hk, rfl, hown, hbel⟩ := hrel
    by_cases hlt : k < 8
    · have hcall := refBegin_at k wr
      have htk := hbs_take k hlt
      generalize hbs.getD k 0 = x at *
      have HC := Lib.hid hcall
      have HTK := Lib.hid htk
      have HO := Lib.hid hown
      have HB := Lib.hid hbel
      clear hcall htk hown hbel
      go_wp2_with fail
      refine HC.out.mono ?_
      rintro e w1 ⟨rfl, hb1⟩
      have ho1 := own_below HO.out hb1
      have hb2 : Below W0.heap.size W0 w1 := HB.out.trans (hb1.mono HB.out.size)
      have HO1 := Lib.hid ho1
      have HB1 := Lib.hid hb2
      clear ho1 hb1 hb2
      go_wp2_with (at_builtin; refine wpList_own rfl (.tmp 13) (.tmp 16) 35 35 rfl W0.heap.size 27 (.int .u32 0) 1 4 Tryd.underlying35 info27 rfl rfl (HO1.out.alloc _) rfl (src_one w1 Tryd.underlying35 27 (.int .u32 (x.toNat : Int)) rfl) (HB1.out.alloc HB1.out.size _) (Nat.le_refl _) ?_ ?_ ?_ ?_)
      · unfold maxLen; omega
      · omega
      · have := HB1.out.size; simp; omega
      intro v5 w5 hown5 hbel5 _
      rw [← List.map_take] at hown5
      have hown5' := own_word rfl hown5
      rw [← HTK.out] at hown5'
      have HO5 := Lib.hid hown5'
      have HB5 := Lib.hid hbel5
      clear hown5 hown5' hbel5
      go_wp2
      go_roundw
      case rel => exact ⟨k + 1, by omega, by go_num, HO5.out, HB5.out⟩
      case measure => simp [intOf]; omega
    · obtain rfl : k = 8 := by omega
      have hr3 : RW wr _ S8.start.list := RW.own (l := S8.start.list) hown rfl
      have hrb : RB wr _ l := (HV.out.below HB0.out).below hbel
      have hcall := refPad_any _ l wr hrb (by rw [← HLn.out]; omega)
      rw [← HLn.out] at hcall
      have HC := Lib.hid hcall
      have HR3 := Lib.hid hr3
      have HB := Lib.hid hbel
      obtain ⟨Wo, hWo⟩ : ∃ Wo, Wo = wr := ⟨_, rfl⟩
      subst hWo
      clear hown hbel hr3 hrb hcall
      go_wp2_with fail
      refine HC.out.mono ?_
      rintro e w1 ⟨v5, rfl, hown5, hb1⟩
      obtain ⟨P, hP⟩ : ∃ P, P = padded l := ⟨_, rfl⟩
      have hPl : P.length = P.length / 64 * 64 := by rw [hP]; exact Go.Sha.ending_whole _ _
      have hP0 : 0 < P.length := by
        rw [hP]
        unfold padded
        rw [Go.Sha.ending_length]
        omega
      have hPb : P.length ≤ 1000000 := by
        rw [hP]
        unfold padded
        rw [Go.Sha.ending_length]
        have h9 := HLn.out
        unfold noughts
        omega
      have hsum : sum l = digest (blocks P (P.length / 64) S8.start) := by rw [hP]; rfl
      rw [← hP] at hown5
      have hr5 := RB.own hown5
      obtain ⟨K, hK⟩ : ∃ K, K = P.length / 64 := ⟨_, rfl⟩
      rw [← hK] at hPl hsum
      obtain ⟨A5, c5, rfl, hc5⟩ := own_shape hown5
      obtain ⟨b5, o5, rfl, hb5, _⟩ := RB.cells_ hr5 hP0
      have hm5 : c5 ≤ 9223372036854775807 := by
        obtain ⟨A', c', he, _, h9, _⟩ := hr5
        injection he with _ _ e3
        subst e3
        exact h9
      obtain ⟨n5, hn5⟩ : ∃ n5, n5 = P.length := ⟨_, rfl⟩
      rw [← hn5] at hc5 hPb hPl hP0 ⊢
      have hr3 := HR3.out.below hb1
      have hbw : Below W0.heap.size W0 w1 := HB.out.trans (hb1.mono HB.out.size)
      have HR5 := Lib.hid hr5
      have HR3' := Lib.hid hr3
      have HB1 := Lib.hid hbw
      have HSUM := Lib.hid hsum
      have HPL := Lib.hid hPl
      have HN5 := Lib.hid hn5
      clear hP hPl hsum hown5 hr5 hK hn5 hr3 hbw hb1 HR3 HB HC
      go_wp2
      go_loopw [3, 6] (fun v3 i wr => ∃ j : Nat, j * 64 ≤ n5 ∧ i = .int .i64 ((j * 64 : Nat) : Int) ∧ RW wr v3 (blocks P j S8.start).list ∧ Below w1.heap.size w1 wr) (fun _ i _ => n5 - (intOf i).toNat)
      case atStart => exact ⟨0, by omega, rfl, HR3'.out, Below.refl _ _⟩
      case round =>
        obtain ⟨j, hj, rfl, hr3, hbel⟩ := hrel
        by_cases hlt : j * 64 < n5
        · have hq64 : j * 64 + 64 ≤ n5 := by have h5 := HPL.out; omega
          have hcut := (HR5.out.below hbel).cut (q := j * 64) (n := 64) (by rw [← HN5.out]; exact hq64)
          have hlb : ((P.drop (j * 64)).take 64).length = 64 := by rw [List.length_take, List.length_drop, ← HN5.out]; omega
          have hnext : blocks P (j + 1) S8.start = mix (blocks P j S8.start) (wl ((P.drop (j * 64)).take 64) 64) := rfl
          have hqn : (j + 1) * 64 = j * 64 + 64 := by omega
          obtain ⟨q, hq⟩ : ∃ q, q = j * 64 := ⟨_, rfl⟩
          rw [← hq] at hlt hq64 hcut hlb hnext hqn ⊢
          generalize (P.drop q).take 64 = lb at *
          generalize blocks P j S8.start = sj at *
          have hcall := refWords_any _ lb wr hcut hlb
          have HC2 := Lib.hid hcall
          have HNX := Lib.hid hnext
          have HR3 := Lib.hid hr3
          have HB := Lib.hid hbel
          have i0 : (0 : Int) ≤ (q : Int) := by omega
          have i1 : (q : Int) ≤ (q : Int) + 64 := by omega
          have i2 : (q : Int) + 64 ≤ (n5 : Int) := by omega
          have i4 : (q : Int) + 64 ≤ (c5 : Int) := by omega
          have i8 : ¬ c5 = q := by omega
          have i9 : q + 64 - q = 64 := by omega
          clear hcall hnext hr3 hbel hcut hlb hq
          go_wp2_with fail
          refine HC2.out.mono ?_
          rintro e w2 ⟨vw, rfl, hownw, hbw2⟩
          have hrw : RW w2 vw (wl lb 64) := RW.own hownw (wl_length _ _).symm
          have hcall := refBlock_any sj (wl lb 64) (wl_length _ _) _ vw w2 (HR3.out.below hbw2) hrw
          have HC3 := Lib.hid hcall
          have HB2 := Lib.hid (HB.out.trans (hbw2.mono HB.out.size))
          clear hrw hcall hownw hbw2
          go_wp2_with fail
          refine HC3.out.mono ?_
          rintro e w3 ⟨vb, rfl, hownb, hbw3⟩
          have hrb : RW w3 vb (mix sj (wl lb 64)).list := RW.own hownb rfl
          rw [← HNX.out] at hrb
          have HRB := Lib.hid hrb
          have HB3 := Lib.hid (HB2.out.trans (hbw3.mono HB2.out.size))
          clear hrb hownb hbw3
          go_wp2
          go_roundw
          case rel => exact ⟨j + 1, by omega, by rw [hqn]; rfl, HRB.out, HB3.out⟩
          case measure => simp [intOf]; omega
        · obtain rfl : j = K := by have h5 := HPL.out; omega
          obtain ⟨Wp, hWp⟩ : ∃ Wp, Wp = wr := ⟨_, rfl⟩
          subst hWp
          have HR3 := Lib.hid hr3
          have HB := Lib.hid (HB1.out.trans (hbel.mono HB1.out.size))
          have hlt' : n5 ≤ j * 64 := by omega
          have hZ32 : Z.size = 32 := by rw [HZ.out]; exact fillB_size (by decide)
          have hZo : Z.all (·.oneCell') = true := by rw [HZ.out]; exact bva_oneCell _
          have HZI := Lib.hid (info24s hZ32)
          have HZO := Lib.hid hZo
          have HHB := Lib.hid (HBK.out.below HB.out HHW.out)
          clear hr3 hbel hZ32 hZo
          go_wp2_with (refine wpList_store_row rfl 24 (.tmp 7) (.tmp 34) rfl Wp.heap.size Z rfl rfl 24 Z (heap_alloc_new _ _) HZI.out rfl HZO.out ?_)
          obtain ⟨W7, hW7⟩ : ∃ W7, W7 = (Wp.alloc (Obj.cells Z 24)).setRow Wp.heap.size Z := ⟨_, rfl⟩
          rw [← hW7]
          obtain ⟨G, hG⟩ : ∃ G, G = Wp.heap.size := ⟨_, rfl⟩
          rw [← hG]
          have hb7 : Blk W7 G 24 (fillB (dig (blocks P j S8.start) 0)) := by
            rw [hW7, hG, show dig (blocks P j S8.start) 0 = [] from rfl, ← HZ.out]
            exact setRow_heap _ _ _ _ _ _ (heap_alloc_new _ _)
          have hB7 : Below G Wp W7 := by
            rw [hW7, hG]
            exact ((Below.refl _ _).alloc (Nat.le_refl _) _).trans (setRow_bel _ _ _ (Nat.le_refl _))
          obtain ⟨SF, hSF⟩ : ∃ SF, SF = blocks P j S8.start := ⟨_, rfl⟩
          have hr3 := HR3.out
          rw [← hSF] at hb7 hr3
          have hres : R = bva (digest SF) := by rw [HRes.out, HSUM.out, hSF]
          have hHG : H < G := by rw [hG]; exact HHB.out.lt
          have HB7 := Lib.hid hb7
          have HBW := Lib.hid hB7
          have HRES := Lib.hid hres
          have HHG := Lib.hid hHG
          have HG := Lib.hid hG
          obtain ⟨A3, c3, rfl⟩ := hr3.shape
          have hl8 : SF.list.length = 8 := rfl
          obtain ⟨_, hc3, hm3, g3, o3, rfl, hg3, hx3⟩ := hr3.cells_ (by rw [hl8]; decide)
          rw [hl8] at hc3 hx3 ⊢
          have HX3 := Lib.hid hx3
          rw [← hG] at hg3
          clear hW7 hb7 hB7 hSF hr3 hres hHG hx3 HR3 hl8 hG HZO HZI
          go_wp2
          go_loopw [8] (fun i wr => ∃ t : Nat, t ≤ 32 ∧ i = .int .i64 t ∧ Blk wr G 24 (fillB (dig SF t)) ∧ Below G Wp wr) (fun i _ => 32 - (intOf i).toNat)
          case atStart => exact ⟨0, by omega, rfl, HB7.out, HBW.out⟩
          case round =>
            obtain ⟨t, ht, rfl, hblk, hbel⟩ := hrel
            by_cases hlt : t < 32
            · have hc := (hbel.cell (p := ⟨g3, o3 + t / 4, none⟩) hg3).trans (HX3.out (t / 4) (by omega))
              have hd : digestAt SF t = UInt8.ofNat ((SF.list.getD (t / 4) 0).toNat / 2 ^ (24 - t % 4 * 8)) := rfl
              have hf := hblk.frozen t
              obtain ⟨x0, hxo⟩ := fillB_any (a := dig SF t) (j := t) (by omega)
              have hx := (hblk.cell t).trans hxo
              have hn := dig_succ SF t
              have hl := dig_length SF t
              generalize SF.list.getD (t / 4) 0 = X at *
              unfold wv at hc
              unfold bv at hx
              have hset := fillB_set (a := dig SF t) (by rw [hl]; exact hlt) (digestAt SF t)
              rw [hl, ← hn] at hset
              have HD := Lib.hid hd
              have HSET := Lib.hid hset
              have HBk := Lib.hid hblk
              have HBl := Lib.hid hbel
              clear hblk hbel hd hxo hn hl hset HB7 HBW
              obtain ⟨q, r, hr, rfl⟩ : ∃ q r, r < 4 ∧ t = 4 * q + r := ⟨t / 4, t % 4, by omega, by omega⟩
              rw [show (4 * q + r) / 4 = q from by omega] at hc
              have hr4 : (4 * q + r) % 4 = r := by omega
              have HR4 := Lib.hid hr4
              have HT := Lib.hid hlt
              obtain ⟨p, hp⟩ : ∃ p, p = 24 - r * 8 := ⟨_, rfl⟩
              have HP := Lib.hid hp
              have i0 : (0 : Int) ≤ 4 * (q : Int) + (r : Int) := by omega
              have i1 : 4 * (q : Int) + (r : Int) < 32 := by omega
              have i2 : (q : Int) < 8 := by omega
              have i3 : (0 : Int) ≤ (q : Int) := by omega
              have i4 : (4 * (q : Int) + (r : Int)).tdiv 4 = (q : Int) := by rw [Int.tdiv_eq_ediv_of_nonneg (by omega)]; omega
              have i5 : (4 * (q : Int) + (r : Int)).tmod 4 = (r : Int) := by rw [Int.tmod_eq_emod_of_nonneg (by omega)]; omega
              have i6 : (4 * (q : Int) + (r : Int)) / 4 = (q : Int) := by omega
              have i7 : (4 * (q : Int) + (r : Int)) % 4 = (r : Int) := by omega
              have j1 : (24 : Int) - 8 * (r : Int) = (p : Int) := by omega
              have j2 : p ≤ 24 := by omega
              have j3 : (0 : Int) ≤ (p : Int) := by omega
              clear hr4 hp
              go_wp2
              go_roundw
              case rel =>
                refine ⟨4 * q + r + 1, HT.out, by go_num, ?_, HBl.out.setCell (Nat.le_refl _) _⟩
                rw [← HSET.out, HD.out, HR4.out, ← HP.out, shr8_go]
                exact HBk.out.set_ _ _
              case measure => simp [intOf]; omega
            · obtain rfl : t = 32 := by omega
              rw [fillB_full (dig_length SF _), show bva (dig SF 32) = R from HRES.out.symm] at hblk
              have hh := HHB.out.below hbel HHG.out
              have hS := fillB_size (a := []) (by decide)
              have hSR : R.size = 32 := by rw [HRES.out]; simp [bva, bvs, digest_length]
              have hI : R.all (·.oneCell') = true := by rw [HRES.out]; exact bva_oneCell _
              generalize fillB [] = F at *
              have H1 := Lib.hid hblk
              have H2 := Lib.hid hh
              have HBl := Lib.hid hbel
              have HI := Lib.hid hI
              have HFR := Lib.hid (hS.trans hSR.symm)
              have HS := Lib.hid (info24s hSR)
              clear hblk hh hbel hS hSR hI HB7 HBW
              go_wp2_with (first
                | (refine wpList_load_row rfl 24 (.tmp 7) rfl G rfl 24 R (0, 0) _ H1.out Tryd.underlying24 rfl HS.out ?_)
                | (refine wpList_store_row rfl 24 (.tmp 2) (.tmp 53) rfl H R rfl rfl 24 F H2.out HS.out HFR.out HI.out ?_))
              have hb' : Below w.heap.size w (wr.setRow H R) := (HB0.out.trans (HB.out.mono HB0.out.size) |>.trans (HBl.out.mono (by rw [HG.out]; exact Nat.le_trans HB0.out.size HB.out.size))).trans (setRow_bel _ _ _ (by rw [HH.out]; exact Nat.le_refl _))
              exact bodyPost_ret (v := .agg R) (results_cell_row rfl _ _ H 24 R (0, 0) _ rfl (setRow_heap _ _ _ _ _ _ H2.out) Tryd.underlying24 rfl HS.out) rfl ⟨rfl, hb'⟩
end Go.Proofs.YtbfemhhmijlmlaaDoor
