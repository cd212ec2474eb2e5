/-
  The walk of PageSpoilt: it answers true of any bytes and choices.
-/
import Derived.Test.YthhopfpgnjjpdaaReadsW5
import Derived.Test.YthhopfpgnjjpdaaSpoil5M
namespace Go.Proofs.Ythhopfpgnjjpdaa
open Go.RowKit Go.Rst Go.Pg Go.Crc

set_option maxRecDepth 100000 in
set_option maxHeartbeats 3200000 in
theorem spoilt_walk (vc : Value) (l : List UInt8) (at_ v n0 : Nat) (w : World) (hc : RB w vc l) (hl : l.length ≤ 140737488351232) (hat : at_ ≤ 255) (hv : v ≤ 255) (hn0 : n0 ≤ 65535) :
    Calls Try.prog 3 #[vc, .int .u8 at_, .int .u8 v, .int .u16 n0] w fun e w' => e = .returned (.bool true) ∧ Below w.heap.size w w' := by
  have HC := Lib.hid hc
  obtain ⟨A2, c2, rfl, hlc2, hc2, _⟩ := hc
  obtain ⟨M, hM⟩ : ∃ M, M = n0 % 256 := ⟨_, rfl⟩
  have hMi : (n0 : Int) % 256 = (M : Int) := by omega
  have hM256 : (M : Int) ≤ 255 := by omega
  clear hM
  go_enter Try.func3, Try.ntmps3
  go_wp2_with fail
  refine (rowList_any _ l 12 (by decide) _ HC.out hl).mono ?_
  rintro e w1 ⟨v1, rfl, ho, hbel⟩
  have HB1 := Lib.hid hbel
  have HM1 := Lib.hid ho.rr
  obtain ⟨A3, c3, rfl⟩ := or_shape ho
  clear hbel ho
  generalize rowsAt l (nrows l 12) = ms at *
  obtain ⟨n, hn⟩ : ∃ n, n = fitN ms := ⟨_, rfl⟩
  have hfit := fit_any _ ms _ HM1.out
  have hnl := fitN_le ms
  have hok := ok_fit (lev := 0) (by omega) (by omega) ms
  have hlen := encL_length hok
  have hset := fun u => dec_set hok (k := at_) (by rw [hlen]; omega) u
  rw [← hn] at hfit hnl hok hlen
  simp only [← hn] at hset
  obtain ⟨m1, hm1⟩ : ∃ m1, m1 = ms.take n := ⟨_, rfl⟩
  have hrt := fun (W : World) (A : Option Addr) (c : Nat) (h : RR W (.slice A ms.length c) ms) => rr_take h hnl
  simp only [← hm1] at hok hlen hrt hset
  have henc := fun W v h => enc_any 0 v m1 W h
  obtain ⟨b, hb⟩ : ∃ b, b = encL 0 m1 := ⟨_, rfl⟩
  unfold GivesEnc at henc
  simp only [← hb] at hset
  rw [← hb] at hlen henc
  rw [hok, hlen] at henc
  have hsv := hset (UInt8.ofNat v)
  have c63 : (c3 : Int) ≤ 9223372036854775807 := by
    obtain ⟨_, _, he, _, h, _⟩ := HM1.out
    injection he with _ _ e3
    subst e3
    unfold maxLen at h; omega
  have hl3 : ms.length ≤ c3 := by
    obtain ⟨_, _, he, h, _, _⟩ := HM1.out
    injection he with _ _ e3
    subst e3
    exact h
  have hbat : at_ < b.length := by omega
  have hsv2 : (v = (b[at_]'hbat).toNat ∧ (decR (b.set at_ (UInt8.ofNat v))).2.2 = 0) ∨ (v ≠ (b[at_]'hbat).toNat ∧ (decR (b.set at_ (UInt8.ofNat v))).2.2 = 12) := by
    rcases hsv with ⟨h1, h2⟩ | ⟨h1, h2⟩
    · exact .inl ⟨by rw [← h1, byte_val (by omega)], h2⟩
    · refine .inr ⟨fun h => h1 ?_, h2⟩
      rw [h, UInt8.ofNat_toNat]
  obtain ⟨xa, hxa0⟩ : ∃ xa, xa = b[at_]'hbat := ⟨_, rfl⟩
  rw [← hxa0] at hsv2
  have hdsh := fun W u h => dec_any u (b.take M) W h
  rw [dec_short (show (b.take M).length < 256 by rw [List.length_take]; omega)] at hdsh
  have hd2 := fun W u h => dec_any u (b.set at_ (UInt8.ofNat v)) W h
  generalize decR (b.set at_ (UInt8.ofNat v)) = r at *
  obtain ⟨r1, r2, er⟩ := r
  simp only [] at hsv2
  have HF := Lib.hid hfit
  have HRT := Lib.hid hrt
  have HEN := Lib.hid henc
  have HLEN := Lib.hid hlen
  have HSH := Lib.hid hdsh
  have HD2 := Lib.hid hd2
  have HSV := Lib.hid hsv2
  have HXA := Lib.hid hxa0
  have hnn : (0 : Int) ≤ (n : Int) := by omega
  have hbv := bv_nat (show v < 256 by omega)
  have HBV := Lib.hid hbv
  clear hfit hok hlen hn hrt hm1 henc hb hbv hset hsv hsv2 hdsh hd2 hxa0
  go_wp2_with fail
  refine HF.out.mono ?_
  rintro e w2 ⟨rfl, hbel⟩
  have HB2 := Lib.hid (HB1.out.trans (hbel.mono HB1.out.size))
  have HM2 := Lib.hid (rr_below HM1.out hbel (Nat.le_refl _))
  clear hbel HM1 HF
  go_wp2_with fail
  refine (HEN.out _ _ (HRT.out _ _ _ HM2.out)).mono ?_
  rintro e w3 ⟨v3, rfl, ho3, hbel⟩
  have HB3 := Lib.hid (HB2.out.trans (hbel.mono HB2.out.size))
  have hr3 : RB w3 v3 b := RB.own (by rw [HLEN.out]; exact ho3)
  obtain ⟨g, cg, rfl, hgb, hgw, hcg, hcg2, hfz⟩ := own_known ho3 (by omega)
  obtain ⟨_, _, he, _, hcell⟩ := rb_cell (by rw [← HLEN.out] at hr3; exact hr3) (k := at_) (by rw [HLEN.out]; omega)
  injection he with he
  injection he with e1 e2 _
  subst e1
  subst e2
  have hxa := hcell
  rw [Nat.zero_add, ← HXA.out] at hxa
  have hfza := hfz at_
  have hgw2 : w.heap.size ≤ _ := Nat.le_trans HB2.out.size hgb
  have HFZ := Lib.hid hfz
  have HR3 := Lib.hid hr3
  have hcg3 : (256 : Int) ≤ (cg : Int) := by omega
  unfold bv at hxa
  have hat' : (at_ : Int) < 256 := by omega
  have hMc : (M : Int) ≤ (cg : Int) := by omega
  have hM0 : (0 : Int) ≤ (M : Int) := by omega
  have HGW := Lib.hid hgw2
  clear hbel HM2 ho3 hr3 hfz hcell hcg2
  go_wp2_with fail
  refine (HSH.out _ _ (rb_head6 HR3.out HLEN.out (show M ≤ 256 by omega))).mono ?_
  rintro e w4 ⟨v4, rfl, ho4, hbel⟩
  have HB4 := Lib.hid (HB3.out.trans (hbel.mono HB3.out.size))
  have hr4 := HR3.out.below hbel
  have hxa4 := (hbel.cell (p := ⟨_, at_, none⟩) hgw).trans hxa
  have hfz4 := (hbel.frozen (p := ⟨_, at_, none⟩) hgw).trans hfza
  have hset := rb_set hr4 (k := at_) (by rw [HLEN.out]; omega) (UInt8.ofNat v)
  rw [Nat.zero_add, ← HBV.out] at hset
  have HSET := Lib.hid hset
  have HB5 := Lib.hid (HB4.out.setCell (p := ⟨_, at_, none⟩) HGW.out (.int .u8 (v : Int)))
  obtain ⟨A4, c4, rfl⟩ := or_shape ho4
  clear hbel ho4 hr4 hset hxa hfza HR3
  go_wp2_with fail
  refine (HD2.out _ _ HSET.out).mono ?_
  rintro e w6 ⟨v6, rfl, ho6, hbel⟩
  have HB6 := Lib.hid (HB5.out.trans (hbel.mono HB5.out.size))
  obtain ⟨A6, c6, rfl⟩ := or_shape ho6
  clear hbel ho6
  go_wp2_with fail
  refine (known_any _).mono ?_
  rintro e w7 ⟨rfl, hbel⟩
  have HB7 := Lib.hid (HB6.out.trans (hbel.mono HB6.out.size))
  clear hbel
  rcases HSV.out with ⟨h1, h2⟩ | ⟨h1, h2⟩
  · subst h2
    have hvx : ((v : Int) == (xa.toNat : Int)) = true := by rw [h1]; simp
    have H1 := Lib.hid h1
    clear h1
    go_wp2
    go_ret
    exact ⟨rfl, HB7.out⟩
  · subst h2
    have hvx : ((v : Int) == (xa.toNat : Int)) = false := by rw [beq_eq_false_iff_ne]; omega
    have H1 := Lib.hid h1
    clear h1
    go_wp2
    go_ret
    exact ⟨rfl, HB7.out⟩
end Go.Proofs.Ythhopfpgnjjpdaa
