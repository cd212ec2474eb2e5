/-
  The walk of PageBack: it answers true of any bytes and choice.
-/
import Derived.Test.YthhopfpgnjjpdaaPutsW5
namespace Go.Pg
theorem ok_fit {lev : Int} (h0 : 0 ≤ lev) (h4 : lev ≤ 4) (rs : List Rw) : pageOk lev (rs.take (fitN rs)) = true := by
  have := fitN_fit rs
  unfold pageOk
  simp only [decide_eq_true_eq]
  exact ⟨h0, h4, this⟩
theorem not_more {rs : List Rw} (h : fitN rs < rs.length) : pageOk 0 (rs.take (fitN rs + 1)) = false := by
  have := fitN_take rs (fitN rs + 1)
  unfold pageOk
  simp only [decide_eq_false_iff_not]
  intro ⟨_, _, h3⟩
  rw [this, List.length_take] at h3
  omega
end Go.Pg
namespace Go.Proofs.Ythhopfpgnjjpdaa
open Go.RowKit Go.Rst Go.Pg Go.Crc

set_option maxRecDepth 100000 in
set_option maxHeartbeats 1600000 in
theorem back_walk (vc : Value) (l : List UInt8) (k : Nat) (w : World) (hc : RB w vc l) (hl : l.length ≤ 140737488351232) (hk : k ≤ 255) :
    Calls Try.prog 7 #[vc, .int .u8 k] w fun e w' => e = .returned (.bool true) ∧ Below w.heap.size w w' := by
  have HC := Lib.hid hc
  obtain ⟨A2, c2, rfl, hlc2, hc2, _⟩ := hc
  go_enter Try.func7, Try.ntmps7
  go_wp2_with fail
  refine (rowList_any _ l 20 (by decide) _ HC.out hl).mono ?_
  rintro e w1 ⟨v1, rfl, ho, hbel⟩
  have HB1 := Lib.hid hbel
  have HM1 := Lib.hid ho.rr
  obtain ⟨A3, c3, rfl⟩ := or_shape ho
  clear hbel ho
  generalize rowsAt l (nrows l 20) = ms at *
  obtain ⟨n, hn⟩ : ∃ n, n = fitN ms := ⟨_, rfl⟩
  have hfit := fit_any _ ms _ HM1.out
  have hnl := fitN_le ms
  obtain ⟨K, hK⟩ : ∃ K, K = k % 5 := ⟨_, rfl⟩
  have hkm : (k : Int) % 5 = (K : Int) := by omega
  have hok := ok_fit (lev := (K : Int)) (by omega) (by omega) ms
  have hdec := dec_enc hok
  have hlen := encL_length hok
  have hmore := fun h => not_more (rs := ms) h
  rw [← hn] at hfit hnl hok hdec hlen hmore
  obtain ⟨m1, hm1⟩ : ∃ m1, m1 = ms.take n := ⟨_, rfl⟩
  have hrt := fun (W : World) (A : Option Addr) (c : Nat) (h : RR W (.slice A ms.length c) ms) => rr_take h hnl
  rw [← hm1] at hok hdec hlen hrt
  have henc := fun W v h => enc_any (K : Int) v m1 W h
  obtain ⟨b, hb⟩ : ∃ b, b = encL (K : Int) m1 := ⟨_, rfl⟩
  unfold GivesEnc at henc
  rw [← hb] at hdec hlen henc
  rw [hok, hlen] at henc
  rw [Int.toNat_natCast] at hdec
  have hdc := fun W v h => dec_any v b W h
  rw [hdec] at hdc
  have c63 : (c3 : Int) ≤ 9223372036854775807 := by
    obtain ⟨_, _, he, _, h, _⟩ := HM1.out
    injection he with _ _ e3
    subst e3
    unfold maxLen at h; omega
  have hl3 : ms.length ≤ c3 := by
    obtain ⟨_, _, he, h, _, _⟩ := HM1.out
    injection he with _ _ e3
    subst e3
    exact h
  have HF := Lib.hid hfit
  have HRT := Lib.hid hrt
  have HEN := Lib.hid henc
  have HD := Lib.hid hdc
  have HLEN := Lib.hid hlen
  have HMO := Lib.hid hmore
  have hnn : (0 : Int) ≤ (n : Int) := by omega
  have hkk : (((K : Int)) != ((K : Int))) = false := by simp
  clear hfit hok hdec hlen hn hmore hK hrt hm1 henc hb hdc
  go_wp2_with fail
  refine HF.out.mono ?_
  rintro e w2 ⟨rfl, hbel⟩
  have HB2 := Lib.hid (HB1.out.trans (hbel.mono HB1.out.size))
  have HM2 := Lib.hid (rr_below HM1.out hbel (Nat.le_refl _))
  clear hbel HM1 HF
  go_wp2_with fail
  refine (HEN.out _ _ (HRT.out _ _ _ HM2.out)).mono ?_
  rintro e w3 ⟨v3, rfl, ho3, hbel⟩
  have HB3 := Lib.hid (HB2.out.trans (hbel.mono HB2.out.size))
  have HM3 := Lib.hid (rr_below HM2.out hbel (Nat.le_refl _))
  have hr3 : RB w3 v3 b := RB.own (by rw [HLEN.out]; exact ho3)
  have HR3 := Lib.hid hr3
  obtain ⟨A4, c4, rfl, _⟩ := own_shape ho3
  clear hbel HM2 ho3 hr3
  go_wp2_with fail
  refine (HD.out _ _ HR3.out).mono ?_
  rintro e w4 ⟨v4, rfl, ho4, hbel⟩
  have HB4 := Lib.hid (HB3.out.trans (hbel.mono HB3.out.size))
  have HM4 := Lib.hid (rr_below HM3.out hbel (Nat.le_refl _))
  have HR4 := Lib.hid ho4.rr
  obtain ⟨A5, c5, rfl⟩ := or_shape ho4
  clear hbel ho4 HM3 HR3
  go_wp2_with fail
  refine (sameRows_any _ _ m1 _ (HRT.out _ _ _ HM4.out) HR4.out).mono ?_
  rintro e w5 ⟨rfl, m, rfl⟩
  have HB5 : Hid (Below w.heap.size w (w4.drewN m)) := Lib.hid ⟨HB4.out.os, HB4.out.tape, HB4.out.output, HB4.out.size, HB4.out.block⟩
  have HM5 : Hid (RR (w4.drewN m) (.slice A3 ms.length c3) ms) := Lib.hid (rr_below (B := w4.heap.size) HM4.out ⟨rfl, rfl, rfl, Nat.le_refl _, fun _ _ => rfl⟩ (Nat.le_refl _))
  clear HM4 HR4 HB4
  generalize w4.drewN m = w5 at *
  by_cases hlt : n < ms.length
  · have hlt' : (n : Int) < (ms.length : Int) := by omega
    have hmo := HMO.out hlt
    have hen2 := fun W v h => enc_any 0 v (ms.take (n + 1)) W h
    unfold GivesEnc at hen2
    rw [hmo] at hen2
    have HEN2 := Lib.hid hen2
    clear hmo hen2
    go_wp2_with fail
    refine (HEN2.out _ _ (rr_take HM5.out (show n + 1 ≤ ms.length by omega))).mono ?_
    rintro e w6 ⟨v6, rfl, ho6, hbel⟩
    have HB6 := Lib.hid (HB5.out.trans (hbel.mono HB5.out.size))
    obtain ⟨A6, c6, rfl, _⟩ := own_shape ho6
    clear hbel ho6
    go_wp2_with fail
    refine (known_any _).mono ?_
    rintro e w7 ⟨rfl, hbel⟩
    have HB7 := Lib.hid (HB6.out.trans (hbel.mono HB6.out.size))
    clear hbel
    go_wp2
    go_ret
    exact ⟨rfl, HB7.out⟩
  · have hlt' : (ms.length : Int) ≤ (n : Int) := by omega
    go_wp2_with fail
    refine (known_any _).mono ?_
    rintro e w7 ⟨rfl, hbel⟩
    have HB7 := Lib.hid (HB5.out.trans (hbel.mono HB5.out.size))
    clear hbel
    go_wp2
    go_ret
    exact ⟨rfl, HB7.out⟩
end Go.Proofs.Ythhopfpgnjjpdaa
