/-
  The walk of PageReads: it answers true of any bytes and choices.
-/
import Derived.Test.YthhopfpgnjjpdaaBackW5
namespace Go.Proofs.Ythhopfpgnjjpdaa
open Go.RowKit Go.Rst Go.Pg Go.Crc

theorem rb_set {w : World} {b o n c : Nat} {l : List UInt8} (h : RB w (.slice (some ⟨b, o, none⟩) n c) l) {k : Nat} (hk : k < l.length) (u : UInt8) : RB (w.setCell ⟨b, o + k, none⟩ (bv u)) (.slice (some ⟨b, o, none⟩) n c) (l.set k u) := by
  obtain ⟨A, c', he, h1, h2, h3⟩ := h
  injection he with e1 e2 e3
  subst e1
  subst e2
  subst e3
  rcases h3 with h3 | ⟨b', o', he, hb, hc⟩
  · rw [h3] at hk; simp at hk
  · injection he with he
    injection he with e1 e2 _
    subst e1
    subst e2
    refine ⟨_, c, by rw [List.length_set], by rw [List.length_set]; exact h1, h2, .inr ⟨b, o, rfl, by simpa using hb, fun j hj => ?_⟩⟩
    rw [List.length_set] at hj
    have hcj := hc j hj
    have hck := hc k hk
    rw [List.getElem_set]
    by_cases e : k = j
    · subst e
      simp [go_sem, hck]
    · rw [if_neg e, ← hcj]
      simp [go_sem]
theorem own_known {w : World} {base n : Nat} {e : TypeId} {v : Value} {xs : List Value} (h : w.ownsRow base e 1 v n xs) (hn0 : 0 < n) : ∃ g c, v = .slice (some ⟨g, 0, none⟩) n c ∧ base ≤ g ∧ g < w.heap.size ∧ (c : Int) ≤ 9223372036854775807 ∧ (n ≤ c) ∧ ∀ i, w.frozen? ⟨g, i, none⟩ = false := by
  rcases h.2 with ⟨_, h0⟩ | ⟨g, cap, cur, rfl, hb, hg, hn, hcm, _, _⟩
  · omega
  · refine ⟨g, cap, rfl, hb, (Array.getElem?_eq_some_iff.1 hg).1, ?_, hn, fun i => ?_⟩
    · unfold maxLen at hcm; omega
    · exact Blk.frozen (t := e) (cs := cur) hg i

theorem rb_head6 {w : World} {A : Option Addr} {c n : Nat} {l : List UInt8} (h : RB w (.slice A 256 c) l) (hl : l.length = 256) (hn : n ≤ 256) : RB w (.slice A n c) (l.take n) := by
  rw [← hl] at h
  exact h.head (by omega)
theorem seal_len {l : List UInt8} (h : l.length = 256) : (sealL (l.take 252)).length = 256 := by
  unfold sealL
  rw [List.length_append, List.length_take, tailL_length, h]
  rfl

set_option maxRecDepth 100000 in
set_option maxHeartbeats 3200000 in
theorem reads_walk (vb : Value) (lb : List UInt8) (vc : Value) (l : List UInt8) (at_ v k : Nat) (sl : Bool) (w : World) (hvb : RB w vb lb) (hlb : lb.length ≤ 140737488351232) (hc : RB w vc l) (hl : l.length ≤ 140737488351232) (hat : at_ ≤ 255) (hv : v ≤ 255) (hk : k ≤ 255) :
    Calls Try.prog 6 #[vb, vc, .int .u8 at_, .int .u8 v, .int .u8 k, .bool sl] w fun e w' => e = .returned (.bool true) ∧ Below w.heap.size w w' := by
  have HC := Lib.hid hc
  have HVB := Lib.hid hvb
  obtain ⟨A2, c2, rfl, hlc2, hc2, _⟩ := hc
  obtain ⟨A1, c1, rfl, hlc1, hc1, _⟩ := hvb
  by_cases hbig : 300 < lb.length
  · have hbig' : (300 : Int) < (lb.length : Int) := by omega
    go_enter Try.func6, Try.ntmps6
    go_wp2_with fail
    refine (known_any _).mono ?_
    rintro e w1 ⟨rfl, hbel⟩
    have HB1 := Lib.hid hbel
    clear hbel
    go_wp2
    go_ret
    exact ⟨rfl, HB1.out⟩
  · have hbig' : (lb.length : Int) ≤ (300 : Int) := by omega
    go_enter Try.func6, Try.ntmps6
    go_wp2_with fail
    refine (known_any _).mono ?_
    rintro e w0 ⟨rfl, hbel⟩
    have HB0 := Lib.hid hbel
    clear hbel
    go_wp2_with fail
    refine (rowList_any _ l 10 (by decide) _ (HC.out.below HB0.out) hl).mono ?_
    rintro e w1 ⟨v1, rfl, ho, hbel⟩
    have HB1 := Lib.hid (HB0.out.trans (hbel.mono HB0.out.size))
    have HM1 := Lib.hid ho.rr
    obtain ⟨A3, c3, rfl⟩ := or_shape ho
    clear hbel ho HB0
    generalize rowsAt l (nrows l 10) = ms at *
    obtain ⟨n, hn⟩ : ∃ n, n = fitN ms := ⟨_, rfl⟩
    have hfit := refFit_any _ ms _ HM1.out
    have hnl := fitN_le ms
    obtain ⟨K, hK⟩ : ∃ K, K = k % 5 := ⟨_, rfl⟩
    have hkm : (k : Int) % 5 = (K : Int) := by omega
    have hok := ok_fit (lev := (K : Int)) (by omega) (by omega) ms
    have hlen := encL_length hok
    rw [← hn] at hfit hnl hok hlen
    obtain ⟨m1, hm1⟩ : ∃ m1, m1 = ms.take n := ⟨_, rfl⟩
    have hrt := fun (W : World) (A : Option Addr) (c : Nat) (h : RR W (.slice A ms.length c) ms) => rr_take h hnl
    rw [← hm1] at hok hlen hrt
    have henc := fun W v h => refEnc_any (K : Int) v m1 W h
    obtain ⟨b, hb⟩ : ∃ b, b = encL (K : Int) m1 := ⟨_, rfl⟩
    unfold GivesEnc at henc
    rw [← hb] at hlen henc
    rw [hok, hlen] at henc
    have c63 : (c3 : Int) ≤ 9223372036854775807 := by
      obtain ⟨_, _, he, _, h, _⟩ := HM1.out
      injection he with _ _ e3
      subst e3
      unfold maxLen at h; omega
    have hl3 : ms.length ≤ c3 := by
      obtain ⟨_, _, he, h, _, _⟩ := HM1.out
      injection he with _ _ e3
      subst e3
      exact h
    have HF := Lib.hid hfit
    have HRT := Lib.hid hrt
    have HEN := Lib.hid henc
    have HLEN := Lib.hid hlen
    have hnn : (0 : Int) ≤ (n : Int) := by omega
    have hbv := bv_nat (show v < 256 by omega)
    have HBV := Lib.hid hbv
    clear hfit hok hlen hn hK hrt hm1 henc hb hbv
    go_wp2_with fail
    refine HF.out.mono ?_
    rintro e w2 ⟨rfl, hbel⟩
    have HB2 := Lib.hid (HB1.out.trans (hbel.mono HB1.out.size))
    have HM2 := Lib.hid (rr_below HM1.out hbel (Nat.le_refl _))
    clear hbel HM1 HF
    go_wp2_with fail
    refine (HEN.out _ _ (HRT.out _ _ _ HM2.out)).mono ?_
    rintro e w3 ⟨v3, rfl, ho3, hbel⟩
    have HB3 := Lib.hid (HB2.out.trans (hbel.mono HB2.out.size))
    have hr3 : RB w3 v3 b := RB.own (by rw [HLEN.out]; exact ho3)
    obtain ⟨g, cg, rfl, hgb, hgw, hcg, hcg2, hfz⟩ := own_known ho3 (by omega)
    obtain ⟨_, _, he, _, hcell⟩ := rb_cell (by rw [← HLEN.out] at hr3; exact hr3) (k := at_) (by rw [HLEN.out]; omega)
    injection he with he
    injection he with e1 e2 _
    subst e1
    subst e2
    obtain ⟨xa, hxa⟩ : ∃ xa : UInt8, w3.cell? ⟨_, at_, none⟩ = some (bv xa) := ⟨_, by rw [Nat.zero_add] at hcell; exact hcell⟩
    have hfza := hfz at_
    have hgw2 : w.heap.size ≤ _ := Nat.le_trans HB2.out.size hgb
    have hset := rb_set hr3 (k := at_) (by rw [HLEN.out]; omega) (UInt8.ofNat v)
    rw [Nat.zero_add, ← HBV.out] at hset
    have HSET := Lib.hid hset
    have HR3 := Lib.hid hr3
    have hcg3 : (256 : Int) ≤ (cg : Int) := by omega
    unfold bv at hxa
    have hat' : (at_ : Int) < 256 := by omega
    have hat'' : (at_ : Int) ≤ (cg : Int) := by omega
    have hset2 : (b.set at_ (UInt8.ofNat v)).length = 256 := by rw [List.length_set, HLEN.out]
    have HS2 := Lib.hid hset2
    clear hbel HM2 ho3 hr3 hfz hcell hset hset2 hcg2
    by_cases h3 : 0 < k % 3
    · have h3' : (0 : Int) < (k : Int) % 3 := by omega
      have HB4' := Lib.hid (HB3.out.setCell (p := ⟨_, at_, none⟩) hgw2 (.int .u8 (v : Int)))
      cases sl with
      | true =>
        go_wp2_with fail
        have hh := rb_head6 HSET.out HS2.out (show 252 ≤ 256 by omega)
        have HH := Lib.hid hh
        clear hh
        go_wp2_with fail
        refine (refSeal_any _ _ _ HH.out (by rw [List.length_take]; omega)).mono ?_
        rintro e w4 ⟨v4, rfl, ho4, hbel⟩
        have HB4 := Lib.hid (HB4'.out.trans (hbel.mono HB4'.out.size))
        have hsl : (sealL ((b.set at_ (UInt8.ofNat v)).take 252)).length = 256 := seal_len HS2.out
        have hr4 := RB.own ho4
        obtain ⟨ls, hls⟩ : ∃ ls, ls = sealL ((b.set at_ (UInt8.ofNat v)).take 252) := ⟨_, rfl⟩
        rw [← hls] at hsl hr4 ho4
        rw [hsl] at ho4
        have HR4 := Lib.hid hr4
        have HL4 := Lib.hid hsl
        obtain ⟨g4, cg4, rfl, _, _, hcg4, hcg42, _⟩ := own_known ho4 (by omega)
        have hcg5 : (256 : Int) ≤ (cg4 : Int) := by omega
        have hat4 : (at_ : Int) ≤ (cg4 : Int) := by omega
        clear hbel ho4 hr4 hsl hls
        have HV1 := Lib.hid (HVB.out.below HB4.out)
        go_wp2_with fail
        refine (reads_any _ lb _ HV1.out).mono ?_
        rintro e w5 ⟨rfl, hbel⟩
        have HB5 := Lib.hid (HB4.out.trans (hbel.mono HB4.out.size))
        have HR5 := Lib.hid (HR4.out.below hbel)
        clear hbel
        go_wp2_with fail
        refine (reads_any _ (ls) _ HR5.out).mono ?_
        rintro e w6 ⟨rfl, hbel⟩
        have HB6 := Lib.hid (HB5.out.trans (hbel.mono HB5.out.size))
        have hr6 := HR5.out.below hbel
        have hh6 := rb_head6 hr6 HL4.out (show at_ ≤ 256 by omega)
        have HH6 := Lib.hid hh6
        clear hbel hr6 hh6
        go_wp2_with fail
        refine (reads_any _ _ _ HH6.out).mono ?_
        rintro e w7 ⟨rfl, hbel⟩
        have HB7 := Lib.hid (HB6.out.trans (hbel.mono HB6.out.size))
        clear hbel
        go_wp2
        go_ret
        exact ⟨rfl, HB7.out⟩
      | false =>
        have HV1 := Lib.hid (HVB.out.below HB4'.out)
        go_wp2_with fail
        refine (reads_any _ lb _ HV1.out).mono ?_
        rintro e w5 ⟨rfl, hbel⟩
        have HB5 := Lib.hid (HB4'.out.trans (hbel.mono HB4'.out.size))
        have HR5 := Lib.hid (HSET.out.below hbel)
        clear hbel
        go_wp2_with fail
        refine (reads_any _ ((b.set at_ (UInt8.ofNat v))) _ HR5.out).mono ?_
        rintro e w6 ⟨rfl, hbel⟩
        have HB6 := Lib.hid (HB5.out.trans (hbel.mono HB5.out.size))
        have hr6 := HR5.out.below hbel
        have hh6 := rb_head6 hr6 HS2.out (show at_ ≤ 256 by omega)
        have HH6 := Lib.hid hh6
        clear hbel hr6 hh6
        go_wp2_with fail
        refine (reads_any _ _ _ HH6.out).mono ?_
        rintro e w7 ⟨rfl, hbel⟩
        have HB7 := Lib.hid (HB6.out.trans (hbel.mono HB6.out.size))
        clear hbel
        go_wp2
        go_ret
        exact ⟨rfl, HB7.out⟩
    · have h3' : (k : Int) % 3 = 0 := by omega
      cases sl with
      | true =>
        have hh := rb_head6 HR3.out HLEN.out (show 252 ≤ 256 by omega)
        have HH := Lib.hid hh
        clear hh
        go_wp2_with fail
        refine (refSeal_any _ _ _ HH.out (by rw [List.length_take]; omega)).mono ?_
        rintro e w4 ⟨v4, rfl, ho4, hbel⟩
        have HB4 := Lib.hid (HB3.out.trans (hbel.mono HB3.out.size))
        have hsl : (sealL (b.take 252)).length = 256 := seal_len HLEN.out
        have hr4 := RB.own ho4
        obtain ⟨ls, hls⟩ : ∃ ls, ls = sealL (b.take 252) := ⟨_, rfl⟩
        rw [← hls] at hsl hr4 ho4
        rw [hsl] at ho4
        have HR4 := Lib.hid hr4
        have HL4 := Lib.hid hsl
        obtain ⟨g4, cg4, rfl, _, _, hcg4, hcg42, _⟩ := own_known ho4 (by omega)
        have hcg5 : (256 : Int) ≤ (cg4 : Int) := by omega
        have hat4 : (at_ : Int) ≤ (cg4 : Int) := by omega
        clear hbel ho4 hr4 hsl hls
        have HV1 := Lib.hid (HVB.out.below HB4.out)
        go_wp2_with fail
        refine (reads_any _ lb _ HV1.out).mono ?_
        rintro e w5 ⟨rfl, hbel⟩
        have HB5 := Lib.hid (HB4.out.trans (hbel.mono HB4.out.size))
        have HR5 := Lib.hid (HR4.out.below hbel)
        clear hbel
        go_wp2_with fail
        refine (reads_any _ (ls) _ HR5.out).mono ?_
        rintro e w6 ⟨rfl, hbel⟩
        have HB6 := Lib.hid (HB5.out.trans (hbel.mono HB5.out.size))
        have hr6 := HR5.out.below hbel
        have hh6 := rb_head6 hr6 HL4.out (show at_ ≤ 256 by omega)
        have HH6 := Lib.hid hh6
        clear hbel hr6 hh6
        go_wp2_with fail
        refine (reads_any _ _ _ HH6.out).mono ?_
        rintro e w7 ⟨rfl, hbel⟩
        have HB7 := Lib.hid (HB6.out.trans (hbel.mono HB6.out.size))
        clear hbel
        go_wp2
        go_ret
        exact ⟨rfl, HB7.out⟩
      | false =>
        have HV1 := Lib.hid (HVB.out.below HB3.out)
        go_wp2_with fail
        refine (reads_any _ lb _ HV1.out).mono ?_
        rintro e w5 ⟨rfl, hbel⟩
        have HB5 := Lib.hid (HB3.out.trans (hbel.mono HB3.out.size))
        have HR5 := Lib.hid (HR3.out.below hbel)
        clear hbel
        go_wp2_with fail
        refine (reads_any _ (b) _ HR5.out).mono ?_
        rintro e w6 ⟨rfl, hbel⟩
        have HB6 := Lib.hid (HB5.out.trans (hbel.mono HB5.out.size))
        have hr6 := HR5.out.below hbel
        have hh6 := rb_head6 hr6 HLEN.out (show at_ ≤ 256 by omega)
        have HH6 := Lib.hid hh6
        clear hbel hr6 hh6
        go_wp2_with fail
        refine (reads_any _ _ _ HH6.out).mono ?_
        rintro e w7 ⟨rfl, hbel⟩
        have HB7 := Lib.hid (HB6.out.trans (hbel.mono HB6.out.size))
        clear hbel
        go_wp2
        go_ret
        exact ⟨rfl, HB7.out⟩
end Go.Proofs.Ythhopfpgnjjpdaa
