/-
  The walk of StateKeyed.
-/
import Derived.Test.YtcmkmdghekkkhaaDoorTkKnown
set_option linter.unusedVariables false
set_option linter.unusedSimpArgs false
namespace Go.Proofs.YtcmkmdghekkkhaaDoor
open Go.RowKit Go.Rst Go.Tp Go.Ts Go.Tk

set_option maxRecDepth 100000 in
set_option maxHeartbeats 8000000 in
theorem keyed_case (v0 v1 v2 v3 v4 v5 v6 v7 : Nat) (w : World) (b0 : v0 ≤ 255) (b1 : v1 ≤ 255) (b2 : v2 ≤ 255) (b3 : v3 ≤ 255) (b4 : v4 ≤ 4294967295) (b5 : v5 ≤ 4294967295) (b6 : v6 ≤ 4294967295) (b7 : v7 ≤ 4294967295) (hp : Pow w) :
    Calls Tryd.prog 7 #[.int .u8 v0, .int .u8 v1, .int .u8 v2, .int .u8 v3, .int .u32 v4, .int .u32 v5, .int .u32 v6, .int .u32 v7] w fun e w' => e = .returned (.bool true) ∧ Below w.heap.size w w' := by
  obtain ⟨x, hx⟩ : ∃ x, x = v4 % 1000000000 := ⟨_, rfl⟩
  obtain ⟨y, hy⟩ : ∃ y, y = v5 % 1000000000 := ⟨_, rfl⟩
  obtain ⟨m, hm⟩ : ∃ m, m = v6 % 1000000000 := ⟨_, rfl⟩
  obtain ⟨n, hn⟩ : ∃ n, n = v7 % 1000000000 := ⟨_, rfl⟩
  obtain ⟨i, hi⟩ : ∃ i, i = v0 % 10 := ⟨_, rfl⟩
  obtain ⟨j, hj⟩ : ∃ j, j = v1 % 10 := ⟨_, rfl⟩
  obtain ⟨t, ht⟩ : ∃ t, t = UInt8.ofNat (97 + v2 % 26) := ⟨_, rfl⟩
  obtain ⟨u, hu⟩ : ∃ u, u = UInt8.ofNat (97 + v3 % 26) := ⟨_, rfl⟩
  have htn : t.toNat = 97 + v2 % 26 := by rw [ht, UInt8.toNat_ofNat']; omega
  have hun : u.toNat = 97 + v3 % 26 := by rw [hu, UInt8.toNat_ofNat']; omega
  have g1 : ((v4 : Int)).tmod 1000000000 = (x : Int) := by rw [Int.tmod_eq_emod_of_nonneg (by omega)]; omega
  have g2 : ((v5 : Int)).tmod 1000000000 = (y : Int) := by rw [Int.tmod_eq_emod_of_nonneg (by omega)]; omega
  have g3 : ((v6 : Int)).tmod 1000000000 = (m : Int) := by rw [Int.tmod_eq_emod_of_nonneg (by omega)]; omega
  have g4 : ((v7 : Int)).tmod 1000000000 = (n : Int) := by rw [Int.tmod_eq_emod_of_nonneg (by omega)]; omega
  have g5 : ((v0 : Int)).tmod 10 = (i : Int) := by rw [Int.tmod_eq_emod_of_nonneg (by omega)]; omega
  have g6 : ((v1 : Int)).tmod 10 = (j : Int) := by rw [Int.tmod_eq_emod_of_nonneg (by omega)]; omega
  have g7 : IntKind.u8.wrap (97 + (v2 : Int).tmod 26) = (t.toNat : Int) := by rw [Int.tmod_eq_emod_of_nonneg (by omega), htn, IntKind.wrap_u8]; omega
  have g8 : IntKind.u8.wrap (97 + (v3 : Int).tmod 26) = (u.toNat : Int) := by rw [Int.tmod_eq_emod_of_nonneg (by omega), hun, IntKind.wrap_u8]; omega
  have e1 : (v4 : Int) % 1000000000 = (x : Int) := by omega
  have e2 : (v5 : Int) % 1000000000 = (y : Int) := by omega
  have e3 : (v6 : Int) % 1000000000 = (m : Int) := by omega
  have e4 : (v7 : Int) % 1000000000 = (n : Int) := by omega
  have e5 : (v0 : Int) % 10 = (i : Int) := by omega
  have e6 : (v1 : Int) % 10 = (j : Int) := by omega
  have e7 : (97 + (v2 : Int) % 26) % 256 = (t.toNat : Int) := by rw [htn]; omega
  have e8 : (97 + (v3 : Int) % 26) % 256 = (u.toNat : Int) := by rw [hun]; omega
  have e9 : 97 + (v2 : Int) % 26 = (t.toNat : Int) := by rw [htn]; omega
  have e10 : 97 + (v3 : Int) % 26 = (u.toNat : Int) := by rw [hun]; omega
  have bx : x < 1000000000 := by omega
  have by_ : y < 1000000000 := by omega
  have bm : m < 1000000000 := by omega
  have bn : n < 1000000000 := by omega
  have bi : i < 10 := by omega
  have bj : j < 10 := by omega
  have bt : 97 ≤ t.toNat ∧ t.toNat ≤ 122 := by omega
  have HP := Lib.hid hp
  have HPT := Lib.hid (fun W hW => parts_any i t x m bi bt.1 bt.2 (by omega) (by omega) W hW)
  have HK1 := Lib.hid (fun W hW => key_any i t x m bi (by omega) (by omega) W hW)
  have HK2 := Lib.hid (fun W hW => key_any j u y n bj (by omega) (by omega) W hW)
  have hless := key_less (t := t) (u := u) bi bj (show x < 10 ^ 10 by omega) (show y < 10 ^ 10 by omega) (show m < 10 ^ 10 by omega) (show n < 10 ^ 10 by omega)
  obtain ⟨k1, hk1⟩ : ∃ k, k = keyL i t x m := ⟨_, rfl⟩
  obtain ⟨k2, hk2⟩ : ∃ k, k = keyL j u y n := ⟨_, rfl⟩
  rw [← hk1] at HPT HK1 hless
  rw [← hk2] at HK2 hless
  have tlt : (t < u) ↔ t.toNat < u.toNat := UInt8.lt_iff_toNat_lt
  have teq : (t = u) ↔ t.toNat = u.toNat := ⟨fun h => by rw [h], fun h => UInt8.toNat_inj.1 h⟩
  clear hx hy hm hn hi hj ht hu htn hun hp hk1 hk2 bt
  by_cases h1 : i = j
  · by_cases h2 : t = u
    · by_cases h3 : x = y
      · by_cases h4 : m < n
        · have q1 : Op.bytesLess k1 k2 = true := by
            rw [hless]
            simp only [h1, h2, h3, h4, Nat.lt_irrefl, UInt8.lt_irrefl, decide_true, decide_false, Bool.true_or, Bool.false_or, Bool.true_and, Bool.false_and, Bool.or_false, Bool.and_false, Bool.and_true, Bool.or_true]
            try simp
          subst h1
          subst h2
          subst h3
          have f7 : (m : Int) < (n : Int) := by omega
          clear hless tlt teq
          go_enter Tryd.func7, Tryd.ntmps7
          go_wp2_with fail
          refine (HK1.out _ HP.out).mono ?_
          rintro e w1 ⟨rfl, hb1⟩
          have HB1 := Lib.hid hb1
          clear hb1
          go_wp2_with fail
          refine (HPT.out _ (HP.out.below HB1.out)).mono ?_
          rintro e w2 ⟨rfl, hb2⟩
          have HB2 := Lib.hid (HB1.out.trans (hb2.mono HB1.out.size))
          clear hb2 HB1
          go_wp2_with fail
          refine (known_any _ (HP.out.below HB2.out)).mono ?_
          rintro e w3 ⟨rfl, hb3⟩
          have HB3 := Lib.hid (HB2.out.trans (hb3.mono HB2.out.size))
          clear hb3 HB2
          go_wp2_with fail
          refine (HK1.out _ (HP.out.below HB3.out)).mono ?_
          rintro e w4 ⟨rfl, hb4⟩
          have HB4 := Lib.hid (HB3.out.trans (hb4.mono HB3.out.size))
          clear hb4 HB3
          go_wp2_with fail
          refine (HK2.out _ (HP.out.below HB4.out)).mono ?_
          rintro e w5 ⟨rfl, hb5⟩
          have HB5 := Lib.hid (HB4.out.trans (hb5.mono HB4.out.size))
          clear hb5 HB4
          go_wp2
          go_ret
          exact ⟨rfl, HB5.out⟩
        · have q1 : Op.bytesLess k1 k2 = false := by
            rw [hless]
            simp only [h1, h2, h3, h4, Nat.lt_irrefl, UInt8.lt_irrefl, decide_true, decide_false, Bool.true_or, Bool.false_or, Bool.true_and, Bool.false_and, Bool.or_false, Bool.and_false, Bool.and_true, Bool.or_true]
            try simp
          subst h1
          subst h2
          subst h3
          have f7 : ¬ (m : Int) < (n : Int) := by omega
          clear hless tlt teq
          go_enter Tryd.func7, Tryd.ntmps7
          go_wp2_with fail
          refine (HK1.out _ HP.out).mono ?_
          rintro e w1 ⟨rfl, hb1⟩
          have HB1 := Lib.hid hb1
          clear hb1
          go_wp2_with fail
          refine (HPT.out _ (HP.out.below HB1.out)).mono ?_
          rintro e w2 ⟨rfl, hb2⟩
          have HB2 := Lib.hid (HB1.out.trans (hb2.mono HB1.out.size))
          clear hb2 HB1
          go_wp2_with fail
          refine (known_any _ (HP.out.below HB2.out)).mono ?_
          rintro e w3 ⟨rfl, hb3⟩
          have HB3 := Lib.hid (HB2.out.trans (hb3.mono HB2.out.size))
          clear hb3 HB2
          go_wp2_with fail
          refine (HK1.out _ (HP.out.below HB3.out)).mono ?_
          rintro e w4 ⟨rfl, hb4⟩
          have HB4 := Lib.hid (HB3.out.trans (hb4.mono HB3.out.size))
          clear hb4 HB3
          go_wp2_with fail
          refine (HK2.out _ (HP.out.below HB4.out)).mono ?_
          rintro e w5 ⟨rfl, hb5⟩
          have HB5 := Lib.hid (HB4.out.trans (hb5.mono HB4.out.size))
          clear hb5 HB4
          go_wp2
          go_ret
          exact ⟨rfl, HB5.out⟩
      · by_cases h4 : x < y
        · have q1 : Op.bytesLess k1 k2 = true := by
            rw [hless]
            simp only [h1, h2, h3, h4, Nat.lt_irrefl, UInt8.lt_irrefl, decide_true, decide_false, Bool.true_or, Bool.false_or, Bool.true_and, Bool.false_and, Bool.or_false, Bool.and_false, Bool.and_true, Bool.or_true]
            try simp
          subst h1
          subst h2
          have f5 : (x : Int) < (y : Int) := by omega
          clear hless tlt teq
          go_enter Tryd.func7, Tryd.ntmps7
          go_wp2_with fail
          refine (HK1.out _ HP.out).mono ?_
          rintro e w1 ⟨rfl, hb1⟩
          have HB1 := Lib.hid hb1
          clear hb1
          go_wp2_with fail
          refine (HPT.out _ (HP.out.below HB1.out)).mono ?_
          rintro e w2 ⟨rfl, hb2⟩
          have HB2 := Lib.hid (HB1.out.trans (hb2.mono HB1.out.size))
          clear hb2 HB1
          go_wp2_with fail
          refine (known_any _ (HP.out.below HB2.out)).mono ?_
          rintro e w3 ⟨rfl, hb3⟩
          have HB3 := Lib.hid (HB2.out.trans (hb3.mono HB2.out.size))
          clear hb3 HB2
          go_wp2_with fail
          refine (HK1.out _ (HP.out.below HB3.out)).mono ?_
          rintro e w4 ⟨rfl, hb4⟩
          have HB4 := Lib.hid (HB3.out.trans (hb4.mono HB3.out.size))
          clear hb4 HB3
          go_wp2_with fail
          refine (HK2.out _ (HP.out.below HB4.out)).mono ?_
          rintro e w5 ⟨rfl, hb5⟩
          have HB5 := Lib.hid (HB4.out.trans (hb5.mono HB4.out.size))
          clear hb5 HB4
          go_wp2
          go_ret
          exact ⟨rfl, HB5.out⟩
        · have q1 : Op.bytesLess k1 k2 = false := by
            rw [hless]
            simp only [h1, h2, h3, h4, Nat.lt_irrefl, UInt8.lt_irrefl, decide_true, decide_false, Bool.true_or, Bool.false_or, Bool.true_and, Bool.false_and, Bool.or_false, Bool.and_false, Bool.and_true, Bool.or_true]
            try simp
          subst h1
          subst h2
          have f5 : ¬ (x : Int) < (y : Int) := by omega
          have f6 : ((x : Int) == (y : Int)) = false := by simp; omega
          clear hless tlt teq
          go_enter Tryd.func7, Tryd.ntmps7
          go_wp2_with fail
          refine (HK1.out _ HP.out).mono ?_
          rintro e w1 ⟨rfl, hb1⟩
          have HB1 := Lib.hid hb1
          clear hb1
          go_wp2_with fail
          refine (HPT.out _ (HP.out.below HB1.out)).mono ?_
          rintro e w2 ⟨rfl, hb2⟩
          have HB2 := Lib.hid (HB1.out.trans (hb2.mono HB1.out.size))
          clear hb2 HB1
          go_wp2_with fail
          refine (known_any _ (HP.out.below HB2.out)).mono ?_
          rintro e w3 ⟨rfl, hb3⟩
          have HB3 := Lib.hid (HB2.out.trans (hb3.mono HB2.out.size))
          clear hb3 HB2
          go_wp2_with fail
          refine (HK1.out _ (HP.out.below HB3.out)).mono ?_
          rintro e w4 ⟨rfl, hb4⟩
          have HB4 := Lib.hid (HB3.out.trans (hb4.mono HB3.out.size))
          clear hb4 HB3
          go_wp2_with fail
          refine (HK2.out _ (HP.out.below HB4.out)).mono ?_
          rintro e w5 ⟨rfl, hb5⟩
          have HB5 := Lib.hid (HB4.out.trans (hb5.mono HB4.out.size))
          clear hb5 HB4
          go_wp2
          go_ret
          exact ⟨rfl, HB5.out⟩
    · by_cases h3 : t < u
      · have q1 : Op.bytesLess k1 k2 = true := by
          rw [hless]
          simp only [h1, h2, h3, Nat.lt_irrefl, decide_true, decide_false, Bool.true_or, Bool.false_or, Bool.true_and, Bool.false_and, Bool.or_false, Bool.and_false, Bool.and_true, Bool.or_true]
          try simp
        subst h1
        have f3 : (t.toNat : Int) < (u.toNat : Int) := by have := tlt.1 h3; omega
        clear hless tlt teq
        go_enter Tryd.func7, Tryd.ntmps7
        go_wp2_with fail
        refine (HK1.out _ HP.out).mono ?_
        rintro e w1 ⟨rfl, hb1⟩
        have HB1 := Lib.hid hb1
        clear hb1
        go_wp2_with fail
        refine (HPT.out _ (HP.out.below HB1.out)).mono ?_
        rintro e w2 ⟨rfl, hb2⟩
        have HB2 := Lib.hid (HB1.out.trans (hb2.mono HB1.out.size))
        clear hb2 HB1
        go_wp2_with fail
        refine (known_any _ (HP.out.below HB2.out)).mono ?_
        rintro e w3 ⟨rfl, hb3⟩
        have HB3 := Lib.hid (HB2.out.trans (hb3.mono HB2.out.size))
        clear hb3 HB2
        go_wp2_with fail
        refine (HK1.out _ (HP.out.below HB3.out)).mono ?_
        rintro e w4 ⟨rfl, hb4⟩
        have HB4 := Lib.hid (HB3.out.trans (hb4.mono HB3.out.size))
        clear hb4 HB3
        go_wp2_with fail
        refine (HK2.out _ (HP.out.below HB4.out)).mono ?_
        rintro e w5 ⟨rfl, hb5⟩
        have HB5 := Lib.hid (HB4.out.trans (hb5.mono HB4.out.size))
        clear hb5 HB4
        go_wp2
        go_ret
        exact ⟨rfl, HB5.out⟩
      · have q1 : Op.bytesLess k1 k2 = false := by
          rw [hless]
          simp only [h1, h2, h3, Nat.lt_irrefl, decide_true, decide_false, Bool.true_or, Bool.false_or, Bool.true_and, Bool.false_and, Bool.or_false, Bool.and_false, Bool.and_true, Bool.or_true]
          try simp
        subst h1
        have f3 : ¬ (t.toNat : Int) < (u.toNat : Int) := by have := mt tlt.2 h3; omega
        have f4 : ((t.toNat : Int) == (u.toNat : Int)) = false := by have := mt teq.2 h2; simp; omega
        clear hless tlt teq
        go_enter Tryd.func7, Tryd.ntmps7
        go_wp2_with fail
        refine (HK1.out _ HP.out).mono ?_
        rintro e w1 ⟨rfl, hb1⟩
        have HB1 := Lib.hid hb1
        clear hb1
        go_wp2_with fail
        refine (HPT.out _ (HP.out.below HB1.out)).mono ?_
        rintro e w2 ⟨rfl, hb2⟩
        have HB2 := Lib.hid (HB1.out.trans (hb2.mono HB1.out.size))
        clear hb2 HB1
        go_wp2_with fail
        refine (known_any _ (HP.out.below HB2.out)).mono ?_
        rintro e w3 ⟨rfl, hb3⟩
        have HB3 := Lib.hid (HB2.out.trans (hb3.mono HB2.out.size))
        clear hb3 HB2
        go_wp2_with fail
        refine (HK1.out _ (HP.out.below HB3.out)).mono ?_
        rintro e w4 ⟨rfl, hb4⟩
        have HB4 := Lib.hid (HB3.out.trans (hb4.mono HB3.out.size))
        clear hb4 HB3
        go_wp2_with fail
        refine (HK2.out _ (HP.out.below HB4.out)).mono ?_
        rintro e w5 ⟨rfl, hb5⟩
        have HB5 := Lib.hid (HB4.out.trans (hb5.mono HB4.out.size))
        clear hb5 HB4
        go_wp2
        go_ret
        exact ⟨rfl, HB5.out⟩
  · by_cases h2 : i < j
    · have q1 : Op.bytesLess k1 k2 = true := by
        rw [hless]
        simp only [h2, h1, decide_true, decide_false, Bool.true_or, Bool.false_or, Bool.true_and, Bool.false_and, Bool.or_false, Bool.and_false, Bool.and_true, Bool.or_true]
        try simp
      have f1 : (i : Int) < (j : Int) := by omega
      clear hless tlt teq
      go_enter Tryd.func7, Tryd.ntmps7
      go_wp2_with fail
      refine (HK1.out _ HP.out).mono ?_
      rintro e w1 ⟨rfl, hb1⟩
      have HB1 := Lib.hid hb1
      clear hb1
      go_wp2_with fail
      refine (HPT.out _ (HP.out.below HB1.out)).mono ?_
      rintro e w2 ⟨rfl, hb2⟩
      have HB2 := Lib.hid (HB1.out.trans (hb2.mono HB1.out.size))
      clear hb2 HB1
      go_wp2_with fail
      refine (known_any _ (HP.out.below HB2.out)).mono ?_
      rintro e w3 ⟨rfl, hb3⟩
      have HB3 := Lib.hid (HB2.out.trans (hb3.mono HB2.out.size))
      clear hb3 HB2
      go_wp2_with fail
      refine (HK1.out _ (HP.out.below HB3.out)).mono ?_
      rintro e w4 ⟨rfl, hb4⟩
      have HB4 := Lib.hid (HB3.out.trans (hb4.mono HB3.out.size))
      clear hb4 HB3
      go_wp2_with fail
      refine (HK2.out _ (HP.out.below HB4.out)).mono ?_
      rintro e w5 ⟨rfl, hb5⟩
      have HB5 := Lib.hid (HB4.out.trans (hb5.mono HB4.out.size))
      clear hb5 HB4
      go_wp2
      go_ret
      exact ⟨rfl, HB5.out⟩
    · have q1 : Op.bytesLess k1 k2 = false := by
        rw [hless]
        simp only [h2, h1, decide_true, decide_false, Bool.true_or, Bool.false_or, Bool.true_and, Bool.false_and, Bool.or_false, Bool.and_false, Bool.and_true, Bool.or_true]
        try simp
      have f1 : ¬ (i : Int) < (j : Int) := by omega
      have f2 : ((i : Int) == (j : Int)) = false := by simp; omega
      clear hless tlt teq
      go_enter Tryd.func7, Tryd.ntmps7
      go_wp2_with fail
      refine (HK1.out _ HP.out).mono ?_
      rintro e w1 ⟨rfl, hb1⟩
      have HB1 := Lib.hid hb1
      clear hb1
      go_wp2_with fail
      refine (HPT.out _ (HP.out.below HB1.out)).mono ?_
      rintro e w2 ⟨rfl, hb2⟩
      have HB2 := Lib.hid (HB1.out.trans (hb2.mono HB1.out.size))
      clear hb2 HB1
      go_wp2_with fail
      refine (known_any _ (HP.out.below HB2.out)).mono ?_
      rintro e w3 ⟨rfl, hb3⟩
      have HB3 := Lib.hid (HB2.out.trans (hb3.mono HB2.out.size))
      clear hb3 HB2
      go_wp2_with fail
      refine (HK1.out _ (HP.out.below HB3.out)).mono ?_
      rintro e w4 ⟨rfl, hb4⟩
      have HB4 := Lib.hid (HB3.out.trans (hb4.mono HB3.out.size))
      clear hb4 HB3
      go_wp2_with fail
      refine (HK2.out _ (HP.out.below HB4.out)).mono ?_
      rintro e w5 ⟨rfl, hb5⟩
      have HB5 := Lib.hid (HB4.out.trans (hb5.mono HB4.out.size))
      clear hb5 HB4
      go_wp2
      go_ret
      exact ⟨rfl, HB5.out⟩
end Go.Proofs.YtcmkmdghekkkhaaDoor
