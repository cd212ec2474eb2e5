/-
  TopicParts: its walk.
-/
import Derived.Test.YthifpfdfepepoaaLongW9
set_option linter.unusedVariables false
namespace Go.Proofs.Ythifpfdfepepoaa
open Go.RowKit Go.Rst Go.Tp
theorem isW_at {o : Nat} (h : o ≤ 255) (b : Bool) (hb : ((decide (97 ≤ o) && decide (o ≤ 122)) || (decide (48 ≤ o) && decide (o ≤ 57))) = b) : isW (UInt8.ofNat o) = b := by
  unfold isW
  rw [byte_val (by omega), hb]
theorem ofNat_ne {o k : Nat} (h : o ≤ 255) (hk : k ≤ 255) (hn : o ≠ k) : decide (UInt8.ofNat o = UInt8.ofNat k) = false := by
  rw [decide_eq_false_iff_not]
  intro e
  have := congrArg UInt8.toNat e
  rw [byte_val (by omega), byte_val (by omega)] at this
  exact hn this
set_option maxRecDepth 100000 in
set_option maxHeartbeats 4000000 in
theorem walk_parts (n m o : Nat) (W : World) (hn : n ≤ 255) (hm : m ≤ 255) (ho1 : o ≤ 255) :
    Calls Try.prog 3 #[.int .u8 n, .int .u8 m, .int .u8 o] W fun e w' => e = .returned (.bool true) ∧ Below W.heap.size W w' := by
  have hw : GB W W := GB.refl W
  have hk := known_any W
  go_enter Try.func3, Try.ntmps3
  go_wp2
  go_loopw [7, 9] (fun s i wr => ∃ k : Nat, k ≤ n % 8 ∧ i = .int .i64 k ∧ s = sv (plusT k) ∧ wr = W) (fun _ i _ => 50 - (intOf i).toNat)
  case atStart => exact ⟨0, Nat.zero_le _, rfl, rfl, rfl⟩
  case round =>
    obtain ⟨k, hk1, rfl, rfl, rfl⟩ := hrel
    have hln := plusT_len k
    have hlp : (plusT k).length ≤ 50 := by omega
    have hc := cat_str (plusT k) [47, 43]
    have hs : plusT k ++ [47, 43] = plusT (k + 1) := rfl
    rw [hs] at hc
    obtain ⟨p, hp⟩ : ∃ p, p = plusT k := ⟨_, rfl⟩
    obtain ⟨p1, hp1⟩ : ∃ p1, p1 = plusT (k + 1) := ⟨_, rfl⟩
    rw [← hp] at hc hlp ⊢
    rw [← hp1] at hc
    have HP1 := Lib.hid hp1
    have HP := Lib.hid hp
    clear hp hp1 hs hln
    by_cases hlt : k < n % 8
    · have q2 : (k : Int) < (n : Int) % 8 := by omega
      clear HP
      go_wp2
      go_roundw
      case rel => exact ⟨k + 1, by omega, by go_num, by rw [← HP1.out], trivial⟩
      case measure => simp [intOf]; omega
    · obtain rfl : k = n % 8 := by omega
      have q2 : ¬ ((n % 8 : Nat) : Int) < (n : Int) % 8 := by omega
      have hkc : ((n % 8 : Nat) : Int) = (n : Int) % 8 := by omega
      clear hc hlt HP1 hk1
      go_wp2
      go_loopw [8, 10] (fun s i w1 => ∃ k2 : Nat, k2 ≤ m % 8 ∧ i = .int .i64 k2 ∧ s = sv (abT k2) ∧ w1 = wr) (fun _ i _ => 50 - (intOf i).toNat)
      case atStart => exact ⟨0, Nat.zero_le _, rfl, rfl, rfl⟩
      case round =>
        obtain ⟨k2, hk2, rfl, rfl, rfl⟩ := hrel
        have hln2 := abT_len k2
        have hl2 : (abT k2).length ≤ 50 := by omega
        have hc2 := cat_str (abT k2) [47, 98]
        have hs2 : abT k2 ++ [47, 98] = abT (k2 + 1) := rfl
        rw [hs2] at hc2
        obtain ⟨t, ht⟩ : ∃ t, t = abT k2 := ⟨_, rfl⟩
        obtain ⟨t1, ht1⟩ : ∃ t1, t1 = abT (k2 + 1) := ⟨_, rfl⟩
        rw [← ht] at hc2 hl2 ⊢
        rw [← ht1] at hc2
        have HT1 := Lib.hid ht1
        have HT := Lib.hid ht
        clear ht ht1 hs2 hln2
        by_cases hlt2 : k2 < m % 8
        · have q3 : (k2 : Int) < (m : Int) % 8 := by omega
          go_wp2
          go_roundw
          case rel => exact ⟨k2 + 1, by omega, by go_num, by rw [← HT1.out], trivial⟩
          case measure => simp [intOf]; omega
        · obtain rfl : k2 = m % 8 := by omega
          have q3 : ¬ ((m % 8 : Nat) : Int) < (m : Int) % 8 := by omega
          have hmat : matB p t = decide (n % 8 = m % 8) := by rw [HP.out, HT.out]; exact parts_match _ _ (by omega) (by omega)
          have hmt : ((n : Int) % 8 == (m : Int) % 8) = decide (n % 8 = m % 8) := by
            rw [Bool.eq_iff_iff, beq_iff_eq, decide_eq_true_eq]; omega
          obtain ⟨mt, hmt1⟩ : ∃ mt, mt = decide (n % 8 = m % 8) := ⟨_, rfl⟩
          rw [← hmt1] at hmat hmt
          have cm : GivesB wr 10 #[sv p, sv t] mt := hmat ▸ g_match wr p t (by omega) (by omega)
          clear hmat hmt1 HP HT HT1 hc2
          have hlit := lit_str wr (o : Int) (by omega) (by omega)
          rw [Int.toNat_natCast] at hlit
          have hwa : GB wr (wr.alloc (.cells #[.int .u8 o] 5)) := hw.alloc _
          have hisw := isW_at ho1
          obtain ⟨c, hcc⟩ : ∃ c, c = UInt8.ofNat o := ⟨_, rfl⟩
          have ho := one_right c
          have hcat := cat_str [c] [61, 97]
          have hne43 : o ≠ 43 → decide (c = 43) = false := fun h => by rw [hcc]; exact ofNat_ne ho1 (k := 43) (by omega) h
          have hne35 : o ≠ 35 → decide (c = 35) = false := fun h => by rw [hcc]; exact ofNat_ne ho1 (k := 35) (by omega) h
          have he43 : o = 43 → decide (c = 43) = true := fun h => by rw [hcc, h]; rfl
          have he35 : o = 35 → decide (c = 35) = true := fun h => by rw [hcc, h]; rfl
          rw [← hcc] at hlit hisw
          have hcat2 : (⟨#[c]⟩ : ByteArray) ++ ⟨#[61, 97]⟩ = ⟨#[c, 61, 97]⟩ := hcat
          have HNE := Lib.hid (show _ ∧ _ ∧ _ ∧ _ from ⟨hne43, hne35, he43, he35⟩)
          clear hcc hcat hne43 hne35 he43 he35
          by_cases a1 : 97 ≤ o
          · have i1 : (97 : Int) ≤ (o : Int) := by omega
            by_cases a2 : o ≤ 122
            · have i2 : (o : Int) ≤ 122 := by omega
              have hwd := hisw true (by simp; omega)
              clear a1 a2
              have c1 : GivesB wr 11 #[sv [c]] true := (show rightB [c] = true by rw [ho.1]; exact hwd) ▸ g_right wr [c]
              have c3 : GivesB wr 12 #[sv [c, 61, 97]] true := (show attrsB [c, 61, 97] = true by rw [one_attrs]; exact hwd) ▸ g_attrs wr [c, 61, 97]
              have c2 : GivesB wr 13 #[sv [c]] true := (show patB [c] = true by rw [ho.2, hwd]; rfl) ▸ g_pat wr [c]
              clear hwd ho hlt2 hk2 hisw
              go_wp2_with fail
              go_at_call 9
              refine (hk _ hwa).mono ?_
              rintro e w1 ⟨rfl, hb1⟩
              go_wp2_with fail
              go_at_call 10
              refine (cm _ hb1).mono ?_
              rintro e w2 ⟨rfl, hb2⟩
              clear hb1
              go_wp2_with fail
              go_at_call 11
              refine (c1 _ hb2).mono ?_
              rintro e w3 ⟨rfl, hb3⟩
              clear hb2
              go_wp2_with fail
              go_at_call 12
              refine (c3 _ hb3).mono ?_
              rintro e w4 ⟨rfl, hb4⟩
              clear hb3
              go_wp2_with fail
              go_at_call 13
              refine (c2 _ hb4).mono ?_
              rintro e w5 ⟨rfl, hb5⟩
              clear hb4
              go_wp2
              go_ret
              exact ⟨rfl, hb5⟩
            · have i2 : ¬ (o : Int) ≤ 122 := by omega
              have i3 : (48 : Int) ≤ (o : Int) := by omega
              have i4 : ¬ (o : Int) ≤ 57 := by omega
              have i5 : ((o : Int) == 43) = false := by rw [beq_eq_false_iff_ne]; omega
              have i6 : ((o : Int) == 35) = false := by rw [beq_eq_false_iff_ne]; omega
              have hwd := hisw false (by simp; omega)
              have hc43 := HNE.out.1 (by omega)
              have hc35 := HNE.out.2.1 (by omega)
              clear a1 a2
              have c1 : GivesB wr 11 #[sv [c]] false := (show rightB [c] = false by rw [ho.1]; exact hwd) ▸ g_right wr [c]
              have c3 : GivesB wr 12 #[sv [c, 61, 97]] false := (show attrsB [c, 61, 97] = false by rw [one_attrs]; exact hwd) ▸ g_attrs wr [c, 61, 97]
              have c2 : GivesB wr 13 #[sv [c]] false := (show patB [c] = false by rw [ho.2, hwd]; simp [hc43, hc35]) ▸ g_pat wr [c]
              clear hwd ho hlt2 hk2 hisw hc43 hc35
              go_wp2_with fail
              go_at_call 9
              refine (hk _ hwa).mono ?_
              rintro e w1 ⟨rfl, hb1⟩
              go_wp2_with fail
              go_at_call 10
              refine (cm _ hb1).mono ?_
              rintro e w2 ⟨rfl, hb2⟩
              clear hb1
              go_wp2_with fail
              go_at_call 11
              refine (c1 _ hb2).mono ?_
              rintro e w3 ⟨rfl, hb3⟩
              clear hb2
              go_wp2_with fail
              go_at_call 12
              refine (c3 _ hb3).mono ?_
              rintro e w4 ⟨rfl, hb4⟩
              clear hb3
              go_wp2_with fail
              go_at_call 13
              refine (c2 _ hb4).mono ?_
              rintro e w5 ⟨rfl, hb5⟩
              clear hb4
              go_wp2
              go_ret
              exact ⟨rfl, hb5⟩
          · have i1 : ¬ (97 : Int) ≤ (o : Int) := by omega
            by_cases a3 : 48 ≤ o
            · have i3 : (48 : Int) ≤ (o : Int) := by omega
              have i5 : ((o : Int) == 43) = false := by rw [beq_eq_false_iff_ne]; omega
              have i6 : ((o : Int) == 35) = false := by rw [beq_eq_false_iff_ne]; omega
              by_cases a4 : o ≤ 57
              · have i4 : (o : Int) ≤ 57 := by omega
                have hwd := hisw true (by simp; omega)
                clear a1 a3 a4
                have c1 : GivesB wr 11 #[sv [c]] true := (show rightB [c] = true by rw [ho.1]; exact hwd) ▸ g_right wr [c]
                have c3 : GivesB wr 12 #[sv [c, 61, 97]] true := (show attrsB [c, 61, 97] = true by rw [one_attrs]; exact hwd) ▸ g_attrs wr [c, 61, 97]
                have c2 : GivesB wr 13 #[sv [c]] true := (show patB [c] = true by rw [ho.2, hwd]; rfl) ▸ g_pat wr [c]
                clear hwd ho hlt2 hk2 hisw
                go_wp2_with fail
                go_at_call 9
                refine (hk _ hwa).mono ?_
                rintro e w1 ⟨rfl, hb1⟩
                go_wp2_with fail
                go_at_call 10
                refine (cm _ hb1).mono ?_
                rintro e w2 ⟨rfl, hb2⟩
                clear hb1
                go_wp2_with fail
                go_at_call 11
                refine (c1 _ hb2).mono ?_
                rintro e w3 ⟨rfl, hb3⟩
                clear hb2
                go_wp2_with fail
                go_at_call 12
                refine (c3 _ hb3).mono ?_
                rintro e w4 ⟨rfl, hb4⟩
                clear hb3
                go_wp2_with fail
                go_at_call 13
                refine (c2 _ hb4).mono ?_
                rintro e w5 ⟨rfl, hb5⟩
                clear hb4
                go_wp2
                go_ret
                exact ⟨rfl, hb5⟩
              · have i4 : ¬ (o : Int) ≤ 57 := by omega
                have hwd := hisw false (by simp; omega)
                have hc43 := HNE.out.1 (by omega)
                have hc35 := HNE.out.2.1 (by omega)
                clear a1 a3 a4
                have c1 : GivesB wr 11 #[sv [c]] false := (show rightB [c] = false by rw [ho.1]; exact hwd) ▸ g_right wr [c]
                have c3 : GivesB wr 12 #[sv [c, 61, 97]] false := (show attrsB [c, 61, 97] = false by rw [one_attrs]; exact hwd) ▸ g_attrs wr [c, 61, 97]
                have c2 : GivesB wr 13 #[sv [c]] false := (show patB [c] = false by rw [ho.2, hwd]; simp [hc43, hc35]) ▸ g_pat wr [c]
                clear hwd ho hlt2 hk2 hisw hc43 hc35
                go_wp2_with fail
                go_at_call 9
                refine (hk _ hwa).mono ?_
                rintro e w1 ⟨rfl, hb1⟩
                go_wp2_with fail
                go_at_call 10
                refine (cm _ hb1).mono ?_
                rintro e w2 ⟨rfl, hb2⟩
                clear hb1
                go_wp2_with fail
                go_at_call 11
                refine (c1 _ hb2).mono ?_
                rintro e w3 ⟨rfl, hb3⟩
                clear hb2
                go_wp2_with fail
                go_at_call 12
                refine (c3 _ hb3).mono ?_
                rintro e w4 ⟨rfl, hb4⟩
                clear hb3
                go_wp2_with fail
                go_at_call 13
                refine (c2 _ hb4).mono ?_
                rintro e w5 ⟨rfl, hb5⟩
                clear hb4
                go_wp2
                go_ret
                exact ⟨rfl, hb5⟩
            · have i3 : ¬ (48 : Int) ≤ (o : Int) := by omega
              have hwd := hisw false (by simp; omega)
              by_cases a5 : o = 43
              · have i5 : ((o : Int) == 43) = true := by rw [beq_iff_eq]; omega
                have hc43 := HNE.out.2.2.1 a5
                have hc35 := HNE.out.2.1 (by omega)
                clear a1 a3 a5
                have c1 : GivesB wr 11 #[sv [c]] false := (show rightB [c] = false by rw [ho.1]; exact hwd) ▸ g_right wr [c]
                have c3 : GivesB wr 12 #[sv [c, 61, 97]] false := (show attrsB [c, 61, 97] = false by rw [one_attrs]; exact hwd) ▸ g_attrs wr [c, 61, 97]
                have c2 : GivesB wr 13 #[sv [c]] true := (show patB [c] = true by rw [ho.2, hwd]; simp [hc43, hc35]) ▸ g_pat wr [c]
                clear hwd ho hlt2 hk2 hisw hc43 hc35
                go_wp2_with fail
                go_at_call 9
                refine (hk _ hwa).mono ?_
                rintro e w1 ⟨rfl, hb1⟩
                go_wp2_with fail
                go_at_call 10
                refine (cm _ hb1).mono ?_
                rintro e w2 ⟨rfl, hb2⟩
                clear hb1
                go_wp2_with fail
                go_at_call 11
                refine (c1 _ hb2).mono ?_
                rintro e w3 ⟨rfl, hb3⟩
                clear hb2
                go_wp2_with fail
                go_at_call 12
                refine (c3 _ hb3).mono ?_
                rintro e w4 ⟨rfl, hb4⟩
                clear hb3
                go_wp2_with fail
                go_at_call 13
                refine (c2 _ hb4).mono ?_
                rintro e w5 ⟨rfl, hb5⟩
                clear hb4
                go_wp2
                go_ret
                exact ⟨rfl, hb5⟩
              · have i5 : ((o : Int) == 43) = false := by rw [beq_eq_false_iff_ne]; omega
                have hc43 := HNE.out.1 a5
                by_cases a6 : o = 35
                · have i6 : ((o : Int) == 35) = true := by rw [beq_iff_eq]; omega
                  have hc35 := HNE.out.2.2.2 a6
                  clear a1 a3 a5 a6
                  have c1 : GivesB wr 11 #[sv [c]] false := (show rightB [c] = false by rw [ho.1]; exact hwd) ▸ g_right wr [c]
                  have c3 : GivesB wr 12 #[sv [c, 61, 97]] false := (show attrsB [c, 61, 97] = false by rw [one_attrs]; exact hwd) ▸ g_attrs wr [c, 61, 97]
                  have c2 : GivesB wr 13 #[sv [c]] true := (show patB [c] = true by rw [ho.2, hwd]; simp [hc43, hc35]) ▸ g_pat wr [c]
                  clear hwd ho hlt2 hk2 hisw hc43 hc35
                  go_wp2_with fail
                  go_at_call 9
                  refine (hk _ hwa).mono ?_
                  rintro e w1 ⟨rfl, hb1⟩
                  go_wp2_with fail
                  go_at_call 10
                  refine (cm _ hb1).mono ?_
                  rintro e w2 ⟨rfl, hb2⟩
                  clear hb1
                  go_wp2_with fail
                  go_at_call 11
                  refine (c1 _ hb2).mono ?_
                  rintro e w3 ⟨rfl, hb3⟩
                  clear hb2
                  go_wp2_with fail
                  go_at_call 12
                  refine (c3 _ hb3).mono ?_
                  rintro e w4 ⟨rfl, hb4⟩
                  clear hb3
                  go_wp2_with fail
                  go_at_call 13
                  refine (c2 _ hb4).mono ?_
                  rintro e w5 ⟨rfl, hb5⟩
                  clear hb4
                  go_wp2
                  go_ret
                  exact ⟨rfl, hb5⟩
                · have i6 : ((o : Int) == 35) = false := by rw [beq_eq_false_iff_ne]; omega
                  have hc35 := HNE.out.2.1 a6
                  clear a1 a3 a5 a6
                  have c1 : GivesB wr 11 #[sv [c]] false := (show rightB [c] = false by rw [ho.1]; exact hwd) ▸ g_right wr [c]
                  have c3 : GivesB wr 12 #[sv [c, 61, 97]] false := (show attrsB [c, 61, 97] = false by rw [one_attrs]; exact hwd) ▸ g_attrs wr [c, 61, 97]
                  have c2 : GivesB wr 13 #[sv [c]] false := (show patB [c] = false by rw [ho.2, hwd]; simp [hc43, hc35]) ▸ g_pat wr [c]
                  clear hwd ho hlt2 hk2 hisw hc43 hc35
                  go_wp2_with fail
                  go_at_call 9
                  refine (hk _ hwa).mono ?_
                  rintro e w1 ⟨rfl, hb1⟩
                  go_wp2_with fail
                  go_at_call 10
                  refine (cm _ hb1).mono ?_
                  rintro e w2 ⟨rfl, hb2⟩
                  clear hb1
                  go_wp2_with fail
                  go_at_call 11
                  refine (c1 _ hb2).mono ?_
                  rintro e w3 ⟨rfl, hb3⟩
                  clear hb2
                  go_wp2_with fail
                  go_at_call 12
                  refine (c3 _ hb3).mono ?_
                  rintro e w4 ⟨rfl, hb4⟩
                  clear hb3
                  go_wp2_with fail
                  go_at_call 13
                  refine (c2 _ hb4).mono ?_
                  rintro e w5 ⟨rfl, hb5⟩
                  clear hb4
                  go_wp2
                  go_ret
                  exact ⟨rfl, hb5⟩
end Go.Proofs.Ythifpfdfepepoaa
