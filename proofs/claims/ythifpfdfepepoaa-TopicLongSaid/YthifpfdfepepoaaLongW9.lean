/-
  TopicLong: its walk.
-/
import Derived.Test.YthifpfdfepepoaaOwnW9
set_option linter.unusedVariables false
namespace Go.Proofs.Ythifpfdfepepoaa
open Go.RowKit Go.Rst Go.Tp
set_option maxRecDepth 100000 in
set_option maxHeartbeats 3000000 in
theorem walk_long (n : Nat) (W : World) (hn : n ≤ 255) :
    Calls Try.prog 8 #[.int .u8 n] W fun e w' => e = .returned (.bool true) ∧ Below W.heap.size W w' := by
  have hw : GB W W := GB.refl W
  have hk := known_any W
  go_enter Try.func8, Try.ntmps8
  go_wp2
  go_loopw [3, 4] (fun s i wr => ∃ k : Nat, k ≤ n % 50 ∧ i = .int .i64 k ∧ s = sv (List.replicate k 97) ∧ wr = W) (fun _ i _ => 50 - (intOf i).toNat)
  case atStart => exact ⟨0, Nat.zero_le _, rfl, rfl, rfl⟩
  case round =>
    obtain ⟨k, hk1, rfl, rfl, rfl⟩ := hrel
    obtain ⟨l, hl⟩ : ∃ l, l = List.replicate k (97 : UInt8) := ⟨_, rfl⟩
    rw [← hl]
    have hll : l.length = k := by rw [hl]; simp
    have hlb : l.length ≤ 50 := by omega
    have hc := cat_str l [97]
    have hln : l ++ [97] = List.replicate (k + 1) 97 := by rw [hl, List.replicate_succ']
    have HLN := Lib.hid hln
    have HL := Lib.hid hl
    clear hl hln
    by_cases hlt : k < n % 50
    · have q1 : (k : Int) < ((n % 50 : Nat) : Int) := by omega
      have q2 : (k : Int) < (n : Int) % 50 := by omega
      clear hll
      go_wp2
      go_roundw
      case rel => exact ⟨k + 1, by omega, by go_num, by rw [← HLN.out], trivial⟩
      case measure => simp [intOf]; omega
    · have q2 : ¬ (k : Int) < (n : Int) % 50 := by omega
      have hcp := cat_str [107, 61] l
      have hat : attrsB ([107, 61] ++ l) = (decide (1 ≤ k) && decide (k ≤ 28)) := by rw [HL.out]; exact long_attrs k
      have hlr := long_right k
      rw [← HL.out] at hlr
      obtain ⟨p, hp⟩ : ∃ p, p = [107, 61] ++ l := ⟨_, rfl⟩
      rw [← hp] at hcp hat
      have hlk : (l.length : Int) = (k : Int) := by rw [hll]
      have hk50 : k < 50 := by omega
      have HLL := Lib.hid hll
      have HPP := Lib.hid hp
      clear hll hp hc hlt hk1
      by_cases h1 : 1 ≤ k
      · have d1 : (1 : Int) ≤ (l.length : Int) := by omega
        by_cases h30 : k ≤ 30
        · have d2 : (l.length : Int) ≤ 30 := by omega
          have c1 : GivesB wr 11 #[sv l] true := (show rightB l = true by rw [hlr.1]; simp; omega) ▸ g_right wr l
          have c2 : GivesB wr 13 #[sv l] true := (show patB l = true by rw [hlr.2]; simp; omega) ▸ g_pat wr l
          by_cases h28 : k ≤ 28
          · have d3 : (l.length : Int) ≤ 28 := by omega
            have c3 : GivesB wr 12 #[sv p] true := (show attrsB p = true by rw [hat]; simp; omega) ▸ g_attrs wr p
            clear hlr hat h1 h30 h28 hlk
            go_wp2_with fail
            go_at_call 9
            refine (hk _ hw).mono ?_
            rintro e w1 ⟨rfl, hb1⟩
            go_wp2_with fail
            go_at_call 11
            refine (c1 _ hb1).mono ?_
            rintro e w2 ⟨rfl, hb2⟩
            clear hb1
            go_wp2_with fail
            go_at_call 13
            refine (c2 _ hb2).mono ?_
            rintro e w3 ⟨rfl, hb3⟩
            clear hb2
            go_wp2_with fail
            go_at_call 12
            refine (c3 _ hb3).mono ?_
            rintro e w4 ⟨rfl, hb4⟩
            clear hb3
            go_wp2
            go_ret
            exact ⟨rfl, hb4⟩
          · have d3 : decide ((l.length : Int) ≤ 28) = false := by rw [decide_eq_false_iff_not]; omega
            have c3 : GivesB wr 12 #[sv p] false := (show attrsB p = false by rw [hat]; simp; omega) ▸ g_attrs wr p
            clear hlr hat h1 h30 h28 hlk
            go_wp2_with fail
            go_at_call 9
            refine (hk _ hw).mono ?_
            rintro e w1 ⟨rfl, hb1⟩
            go_wp2_with fail
            go_at_call 11
            refine (c1 _ hb1).mono ?_
            rintro e w2 ⟨rfl, hb2⟩
            clear hb1
            go_wp2_with fail
            go_at_call 13
            refine (c2 _ hb2).mono ?_
            rintro e w3 ⟨rfl, hb3⟩
            clear hb2
            go_wp2_with fail
            go_at_call 12
            refine (c3 _ hb3).mono ?_
            rintro e w4 ⟨rfl, hb4⟩
            clear hb3
            go_wp2
            go_ret
            exact ⟨rfl, hb4⟩
        · have d2 : ¬ (l.length : Int) ≤ 30 := by omega
          have d3 : decide ((l.length : Int) ≤ 28) = false := by rw [decide_eq_false_iff_not]; omega
          have c1 : GivesB wr 11 #[sv l] false := (show rightB l = false by rw [hlr.1]; simp; omega) ▸ g_right wr l
          have c2 : GivesB wr 13 #[sv l] false := (show patB l = false by rw [hlr.2]; simp; omega) ▸ g_pat wr l
          have c3 : GivesB wr 12 #[sv p] false := (show attrsB p = false by rw [hat]; simp; omega) ▸ g_attrs wr p
          clear hlr hat h1 h30 hlk
          go_wp2_with fail
          go_at_call 9
          refine (hk _ hw).mono ?_
          rintro e w1 ⟨rfl, hb1⟩
          go_wp2_with fail
          go_at_call 11
          refine (c1 _ hb1).mono ?_
          rintro e w2 ⟨rfl, hb2⟩
          clear hb1
          go_wp2_with fail
          go_at_call 13
          refine (c2 _ hb2).mono ?_
          rintro e w3 ⟨rfl, hb3⟩
          clear hb2
          go_wp2_with fail
          go_at_call 12
          refine (c3 _ hb3).mono ?_
          rintro e w4 ⟨rfl, hb4⟩
          clear hb3
          go_wp2
          go_ret
          exact ⟨rfl, hb4⟩
      · have d1 : ¬ (1 : Int) ≤ (l.length : Int) := by omega
        have c1 : GivesB wr 11 #[sv l] false := (show rightB l = false by rw [hlr.1]; simp; omega) ▸ g_right wr l
        have c2 : GivesB wr 13 #[sv l] false := (show patB l = false by rw [hlr.2]; simp; omega) ▸ g_pat wr l
        have c3 : GivesB wr 12 #[sv p] false := (show attrsB p = false by rw [hat]; simp; omega) ▸ g_attrs wr p
        clear hlr hat h1 hlk
        go_wp2_with fail
        go_at_call 9
        refine (hk _ hw).mono ?_
        rintro e w1 ⟨rfl, hb1⟩
        go_wp2_with fail
        go_at_call 11
        refine (c1 _ hb1).mono ?_
        rintro e w2 ⟨rfl, hb2⟩
        clear hb1
        go_wp2_with fail
        go_at_call 13
        refine (c2 _ hb2).mono ?_
        rintro e w3 ⟨rfl, hb3⟩
        clear hb2
        go_wp2_with fail
        go_at_call 12
        refine (c3 _ hb3).mono ?_
        rintro e w4 ⟨rfl, hb4⟩
        clear hb3
        go_wp2
        go_ret
        exact ⟨rfl, hb4⟩
end Go.Proofs.Ythifpfdfepepoaa
