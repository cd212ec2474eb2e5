/-
  The contracts of the program's within, rising and leased, and of slices.Contains of numbers (layer state).
-/
import Derived.Handy
import Derived.Test.YtodckdkbheapfaaGreatKOG
set_option linter.unusedVariables false
set_option linter.unusedVariables false
set_option linter.unusedSimpArgs false
namespace Go.Proofs.YtodckdkbheapfaaGreat
open Go.RowKit Go.Rst Go.Tp Go.Ts
set_option maxRecDepth 100000 in
theorem within_is (n a b : Int) (r : Bool) (hr : (decide (a ≤ n) && decide (n ≤ b)) = r) (w : World) : Calls Tryz.prog 125 #[.int .i64 n, .int .i64 a, .int .i64 b] w fun e w' => e = .returned (.bool r) ∧ w' = w := by
  by_cases h1 : a ≤ n
  · by_cases h2 : n ≤ b
    · have hr' : r = true := by rw [← hr]; simp [h1, h2]
      subst hr'
      clear hr
      go_enter Tryz.func125, Tryz.ntmps125
      go_wp2
      go_ret
      exact ⟨rfl, rfl⟩
    · have hr' : r = false := by rw [← hr]; simp [h1, h2]
      subst hr'
      clear hr
      go_enter Tryz.func125, Tryz.ntmps125
      go_wp2
      go_ret
      exact ⟨rfl, rfl⟩
  · have hr' : r = false := by rw [← hr]; simp [h1]
    subst hr'
    clear hr
    go_enter Tryz.func125, Tryz.ntmps125
    go_wp2
    go_ret
    exact ⟨rfl, rfl⟩
set_option maxRecDepth 100000 in
theorem leased_any (u c l : Int) (hu : u ≤ 9223372036854775807) (hc : 0 ≤ c) (hc2 : c ≤ 1152921504606846976) (hl : 1 ≤ l) (hl2 : l ≤ 1000) (r : Bool) (hr : (decide (c < u) && decide (u ≤ c + l)) = r) (w : World) :
    Calls Tryz.prog 162 #[.int .i64 u, .int .i64 c, .int .i64 l] w fun e w' => e = .returned (.bool r) ∧ w' = w := by
  by_cases h1 : c < u
  · have e1 : IntKind.u64.wrap u = u := by rw [IntKind.wrap_u64]; omega
    have e2 : IntKind.u64.wrap c = c := by rw [IntKind.wrap_u64]; omega
    have e3 : IntKind.u64.wrap l = l := by rw [IntKind.wrap_u64]; omega
    have e4 : IntKind.u64.wrap (u - c) = u - c := by rw [IntKind.wrap_u64]; omega
    by_cases h2 : u - c ≤ l
    · have hr' : r = true := by rw [← hr]; simp [h1]; omega
      subst hr'
      clear hr
      go_enter Tryz.func162, Tryz.ntmps162
      go_wp2
      go_ret
      exact ⟨by simp [e1, e2, e3, e4, h2], rfl⟩
    · have hr' : r = false := by rw [← hr]; simp [h1]; omega
      subst hr'
      clear hr
      go_enter Tryz.func162, Tryz.ntmps162
      go_wp2
      go_ret
      exact ⟨by simp [e1, e2, e3, e4, h2], rfl⟩
  · have hr' : r = false := by rw [← hr]; simp [h1]
    subst hr'
    clear hr
    go_enter Tryz.func162, Tryz.ntmps162
    go_wp2
    go_ret
    exact ⟨rfl, rfl⟩
set_option maxRecDepth 100000 in
set_option maxHeartbeats 1000000 in
theorem rising_any (v : Value) (l : List Int) (low high : Int) (w : World) (h : RI w v l) : Calls Tryz.prog 149 #[v, .int .i64 low, .int .i64 high] w fun e w' => e = .returned (.bool (ackB high low l)) ∧ w' = w := by
  have HV := Lib.hid h
  obtain ⟨A, c, rfl, hc1, hc2⟩ := h.shape
  unfold maxLen at hc2
  clear h
  generalize hr : ackB high low l = r
  have HR := Lib.hid hr
  clear hr
  go_enter Tryz.func149, Tryz.ntmps149
  go_wp2
  go_loopw [1, 11] (fun lo i wr => ∃ (k : Nat) (a : Int), k ≤ l.length ∧ i = .int .i64 k ∧ lo = .int .i64 a ∧ ackB high a (l.drop k) = r ∧ wr = w) (fun _ i _ => l.length - (intOf i).toNat)
  case atStart => exact ⟨0, low, Nat.zero_le _, rfl, rfl, by rw [List.drop_zero]; exact HR.out, rfl⟩
  case round =>
    obtain ⟨k, a, hk, rfl, rfl, hak, rfl⟩ := hrel
    by_cases hlt : k < l.length
    · have q1 : (k : Int) < (l.length : Int) := by omega
      obtain ⟨b, off, hA, hcell⟩ := ri_at HV.out hlt
      subst hA
      rw [ackB_drop hlt] at hak
      obtain ⟨n, hn⟩ : ∃ n, n = l[k] := ⟨_, rfl⟩
      rw [← hn] at hcell hak
      have HAK := Lib.hid hak
      clear hn hak
      by_cases h1 : n ≤ a
      · have HE := Lib.hid (show r = false by rw [← HAK.out]; simp; intro h; omega)
        go_wp2
        go_ret
        exact ⟨by rw [HE.out] <;> rfl, rfl⟩
      · by_cases h2 : high ≤ n
        · have HE := Lib.hid (show r = false by rw [← HAK.out]; simp; intro _ h; omega)
          go_wp2
          go_ret
          exact ⟨by rw [HE.out] <;> rfl, rfl⟩
        · have HN := Lib.hid (show ackB high n (l.drop (k + 1)) = r by rw [← HAK.out]; simp [show a < n by omega, show n < high by omega])
          go_wp2
          go_roundw
          case rel => exact ⟨k + 1, n, by omega, by go_num, by first | rfl | trivial, HN.out, by first | rfl | trivial⟩
          case measure => simp [intOf]; omega
    · have q1 : ¬ (k : Int) < (l.length : Int) := by omega
      have HE := Lib.hid (show r = true by rw [← hak, List.drop_of_length_le (by omega)]; rfl)
      clear hak
      go_wp2
      go_ret
      exact ⟨by rw [HE.out] <;> rfl, rfl⟩
set_option maxRecDepth 100000 in
set_option maxHeartbeats 1000000 in
theorem indexI_any (v : Value) (l : List Int) (n : Int) (w : World) (h : RI w v l) : Calls Tryz.prog 161 #[v, .int .i64 n] w fun e w' => ∃ i : Int, e = .returned (.int .i64 i) ∧ decide (0 ≤ i) = l.contains n ∧ w' = w := by
  have HV := Lib.hid h
  obtain ⟨A, c, rfl, hc1, hc2⟩ := h.shape
  unfold maxLen at hc2
  clear h
  go_enter Tryz.func161, Tryz.ntmps161
  go_wp2
  go_loopw [8] (fun i wr => ∃ k : Nat, k ≤ l.length ∧ i = .int .i64 k ∧ (l.take k).contains n = false ∧ wr = w) (fun i _ => l.length - (intOf i).toNat)
  case atStart => exact ⟨0, Nat.zero_le _, rfl, rfl, rfl⟩
  case round =>
    obtain ⟨k, hk, rfl, hno, rfl⟩ := hrel
    by_cases hlt : k < l.length
    · have q1 : (k : Int) < (l.length : Int) := by omega
      obtain ⟨b, off, hA, hcell⟩ := ri_at HV.out hlt
      subst hA
      have hct := contains_take hlt n
      rw [hno, Bool.false_or] at hct
      have hin : l[k] = n → l.contains n = true := fun e => by rw [List.contains_iff_mem, ← e]; exact List.getElem_mem hlt
      obtain ⟨m, hm⟩ : ∃ m, m = l[k] := ⟨_, rfl⟩
      rw [← hm] at hcell hct hin
      have HCT := Lib.hid hct
      have HIN := Lib.hid hin
      clear hm hct hin hno
      by_cases he : m = n
      · have q2 : (n == m) = true := by simp [he]
        have q3 : (m == n) = true := by simp [he]
        have HE := Lib.hid (HIN.out he)
        clear he
        go_wp2
        go_ret
        exact ⟨k, rfl, by rw [HE.out]; simp, rfl⟩
      · have q2 : (n == m) = false := by simp; exact fun e => he e.symm
        have q3 : (m == n) = false := by simp [he]
        have HN := Lib.hid (show (l.take (k + 1)).contains n = false by rw [HCT.out]; exact q3)
        clear he
        go_wp2
        go_roundw
        case rel => exact ⟨k + 1, by omega, by go_num, HN.out, by first | rfl | trivial⟩
        case measure => simp [intOf]; omega
    · have q1 : ¬ (k : Int) < (l.length : Int) := by omega
      have HE := Lib.hid (show l.contains n = false by rw [List.take_of_length_le (by omega)] at hno; exact hno)
      clear hno
      go_wp2
      go_ret
      refine ⟨-1, rfl, ?_, rfl⟩
      have := HE.out
      simp at this ⊢
      exact this
set_option maxRecDepth 100000 in
set_option maxHeartbeats 1000000 in
theorem containsI_any (v : Value) (l : List Int) (n : Int) (w : World) (h : RI w v l) : Calls Tryz.prog 150 #[v, .int .i64 n] w fun e w' => e = .returned (.bool (l.contains n)) ∧ w' = w := by
  have HI := Lib.hid (indexI_any v l n w h)
  obtain ⟨A, c, rfl, _⟩ := h.shape
  generalize l.contains n = r at HI ⊢
  clear h
  go_enter Tryz.func150, Tryz.ntmps150
  go_wp2_with fail
  refine HI.out.mono ?_
  rintro e w' ⟨i, rfl, hi, rfl⟩
  by_cases h0 : (0 : Int) ≤ i
  · have HR := Lib.hid (show r = true by rw [← hi]; simp [h0])
    clear hi
    go_wp2
    go_ret
    exact ⟨by rw [HR.out] <;> simp [h0], rfl⟩
  · have HR := Lib.hid (show r = false by rw [← hi]; simp; omega)
    clear hi
    go_wp2
    go_ret
    exact ⟨by rw [HR.out] <;> simp; omega, rfl⟩
end Go.Proofs.YtodckdkbheapfaaGreat
