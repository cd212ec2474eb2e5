/-
  The contracts of the reference's GetNum and GetText: they tell what the plain functions getNum and getText tell, at any place of any bytes.
-/
import Derived.Test.YtomkbgghljcbfaaGWords
namespace Go.Proofs.Ytomkbgghljcbfaa
open Go.RowKit Go.Rst

theorem getNum_out {l : List UInt8} {p : Int} (h : p < 0 ∨ (l.length : Int) < p) : getNum l p = (0, 0, 10) := by
  unfold getNum
  rw [gnumF, if_pos (by omega)]

set_option maxRecDepth 100000 in
set_option maxHeartbeats 800000 in
theorem refGetNum_any (v : Value) (l : List UInt8) (p : Int) (w : World) (hv : RB w v l) : Calls Try.prog 95 #[v, .int .i64 p] w fun e w' => e = .returned (.tuple #[.int .i64 (getNum l p).1, .int .i64 (getNum l p).2.1, .int .i64 (getNum l p).2.2]) ∧ w = w' := by
  obtain ⟨A, c, rfl, hlc, hc, hcells⟩ := hv
  have HC := Lib.hid hcells
  clear hcells
  unfold maxLen at hc
  rcases (show p < 0 ∨ (0 ≤ p ∧ (l.length : Int) < p) ∨ (0 ≤ p ∧ p ≤ l.length) from by omega) with hp | ⟨hp0, hp⟩ | ⟨hp0, hp⟩
  · have E := Lib.hid (getNum_out (l := l) (p := p) (.inl hp))
    go_enter Try.func95, Try.ntmps95
    go_wp2
    go_ret3
    rw [E.out]
    exact ⟨rfl, rfl⟩
  · have E := Lib.hid (getNum_out (l := l) (p := p) (.inr hp))
    go_enter Try.func95, Try.ntmps95
    go_wp2
    go_ret3
    rw [E.out]
    exact ⟨rfl, rfl⟩
  · obtain ⟨p, rfl⟩ := Int.eq_ofNat_of_zero_le hp0
    go_enter Try.func95, Try.ntmps95
    go_wp2
    go_loop [7, 8, 9] (fun n u i => ∃ (k acc U : Nat), k ≤ 8 ∧ i = .int .i64 k ∧ n = .int .i64 acc ∧ u = .int .i64 U ∧ U = 128 ^ k ∧ acc < 128 ^ k ∧ p + k ≤ l.length ∧ gnumF l (8 - k) k acc ((p + k : Nat) : Int) = getNum l p)
      (fun _ _ i => 8 - (intOf i).toNat)
    case atStart => exact ⟨0, 0, 1, by omega, rfl, rfl, rfl, rfl, by decide, by omega, rfl⟩
    case round =>
      obtain ⟨k, acc, U, hk, rfl, rfl, rfl, hU, hacc, hpk, heq⟩ := hrel
      have H := Lib.hid heq
      have HA := Lib.hid hacc
      have HU := Lib.hid hU
      clear heq hacc hU
      by_cases hlt : k < 8
      · by_cases hend : p + k = l.length
        · have e : getNum l p = (0, 0, 10) := by rw [← H.out, show 8 - k = (7 - k) + 1 from by omega, gnumF, if_pos (.inr (by omega))]
          have E := Lib.hid e
          have hb : (((p : Int) + (k : Int)) == (l.length : Int)) = true := by rw [beq_iff_eq]; omega
          clear e hend
          go_wp2
          go_ret3
          rw [E.out]
          exact ⟨rfl, rfl⟩
        · have hm : p + k < l.length := by omega
          have hb : (((p : Int) + (k : Int)) == (l.length : Int)) = false := by rw [beq_eq_false_iff_ne]; omega
          obtain ⟨b, off, rfl, hbw, hcell⟩ : ∃ b off, A = some ⟨b, off, none⟩ ∧ b < w.heap.size ∧ ∀ j (h : j < l.length), w.cell? ⟨b, off + j, none⟩ = some (bv l[j]) := by
            rcases HC.out with rfl | h
            · simp at hm
            · exact h
          have hc1 := hcell (p + k) hm
          obtain ⟨d, hd⟩ : ∃ d, d = l[p + k].toNat := ⟨_, rfl⟩
          have hd' : d < 256 := by rw [hd]; exact l[p + k].toNat_lt
          unfold bv at hc1
          rw [← hd] at hc1
          have HD := Lib.hid hd
          clear hd hcell hend
          have hgd : (l.getD (Int.toNat ((p + k : Nat) : Int)) 0).toNat = d := by rw [Int.toNat_natCast, List.getD_eq_getElem?_getD, List.getElem?_eq_getElem hm, HD.out]; rfl
          have hUle : U ≤ 2 ^ 49 := by
            rw [HU.out, show (128 : Nat) ^ k = 2 ^ (7 * k) by rw [Nat.pow_mul]]
            exact Nat.pow_le_pow_right (by decide) (by omega)
          have hpr : d % 128 * U ≤ 127 * 2 ^ 49 := Nat.mul_le_mul (by omega) hUle
          have haccU : acc < U := by rw [HU.out]; exact HA.out
          have hpi : (d : Int) % 128 * (U : Int) = ((d % 128 * U : Nat) : Int) := by rw [Int.natCast_mul]; rfl
          obtain ⟨N, hN⟩ : ∃ N, N = acc + d % 128 * U := ⟨_, rfl⟩
          have hNlt : N < 128 ^ (k + 1) := by
            rw [hN, Nat.pow_succ, ← HU.out]
            have h2 : d % 128 * U ≤ 127 * U := Nat.mul_le_mul_right _ (by omega)
            omega
          have hstep : gnumF l (8 - k) k acc ((p + k : Nat) : Int) = if 128 ≤ d then gnumF l (7 - k) (k + 1) N ((p + k + 1 : Nat) : Int) else if (d = 0 ∧ 0 < k) ∨ 9007199254740992 < N then (0, 0, 11) else ((N : Int), ((p + k : Nat) : Int) + 1, 0) := by
            rw [show 8 - k = (7 - k) + 1 from by omega, gnumF, if_neg (by omega), hgd, hN, HU.out]
            rfl
          rw [hstep] at H
          have HNL := Lib.hid hNlt
          have hx : (d : Int) % 128 * (U : Int) = (N : Int) - (acc : Int) := by rw [hpi, hN]; omega
          have hNb : N ≤ 2 ^ 50 + 127 * 2 ^ 49 := by omega
          clear hgd HA HD hN hNlt hstep HC hpr hpi
          by_cases hge : 128 ≤ d
          · rw [if_pos hge] at H
            go_wp2
            go_round
            case rel => exact ⟨k + 1, N, U * 128, by omega, by go_num, by go_num, by go_num, by rw [HU.out, Nat.pow_succ], HNL.out, by omega, by rw [show 8 - (k + 1) = 7 - k from by omega]; exact H.out⟩
            case measure => simp [intOf]; omega
          · rw [if_neg hge] at H
            by_cases hz : d = 0 ∧ 0 < k
            · have E := Lib.hid (show getNum l p = (0, 0, 11) by rw [← H.out, if_pos (.inl hz)])
              obtain ⟨rfl, hk0⟩ := hz
              clear H
              go_wp2
              go_ret3
              rw [E.out]
              exact ⟨rfl, rfl⟩
            · by_cases hbig : 9007199254740992 < N
              · have E := Lib.hid (show getNum l p = (0, 0, 11) by rw [← H.out, if_pos (.inr hbig)])
                have hbig' : (9007199254740992 : Int) < (N : Int) := by omega
                clear hbig H
                rcases (show ((d : Int) == 0) = false ∨ (((d : Int) == 0) = true ∧ (k : Int) ≤ 0) from by
                  by_cases h : d = 0
                  · exact .inr ⟨by simp [h], by omega⟩
                  · exact .inl (by simp; omega)) with hd0 | ⟨hd0, hk0⟩
                all_goals
                  go_wp2
                  go_ret3
                  rw [E.out]
                  exact ⟨rfl, rfl⟩
              · have E := Lib.hid (show getNum l p = ((N : Int), ((p + k : Nat) : Int) + 1, 0) by rw [← H.out, if_neg (by omega)])
                have hbig' : (N : Int) ≤ (9007199254740992 : Int) := by omega
                clear hbig H
                rcases (show ((d : Int) == 0) = false ∨ (((d : Int) == 0) = true ∧ (k : Int) ≤ 0) from by
                  by_cases h : d = 0
                  · exact .inr ⟨by simp [h], by omega⟩
                  · exact .inl (by simp; omega)) with hd0 | ⟨hd0, hk0⟩
                all_goals
                  go_wp2
                  go_ret3
                  rw [E.out]
                  exact ⟨by simp; omega, rfl⟩
      · go_wp2
        go_ret3
        have e : getNum l p = (0, 0, 11) := by rw [← H.out, show 8 - k = 0 from by omega, gnumF]
        rw [e]
        exact ⟨rfl, rfl⟩
end Go.Proofs.Ytomkbgghljcbfaa
