/-
  The contracts of code.GetNum and code.GetText: at any place of any bytes they tell what the plain functions getNum and getText tell, and change nothing.
-/
import Derived.Test.YtomkbgghljcbfaaGNum
namespace Go.Proofs.Ytomkbgghljcbfaa
open Go.RowKit Go.Rst

set_option maxRecDepth 100000 in
set_option maxHeartbeats 400000 in
theorem getNum_any (v : Value) (l : List UInt8) (p : Int) (w : World) (hv : RB w v l) : Calls Try.prog 91 #[v, .int .i64 p] w fun e w' => e = .returned (.tuple #[.int .i64 (getNum l p).1, .int .i64 (getNum l p).2.1, .int .u16 (getNum l p).2.2]) ∧ w = w' := by
  obtain ⟨A, c, rfl, hlc, hc, hcells⟩ := hv
  have HC := Lib.hid hcells
  clear hcells
  go_enter Try.func91, Try.ntmps91
  go_wp2
  refine wp_scope_fwd 0 rfl ?_
  go_wp2
  go_loop [1, 7, 8, 11] (fun x n e i => ∃ (k acc : Nat) (q : Int), k ≤ 8 ∧ i = .int .i64 k ∧ e = .int .u16 11 ∧ n = .int .i64 acc ∧ (k = 0 ∨ 0 ≤ q) ∧ x = .int .i64 q ∧ acc < 128 ^ k ∧ gnumF l (8 - k) k acc q = getNum l p)
    (fun _ _ _ i => 8 - (intOf i).toNat)
  case atStart => exact ⟨0, 0, p, by omega, rfl, rfl, rfl, .inl rfl, rfl, by decide, rfl⟩
  case round =>
    obtain ⟨k, acc, q, hk, rfl, rfl, rfl, hq, rfl, hacc, heq⟩ := hrel
    have H := Lib.hid heq
    have HA := Lib.hid hacc
    clear heq hacc
    unfold maxLen at hc
    by_cases hlt : k < 8
    · rcases (show q < 0 ∨ (0 ≤ q ∧ (l.length : Int) ≤ q) ∨ (0 ≤ q ∧ q < l.length) from by omega) with hin | ⟨h0, hin⟩ | ⟨h0, hin⟩
      · go_wp2
        go_step3
        refine ⟨rfl, ?_⟩
        unfold Behind
        go_wp2
        rw [Exit.noGoto_ret]
        go_ret3
        have e : getNum l p = (0, 0, 10) := by rw [← H.out, show 8 - k = (7 - k) + 1 from by omega, gnumF, if_pos (.inl hin)]
        rw [e]
        exact ⟨rfl, rfl⟩
      · go_wp2
        go_step3
        refine ⟨rfl, ?_⟩
        unfold Behind
        go_wp2
        rw [Exit.noGoto_ret]
        go_ret3
        have e : getNum l p = (0, 0, 10) := by rw [← H.out, show 8 - k = (7 - k) + 1 from by omega, gnumF, if_pos (.inr hin)]
        rw [e]
        exact ⟨rfl, rfl⟩
      · obtain ⟨m, rfl⟩ := Int.eq_ofNat_of_zero_le h0
        have hm : m < l.length := by omega
        obtain ⟨b, off, rfl, hb, hcell⟩ : ∃ b off, A = some ⟨b, off, none⟩ ∧ b < w.heap.size ∧ ∀ j (h : j < l.length), w.cell? ⟨b, off + j, none⟩ = some (bv l[j]) := by
          rcases HC.out with rfl | h
          · simp at hm
          · exact h
        have hc1 := hcell m hm
        obtain ⟨d, hd⟩ : ∃ d, d = l[m].toNat := ⟨_, rfl⟩
        have hd' : d < 256 := by rw [hd]; exact l[m].toNat_lt
        unfold bv at hc1
        rw [← hd] at hc1
        have HD := Lib.hid hd
        clear hd hcell
        have hgd : (l.getD (Int.toNat (m : Int)) 0).toNat = d := by rw [Int.toNat_natCast, List.getD_eq_getElem?_getD, List.getElem?_eq_getElem hm, HD.out]; rfl
        have hbits := digit_up hd' hlt HA.out
        obtain ⟨N, hN⟩ : ∃ N, N = acc + d % 128 * 128 ^ k := ⟨_, rfl⟩
        rw [← hN] at hbits
        have hNlt : N < 128 ^ (k + 1) := by
          rw [hN, Nat.pow_succ]
          have h1 := HA.out
          have h2 : d % 128 * 128 ^ k ≤ 127 * 128 ^ k := Nat.mul_le_mul_right _ (by omega)
          omega
        have hstep : gnumF l (8 - k) k acc (m : Int) = if 128 ≤ d then gnumF l (7 - k) (k + 1) N (m + 1) else if (d = 0 ∧ 0 < k) ∨ 9007199254740992 < N then (0, 0, 11) else ((N : Int), (m : Int) + 1, 0) := by
          rw [show 8 - k = (7 - k) + 1 from by omega, gnumF, if_neg (by omega), hgd, hN]
        rw [hstep] at H
        have HNL := Lib.hid hNlt
        clear hgd HA HD hN hNlt hstep HC
        by_cases hge : 128 ≤ d
        · rw [if_pos hge] at H
          go_wp2
          go_round
          case rel => exact ⟨k + 1, N, (m : Int) + 1, by omega, by go_num, rfl, rfl, by omega, rfl, HNL.out, by rw [show 8 - (k + 1) = 7 - k from by omega]; exact H.out⟩
          case measure => simp [intOf]; omega
        · rw [if_neg hge] at H
          by_cases hz : d = 0 ∧ 0 < k
          · have e : getNum l p = (0, 0, 11) := by rw [← H.out, if_pos (.inl hz)]
            have E := Lib.hid e
            obtain ⟨rfl, hk0⟩ := hz
            clear e H
            go_wp2
            go_step3
            refine ⟨rfl, ?_⟩
            unfold Behind
            go_wp2
            rw [Exit.noGoto_ret]
            go_ret3
            rw [E.out]
            exact ⟨rfl, rfl⟩
          · by_cases hbig : 9007199254740992 < N
            · have e : getNum l p = (0, 0, 11) := by rw [← H.out, if_pos (.inr hbig)]
              have E := Lib.hid e
              clear e H
              have hbig' : (9007199254740992 : Int) < (N : Int) := by omega
              clear hbig
              rcases (show ((d : Int) == 0) = false ∨ (((d : Int) == 0) = true ∧ (k : Int) ≤ 0) from by
                by_cases h : d = 0
                · exact .inr ⟨by simp [h], by omega⟩
                · exact .inl (by simp; omega)) with hd0 | ⟨hd0, hk0⟩
              all_goals
                go_wp2
                go_step3
                refine ⟨rfl, ?_⟩
                unfold Behind
                go_wp2
                rw [Exit.noGoto_ret]
                go_ret3
                rw [E.out]
                exact ⟨rfl, rfl⟩
            · have e : getNum l p = ((N : Int), (m : Int) + 1, 0) := by rw [← H.out, if_neg (by omega)]
              have E := Lib.hid e
              clear e H
              have hbig' : (N : Int) ≤ (9007199254740992 : Int) := by omega
              clear hbig
              rcases (show ((d : Int) == 0) = false ∨ (((d : Int) == 0) = true ∧ (k : Int) ≤ 0) from by
                by_cases h : d = 0
                · exact .inr ⟨by simp [h], by omega⟩
                · exact .inl (by simp; omega)) with hd0 | ⟨hd0, hk0⟩
              all_goals
                go_wp2
                simp only [Exit.jump]
                go_ret3
                rw [E.out]
                exact ⟨rfl, rfl⟩
    · go_wp2
      go_step3
      go_wp2
      simp only [Exit.jump]
      go_ret3
      have e : getNum l p = (0, 0, 11) := by rw [← H.out, show 8 - k = 0 from by omega, gnumF]
      rw [e]
      exact ⟨rfl, rfl⟩

set_option maxRecDepth 100000 in
set_option maxHeartbeats 400000 in
theorem getText_any (v : Value) (l : List UInt8) (p most : Int) (w : World) (hv : RB w v l) : Calls Try.prog 92 #[v, .int .i64 p, .int .i64 most] w fun e w' => e = .returned (.tuple #[.string ⟨(getText l p most).1.toArray⟩, .int .i64 (getText l p most).2.1, .int .u16 (getText l p most).2.2]) ∧ w = w' := by
  have hv0 := hv
  obtain ⟨A, c, rfl, hlc, hc, hcells⟩ := hv
  have HC := Lib.hid hcells
  clear hcells
  unfold maxLen at hc
  have hspec := getNum_spec l p
  obtain ⟨n, q, er, hg⟩ : ∃ n q er, getNum l p = (n, q, er) := ⟨_, _, _, rfl⟩
  have HG := Lib.hid hg
  have hcall := getNum_any _ l p w hv0
  rw [hg] at hcall hspec
  have HK := Lib.hid hcall
  have HV := Lib.hid hv0
  clear hg hcall hv0
  rcases hspec with ⟨rfl, h1, h2, h3, h4, h5⟩ | ⟨her, rfl, rfl⟩
  · by_cases hm : most < n
    · have e : getText l p most = ([], 0, 3) := by unfold getText; rw [HG.out]; simp [hm]
      have E := Lib.hid e
      clear e
      go_enter Try.func92, Try.ntmps92
      go_wp2
      refine wp_scope_fwd 0 rfl ?_
      go_wp2_with fail
      refine HK.out.mono ?_
      rintro x w1 ⟨rfl, rfl⟩
      go_wp2
      go_step3
      refine ⟨rfl, ?_⟩
      unfold Behind
      go_wp2
      rw [Exit.noGoto_ret]
      go_ret3
      rw [E.out]
      exact ⟨rfl, rfl⟩
    · by_cases hs : (l.length : Int) - q < n
      · have e : getText l p most = ([], 0, 10) := by unfold getText; rw [HG.out]; simp [hm, hs]
        have E := Lib.hid e
        clear e
        go_enter Try.func92, Try.ntmps92
        go_wp2
        refine wp_scope_fwd 0 rfl ?_
        go_wp2_with fail
        refine HK.out.mono ?_
        rintro x w1 ⟨rfl, rfl⟩
        go_wp2
        go_step3
        refine ⟨rfl, ?_⟩
        unfold Behind
        go_wp2
        rw [Exit.noGoto_ret]
        go_ret3
        rw [E.out]
        exact ⟨rfl, rfl⟩
      · have e : getText l p most = ((l.drop q.toNat).take n.toNat, q + n, 0) := by unfold getText; rw [HG.out]; simp [hm, hs]
        have E := Lib.hid e
        clear e
        replace h4 : p < q := h4
        obtain ⟨n, rfl⟩ := Int.eq_ofNat_of_zero_le h1
        obtain ⟨q, rfl⟩ := Int.eq_ofNat_of_zero_le (show 0 ≤ q by omega)
        obtain ⟨b, off, rfl, hb, _⟩ : ∃ b off, A = some ⟨b, off, none⟩ ∧ b < w.heap.size ∧ ∀ j (h : j < l.length), w.cell? ⟨b, off + j, none⟩ = some (bv l[j]) := by
          rcases HC.out with rfl | h
          · simp at h5; omega
          · exact h
        have hr : RB w (.slice (some ⟨b, off + q, none⟩) n (c - q)) ((l.drop q).take n) := HV.out.cut (by omega)
        by_cases hcq : c = q
        · subst hcq
          obtain rfl : n = 0 := by omega
          have hcv := (RB.head (n := 0) HV.out (Nat.zero_le _)).str (P := Try.prog) (src := 23) (dst := 9) Try.underlying23 Try.underlying5 Try.underlying9
          rw [List.take_zero] at hcv
          have hcv2 : (convert 23 9 (.slice (some ⟨b, off, none⟩) 0 0)).run Try.prog w = .ok (.string ⟨[].toArray⟩) w := RB.str (P := Try.prog) ⟨_, 0, rfl, Nat.le_refl _, Nat.zero_le _, .inl rfl⟩ Try.underlying23 Try.underlying5 Try.underlying9
          clear hr HC
          go_enter Try.func92, Try.ntmps92
          go_wp2
          refine wp_scope_fwd 0 rfl ?_
          go_wp2_with fail
          refine HK.out.mono ?_
          rintro x w1 ⟨rfl, rfl⟩
          go_wp2
          simp only [Exit.jump]
          go_ret3
          rw [E.out]
          exact ⟨rfl, rfl⟩
        · have hcv := hr.str (P := Try.prog) (src := 23) (dst := 9) Try.underlying23 Try.underlying5 Try.underlying9
          clear hr HC
          go_enter Try.func92, Try.ntmps92
          go_wp2
          refine wp_scope_fwd 0 rfl ?_
          go_wp2_with fail
          refine HK.out.mono ?_
          rintro x w1 ⟨rfl, rfl⟩
          go_wp2
          simp only [Exit.jump]
          go_ret3
          rw [E.out]
          exact ⟨rfl, rfl⟩
  · have e : getText l p most = ([], 0, er) := by unfold getText; rw [HG.out]; rcases her with rfl | rfl <;> simp
    have E := Lib.hid e
    clear e
    have hne : (er != 0) = true := by rcases her with rfl | rfl <;> rfl
    have HE := Lib.hid her
    clear her
    go_enter Try.func92, Try.ntmps92
    go_wp2
    refine wp_scope_fwd 0 rfl ?_
    go_wp2_with fail
    refine HK.out.mono ?_
    rintro x w1 ⟨rfl, rfl⟩
    go_wp2
    go_step3
    refine ⟨rfl, ?_⟩
    unfold Behind
    go_wp2
    rw [Exit.noGoto_ret]
    go_ret3
    rw [E.out]
    exact ⟨rfl, rfl⟩
end Go.Proofs.Ytomkbgghljcbfaa
