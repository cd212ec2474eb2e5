/-
  The contract of slices.EqualFunc of pages, with bytes.Equal.
-/
import Derived.Test.YtbacdeogggcbfaaGWords
import Derived.Test.YtbacdeogggcbfaaCEqual
namespace Go.Proofs.Ytbacdeogggcbfaa
open Go.RowKit Go.Rst Go.Crc
abbrev eqVal : Value := .func (.func 29) #[] #[]

set_option maxRecDepth 100000 in
set_option maxHeartbeats 1600000 in
theorem eqF_any (va vb : Value) (ps qs : List (List UInt8)) (w : World) (ha : RP w va ps) (hb : RP w vb qs) :
    Calls Try.prog 28 #[va, vb, eqVal] w fun e w' => e = .returned (.bool (decide (ps = qs))) ∧ w = w' := by
  have HA := Lib.hid ha
  have HB := Lib.hid hb
  obtain ⟨A1, c1, rfl, hl1, hc1, _⟩ := ha
  obtain ⟨A2, c2, rfl, hl2, hc2, _⟩ := hb
  unfold maxLen at hc1 hc2
  by_cases hlen : ps.length = qs.length
  · have hbne : ((ps.length : Int) != (qs.length : Int)) = false := by simp [hlen]
    have HL := Lib.hid hlen
    clear hlen
    go_enter Try.func28, Try.ntmps28
    go_wp2
    go_loopw [17] (fun i wr => ∃ k : Nat, k ≤ ps.length ∧ i = .int .i64 k ∧ ps.take k = qs.take k ∧ w = wr) (fun i _ => ps.length - (intOf i).toNat)
    case atStart => exact ⟨0, Nat.zero_le _, rfl, rfl, rfl⟩
    case round =>
      obtain ⟨k, hk, rfl, htk, rfl⟩ := hrel
      have HTK := Lib.hid htk
      clear htk
      by_cases hlt : k < ps.length
      · have hlq : k < qs.length := by rw [← HL.out]; exact hlt
        obtain ⟨b1, o1, u1, rfl, hb1, hx1, hr1⟩ := rp_at HA.out hlt
        obtain ⟨b2, o2, u2, rfl, hb2, hx2, hr2⟩ := rp_at HB.out hlq
        have hcall := equal_any u1 u2 _ _ w hr1 hr2
        obtain ⟨A3, c3, hu1, _⟩ := hr1
        obtain ⟨A4, c4, hu2, _⟩ := hr2
        obtain ⟨n1, hn1⟩ : ∃ n, n = ps[k].length := ⟨_, rfl⟩
        obtain ⟨n2, hn2⟩ : ∃ n, n = qs[k].length := ⟨_, rfl⟩
        rw [← hn1] at hu1
        rw [← hn2] at hu2
        subst hu1
        subst hu2
        have q1 : (0 : Int) ≤ (k : Int) := by omega
        have q2 : (k : Int) < ps.length := by omega
        have q3 : (k : Int) < qs.length := by omega
        cases he : (ps[k] == qs[k]) with
        | false =>
          rw [he] at hcall
          have E := Lib.hid (show decide (ps = qs) = false by
            rw [decide_eq_false_iff_not]
            intro h
            have : ps[k] = qs[k] := by simp only [h]
            rw [this] at he
            simp at he)
          have HC := Lib.hid hcall
          clear hcall he hn1 hn2
          go_wp2_with fail
          refine HC.out.mono ?_
          rintro e w' ⟨rfl, rfl⟩
          go_wp2
          go_ret
          rw [E.out]
          exact ⟨rfl, rfl⟩
        | true =>
          rw [he] at hcall
          have HE := Lib.hid (show ps.take (k + 1) = qs.take (k + 1) by
            rw [List.take_succ_eq_append_getElem hlt, List.take_succ_eq_append_getElem hlq, HTK.out, eq_of_beq he])
          have HC := Lib.hid hcall
          clear hcall he hn1 hn2
          go_wp2_with fail
          refine HC.out.mono ?_
          rintro e w' ⟨rfl, rfl⟩
          go_wp2
          go_roundw
          case rel => exact ⟨k + 1, by omega, by go_num, HE.out, by first | rfl | trivial⟩
          case measure => simp [intOf]; omega
      · obtain rfl : k = ps.length := by omega
        have E := Lib.hid (show decide (ps = qs) = true by
          rw [decide_eq_true_iff]
          have := HTK.out
          rw [List.take_length, HL.out, List.take_length] at this
          exact this)
        go_wp2
        go_ret
        rw [E.out]
        exact ⟨rfl, rfl⟩
  · have hbne : ((ps.length : Int) != (qs.length : Int)) = true := by simp; omega
    have E := Lib.hid (show decide (ps = qs) = false by
      rw [decide_eq_false_iff_not]
      intro h
      exact hlen (by rw [h]))
    clear hlen
    go_enter Try.func28, Try.ntmps28
    go_wp2
    go_ret
    rw [E.out]
    exact ⟨rfl, rfl⟩
end Go.Proofs.Ytbacdeogggcbfaa
