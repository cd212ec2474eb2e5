/-
  The contracts of the document's own Right and Pattern (layer topic).
-/
import Derived.Test.YtcmkmdghekkkhaaDoorTpSplit
set_option linter.unusedVariables false
namespace Go.Proofs.YtcmkmdghekkkhaaDoor
open Go.RowKit Go.Rst Go.Tp
/-- Texts of a call's own, as they read. -/
theorem own_str {w : World} {base : Nat} {A : Option Addr} {n c k : Nat} {ps : List (List UInt8)} (h : w.ownsRow base 9 1 (.slice A n c) n (svs ps)) (hk : k < ps.length) :
    ∃ g, A = some ⟨g, 0, none⟩ ∧ g < w.heap.size ∧ w.cell? ⟨g, k, none⟩ = some (.string ⟨ps[k].toArray⟩) := by
  have hn : (svs ps).length = n * 1 := h.1
  rw [svs_length, Nat.mul_one] at hn
  obtain ⟨m, rfl⟩ : ∃ m, n = m + 1 := ⟨n - 1, by omega⟩
  obtain ⟨g, c', hv, hb, hg, _⟩ := own_addr' h
  injection hv with e1 e2 e3
  subst e1
  refine ⟨g, rfl, hg, ?_⟩
  rw [h.cellAt k (by omega)]
  simp [svs, hk]
theorem all_take_succ' {ps : List (List UInt8)} {k : Nat} (hk : k < ps.length) (f : List UInt8 → Bool) : (ps.take (k + 1)).all f = ((ps.take k).all f && f ps[k]) := by
  rw [List.take_succ_eq_append_getElem hk, List.all_append]
  simp
set_option maxRecDepth 100000 in
set_option maxHeartbeats 1000000 in
theorem right_any (l : List UInt8) (hl : l.length ≤ 1000000) (w : World) : Calls Tryd.prog 91 #[sv l] w fun e w' => e = .returned (.bool (rightB l)) ∧ Below w.heap.size w w' := by
  go_enter Tryd.func91, Tryd.ntmps91
  have HSP := Lib.hid (split_any 47 l hl w)
  go_wp2_with fail
  go_at_call 93
  refine HSP.out.mono ?_
  rintro e w1 ⟨v, rfl, hown, hb⟩
  obtain ⟨A, c, rfl, _⟩ := own_shape hown
  obtain ⟨ps, hps⟩ : ∃ ps, ps = splitL 47 l := ⟨_, rfl⟩
  have hlen := fun p (hp : p ∈ ps) => splitL_mem 47 l p (by rw [← hps]; exact hp)
  have hpl := splitL_len 47 l
  rw [← hps] at hown hpl ⊢
  have hr : rightB l = (ps.all wordB && decide (l.length ≤ 30)) := by unfold rightB; rw [← hps]
  have HR := Lib.hid hr
  have HOW := Lib.hid hown
  have HB := Lib.hid hb
  have HLEN := Lib.hid hlen
  clear hown hb hlen hr hps
  go_wp2_with fail
  go_loopw [4] (fun i wr => ∃ k : Nat, k ≤ ps.length ∧ i = .int .i64 k ∧ (ps.take k).all wordB = true ∧ wr = w1) (fun i _ => ps.length - (intOf i).toNat)
  case atStart => exact ⟨0, Nat.zero_le _, rfl, by simp, rfl⟩
  case round =>
    obtain ⟨k, hk, rfl, hall, rfl⟩ := hrel
    have HALL := Lib.hid hall
    clear hall
    by_cases hlt : k < ps.length
    · obtain ⟨g, rfl, hg, hcell⟩ := own_str HOW.out hlt
      obtain ⟨p, hp⟩ : ∃ p, p = ps[k] := ⟨_, rfl⟩
      rw [← hp] at hcell
      have HP := Lib.hid hp
      have HW := Lib.hid (word_any p (by have := HLEN.out p (by rw [hp]; exact List.getElem_mem hlt); omega) wr)
      have q1 : (k : Int) < (ps.length : Int) := by omega
      clear hp
      go_wp2_with fail
      go_at_call 94
      refine HW.out.mono ?_
      rintro e w2 ⟨rfl, rfl⟩
      cases hw : wordB p with
      | true =>
        have HWP := Lib.hid hw
        clear hw
        go_wp2
        go_roundw
        case rel => exact ⟨k + 1, by omega, by go_num, by rw [all_take_succ' hlt, HALL.out, Bool.true_and, ← HP.out, HWP.out], trivial⟩
        case measure => simp [intOf]; omega
      | false =>
        have e : rightB l = false := by
          rw [HR.out, List.all_eq_false.2 ⟨ps[k], List.getElem_mem hlt, by rw [← HP.out, hw]; simp⟩, Bool.false_and]
        have HE := Lib.hid e
        clear e hw
        go_wp2
        go_ret
        exact ⟨by rw [HE.out]; rfl, HB.out⟩
    · obtain rfl : k = ps.length := by omega
      have q1 : ¬ (ps.length : Int) < (ps.length : Int) := by omega
      have e : rightB l = decide (l.length ≤ 30) := by
        have h := HALL.out
        rw [List.take_length] at h
        rw [HR.out, h, Bool.true_and]
      have HE := Lib.hid e
      clear e
      go_wp2
      go_ret
      exact ⟨by rw [HE.out]; first | rfl | (simp; done) | (simp; omega), HB.out⟩
end Go.Proofs.YtcmkmdghekkkhaaDoor
