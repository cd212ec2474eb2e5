/-
  The contract of the document's own Pattern (layer topic).
-/
import Derived.Test.YtcmkmdghekkkhaaDoorTpRight
set_option linter.unusedVariables false
namespace Go.Tp
open Go
def PatAt (ps : List (List UInt8)) (j : Nat) (h : j < ps.length) : Prop := wordB ps[j] = true ∨ ps[j] = [43] ∨ (ps[j] = [35] ∧ j + 1 = ps.length)
theorem patP_yes : ∀ (ps : List (List UInt8)), (∀ j (h : j < ps.length), PatAt ps j h) → patP ps = true
  | [], _ => rfl
  | [p], h => by
    rcases h 0 (by simp) with h | h | h
    · simp [patP]; simp at h; simp [h]
    · simp [patP]; simp at h; simp [h]
    · simp [patP]; simp at h; simp [h]
  | p :: q :: r, h => by
    have h0 := h 0 (by simp)
    have hr : patP (q :: r) = true := patP_yes (q :: r) fun j hj => by
      rcases h (j + 1) (by simp at hj ⊢; omega) with h | h | h
      · exact .inl (by simpa using h)
      · exact .inr (.inl (by simpa using h))
      · exact .inr (.inr ⟨by simpa using h.1, by have := h.2; simp at this ⊢; omega⟩)
    rw [patP, hr, Bool.and_true]
    · rcases h0 with h | h | h
      · simp at h; simp [h]
      · simp at h; simp [h]
      · have := h.2; simp at this
    · intro h; cases h
theorem patP_no : ∀ (ps : List (List UInt8)) (j : Nat) (h : j < ps.length), ¬ PatAt ps j h → patP ps = false
  | [], j, h, _ => by simp at h
  | [p], j, h, hn => by
    have e : j = 0 := by simp at h; omega
    subst e
    unfold PatAt at hn
    simp only [List.getElem_cons_zero, List.length_singleton, not_or, not_and] at hn
    simp only [patP]
    simp only [Bool.or_eq_false_iff, decide_eq_false_iff_not]
    exact ⟨⟨by simpa using hn.1, hn.2.1⟩, fun h => hn.2.2 h trivial⟩
  | p :: q :: r, 0, h, hn => by
    unfold PatAt at hn
    simp only [List.getElem_cons_zero, not_or] at hn
    rw [patP]
    · simp only [Bool.and_eq_false_iff, Bool.or_eq_false_iff, decide_eq_false_iff_not]
      exact .inl ⟨by simpa using hn.1, hn.2.1⟩
    · intro h; cases h
  | p :: q :: r, j + 1, h, hn => by
    have hr := patP_no (q :: r) j (by simp at h ⊢; omega) (fun h2 => hn (by
      rcases h2 with h | h | h
      · exact .inl (by simpa using h)
      · exact .inr (.inl (by simpa using h))
      · exact .inr (.inr ⟨by simpa using h.1, by have := h.2; simp at this ⊢; omega⟩)))
    rw [patP, hr, Bool.and_false]
    intro h; cases h
end Go.Tp
namespace Go.Proofs.YtcmkmdghekkkhaaDoor
open Go.RowKit Go.Rst Go.Tp
set_option maxRecDepth 100000 in
set_option maxHeartbeats 1000000 in
theorem pat_any (l : List UInt8) (hl : l.length ≤ 1000000) (w : World) : Calls Tryd.prog 72 #[sv l] w fun e w' => e = .returned (.bool (patB l)) ∧ Below w.heap.size w w' := by
  go_enter Tryd.func72, Tryd.ntmps72
  have HSP := Lib.hid (split_any 47 l hl w)
  go_wp2_with fail
  go_at_call 93
  refine HSP.out.mono ?_
  rintro e w1 ⟨v, rfl, hown, hb⟩
  obtain ⟨A, c, rfl, _⟩ := own_shape hown
  obtain ⟨ps, hps⟩ : ∃ ps, ps = splitL 47 l := ⟨_, rfl⟩
  have hlen := fun p (hp : p ∈ ps) => splitL_mem 47 l p (by rw [← hps]; exact hp)
  have hpl := splitL_len 47 l
  rw [← hps] at hown hpl ⊢
  have hr : patB l = (patP ps && decide (l.length ≤ 30)) := by unfold patB; rw [← hps]
  have HR := Lib.hid hr
  have HOW := Lib.hid hown
  have HB := Lib.hid hb
  have HLEN := Lib.hid hlen
  clear hown hb hlen hr hps
  go_wp2_with fail
  go_loopw [4] (fun i wr => ∃ k : Nat, k ≤ ps.length ∧ i = .int .i64 k ∧ (∀ j (h : j < ps.length), j < k → PatAt ps j h) ∧ wr = w1) (fun i _ => ps.length - (intOf i).toNat)
  case atStart => exact ⟨0, Nat.zero_le _, rfl, fun j _ h => by omega, rfl⟩
  case round =>
    obtain ⟨k, hk, rfl, hall, rfl⟩ := hrel
    have HALL := Lib.hid hall
    clear hall
    by_cases hlt : k < ps.length
    · obtain ⟨g, rfl, hg, hcell⟩ := own_str HOW.out hlt
      obtain ⟨p, hp⟩ : ∃ p, p = ps[k] := ⟨_, rfl⟩
      rw [← hp] at hcell
      have HP := Lib.hid hp
      have HW := Lib.hid (word_any p (by have := HLEN.out p (by rw [hp]; exact List.getElem_mem hlt); omega) wr)
      have q1 : (k : Int) < (ps.length : Int) := by omega
      clear hp
      go_wp2_with fail
      go_at_call 94
      refine HW.out.mono ?_
      rintro e w2 ⟨rfl, rfl⟩
      cases hw : wordB p with
      | true =>
        have HWP := Lib.hid hw
        clear hw
        go_wp2
        go_roundw
        case rel => exact ⟨k + 1, by omega, by go_num, fun j h hj => by
          by_cases e : j < k
          · exact HALL.out j h e
          · obtain rfl : j = k := by omega
            exact .inl (by rw [← HP.out]; exact HWP.out), trivial⟩
        case measure => simp [intOf]; omega
      | false =>
        have hwn := hw
        clear hw
        by_cases a1 : p = [43]
        · have A1 := Lib.hid a1
          have b1 : (p == [43]) = true := by rw [a1]; rfl
          clear hwn
          go_wp2
          go_roundw
          case rel => exact ⟨k + 1, by omega, by go_num, fun j h hj => by
            by_cases e : j < k
            · exact HALL.out j h e
            · obtain rfl : j = k := by omega
              exact .inr (.inl (by rw [← HP.out]; exact A1.out)), trivial⟩
          case measure => simp [intOf]; omega
        · have b1 : (p == [43]) = false := by simpa using a1
          by_cases a2 : p = [35]
          · have A2 := Lib.hid a2
            have b2 : (p == [35]) = true := by rw [a2]; rfl
            by_cases a3 : k + 1 = ps.length
            · have b3 : ((k : Int) == (ps.length : Int) - 1) = true := by simp; omega
              have A3 := Lib.hid a3
              clear a3 hwn
              go_wp2
              go_roundw
              case rel => exact ⟨k + 1, by omega, by go_num, fun j h hj => by
                by_cases e : j < k
                · exact HALL.out j h e
                · obtain rfl : j = k := by omega
                  exact .inr (.inr ⟨by rw [← HP.out]; exact A2.out, A3.out⟩), trivial⟩
              case measure => simp [intOf]; omega
            · have b3 : ((k : Int) == (ps.length : Int) - 1) = false := by simp; omega
              have e : patB l = false := by
                rw [HR.out, patP_no ps k hlt (fun h => by
                  unfold PatAt at h
                  rw [← HP.out] at h
                  rcases h with h | h | h
                  · rw [hwn] at h; cases h
                  · exact a1 h
                  · exact a3 h.2), Bool.false_and]
              clear hwn a3
              have HE := Lib.hid e
              clear e
              go_wp2
              go_ret
              exact ⟨by rw [HE.out]; rfl, HB.out⟩
          · have b2 : (p == [35]) = false := by simpa using a2
            have e : patB l = false := by
              rw [HR.out, patP_no ps k hlt (fun h => by
                unfold PatAt at h
                rw [← HP.out] at h
                rcases h with h | h | h
                · rw [hwn] at h; cases h
                · exact a1 h
                · exact a2 h.1), Bool.false_and]
            clear hwn
            have HE := Lib.hid e
            clear e
            go_wp2
            go_ret
            exact ⟨by rw [HE.out]; rfl, HB.out⟩
    · obtain rfl : k = ps.length := by omega
      have q1 : ¬ (ps.length : Int) < (ps.length : Int) := by omega
      have e : patB l = decide (l.length ≤ 30) := by
        rw [HR.out, patP_yes ps (fun j h => HALL.out j h h), Bool.true_and]
      have HE := Lib.hid e
      clear e
      go_wp2
      go_ret
      exact ⟨by rw [HE.out]; first | rfl | (simp; done) | (simp; omega), HB.out⟩
end Go.Proofs.YtcmkmdghekkkhaaDoor
