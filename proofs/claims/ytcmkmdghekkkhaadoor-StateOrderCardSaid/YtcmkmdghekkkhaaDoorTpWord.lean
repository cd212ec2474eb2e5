/-
  The contract of the document's own word (layer topic).
-/
import Derived.Test.YtcmkmdghekkkhaaDoorTpM
import Derived.Test.YtcmkmdghekkkhaaDoorWords
namespace Go.Proofs.YtcmkmdghekkkhaaDoor
open Go.RowKit Go.Rst Go.Tp
theorem all_take_succ {l : List UInt8} {k : Nat} (hk : k < l.length) (f : UInt8 → Bool) : (l.take (k + 1)).all f = ((l.take k).all f && f l[k]) := by
  rw [List.take_succ_eq_append_getElem hk, List.all_append]
  simp
theorem isW_yes {c : UInt8} (h : isW c = true) : (97 ≤ c.toNat ∧ c.toNat ≤ 122) ∨ (48 ≤ c.toNat ∧ c.toNat ≤ 57) := by
  unfold isW at h
  simpa using h
theorem isW_no {c : UInt8} (h : isW c = false) : ¬ ((97 ≤ c.toNat ∧ c.toNat ≤ 122) ∨ (48 ≤ c.toNat ∧ c.toNat ≤ 57)) := by
  unfold isW at h
  simpa [Classical.or_iff_not_imp_left] using h
theorem wordB_no {l : List UInt8} {k : Nat} (hk : k < l.length) (h : isW l[k] = false) : wordB l = false := by
  unfold wordB
  rw [List.all_eq_false.2 ⟨l[k], List.getElem_mem hk, by simp [h]⟩, Bool.false_and]
set_option maxRecDepth 100000 in
set_option maxHeartbeats 1000000 in
theorem word_any (l : List UInt8) (hl : l.length ≤ 140737488351232) (w : World) : Calls Tryd.prog 94 #[sv l] w fun e w' => e = .returned (.bool (wordB l)) ∧ w' = w := by
  go_enter Tryd.func94, Tryd.ntmps94
  go_wp2
  go_loopw [3] (fun i wr => ∃ k : Nat, k ≤ l.length ∧ i = .int .i64 k ∧ (l.take k).all isW = true ∧ wr = w) (fun i _ => l.length - (intOf i).toNat)
  case atStart => exact ⟨0, Nat.zero_le _, rfl, by simp, rfl⟩
  case round =>
    obtain ⟨k, hk, rfl, hall, rfl⟩ := hrel
    by_cases hlt : k < l.length
    · have hc := all_take_succ hlt isW
      rw [hall, Bool.true_and] at hc
      obtain ⟨c, hcc⟩ : ∃ c, c = l[k] := ⟨_, rfl⟩
      have hno : isW c = false → wordB l = false := by rw [hcc]; exact wordB_no hlt
      have hyes := @isW_yes c
      have hnot := @isW_no c
      have hix : ∀ h, (⟨l.toArray⟩ : ByteArray)[k]'h = c := fun _ => hcc.symm
      rw [← hcc] at hc
      have q1 : (k : Int) < (l.length : Int) := by omega
      have HNO := Lib.hid hno
      have HC := Lib.hid hc
      have HALL := Lib.hid hall
      clear hall hc hno hcc
      cases hw : isW c with
      | true =>
        have hh := hyes hw
        rw [hw] at HC
        clear hyes hnot hw
        rcases hh with ⟨h1, h2⟩ | ⟨h1, h2⟩
        · have i1 : (97 : Int) ≤ (c.toNat : Int) := by omega
          have i2 : (c.toNat : Int) ≤ 122 := by omega
          go_wp2
          go_roundw
          case rel => exact ⟨k + 1, by omega, by go_num, HC.out, trivial⟩
          case measure => simp [intOf]; omega
        · have i1 : ¬ (97 : Int) ≤ (c.toNat : Int) := by omega
          have i2 : (48 : Int) ≤ (c.toNat : Int) := by omega
          have i3 : (c.toNat : Int) ≤ 57 := by omega
          go_wp2
          go_roundw
          case rel => exact ⟨k + 1, by omega, by go_num, HC.out, trivial⟩
          case measure => simp [intOf]; omega
      | false =>
        have hh := hnot hw
        have HNO := Lib.hid (HNO.out hw)
        clear hyes hnot hw
        by_cases i1 : (97 : Int) ≤ (c.toNat : Int)
        · have i2 : ¬ (c.toNat : Int) ≤ 122 := by omega
          have i3 : (48 : Int) ≤ (c.toNat : Int) := by omega
          have i4 : ¬ (c.toNat : Int) ≤ 57 := by omega
          go_wp2
          go_ret
          exact ⟨by rw [HNO.out]; rfl, rfl⟩
        · by_cases i3 : (48 : Int) ≤ (c.toNat : Int)
          · have i4 : ¬ (c.toNat : Int) ≤ 57 := by omega
            go_wp2
            go_ret
            exact ⟨by rw [HNO.out]; rfl, rfl⟩
          · go_wp2
            go_ret
            exact ⟨by rw [HNO.out]; rfl, rfl⟩
    · have hkl : k = l.length := by omega
      subst hkl
      have q1 : ¬ (l.length : Int) < (l.length : Int) := by omega
      have e : wordB l = decide (0 < l.length) := by
        unfold wordB
        rw [List.take_length] at hall
        rw [hall, Bool.true_and]
      go_wp2
      go_ret
      exact ⟨rfl, rfl⟩
end Go.Proofs.YtcmkmdghekkkhaaDoor
