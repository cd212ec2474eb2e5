/-
  The contract of the program's name (layer state): it ranges over the text's signs.
-/
import Derived.Test.YtodckdkbheapfaaGreatKOBB
import Derived.Test.YtodckdkbheapfaaGreatKOBC
set_option linter.unusedVariables false
set_option linter.unusedVariables false
set_option linter.unusedSimpArgs false
namespace Go.Proofs.YtodckdkbheapfaaGreat
open Go.RowKit Go.Rst Go.Tp Go.Ts
set_option maxRecDepth 100000 in
set_option maxHeartbeats 1000000 in
theorem nameP_any (l : List UInt8) (w : World) : Calls Tryz.prog 126 #[sv l] w fun e w' => e = .returned (.bool (nameB l)) ∧ Below w.heap.size w w' := by
  rw [name_word]
  by_cases hlen : 1 ≤ l.length ∧ l.length ≤ 20
  case neg =>
    have HE := Lib.hid (show (decide (l.length ≤ 20) && wordB l) = false by
      unfold wordB
      by_cases h0 : l.length ≤ 20
      · have : ¬ 0 < l.length := by omega
        simp [this]
      · simp [h0])
    have hwi : (decide ((1 : Int) ≤ (l.length : Int)) && decide ((l.length : Int) ≤ 20)) = false := by
      by_cases h0 : l.length ≤ 20
      · have : ¬ (1 : Int) ≤ (l.length : Int) := by omega
        simp [this]
      · have : ¬ (l.length : Int) ≤ 20 := by omega
        simp [this]
    have HW := Lib.hid (within_is (l.length : Int) 1 20 false hwi w)
    clear hwi hlen
    go_enter Tryz.func126, Tryz.ntmps126
    go_wp2_with fail
    refine HW.out.mono ?_
    rintro e w5 ⟨rfl, hw5⟩
    subst w5
    go_wp2
    go_ret
    exact ⟨by rw [HE.out] <;> rfl, Below.refl _ _⟩
  have h20 : decide (l.length ≤ 20) = true := decide_eq_true hlen.2
  rw [h20, Bool.true_and]
  have hwi : (decide ((1 : Int) ≤ (l.length : Int)) && decide ((l.length : Int) ≤ 20)) = true := by
    have a : (1 : Int) ≤ (l.length : Int) := by omega
    have b : (l.length : Int) ≤ 20 := by omega
    simp [a, b]
  have HW := Lib.hid (within_is (l.length : Int) 1 20 true hwi w)
  have hnz : l ≠ [] := fun e => by rw [e] at hlen; simp at hlen
  have HNZ := Lib.hid hnz
  have HIB := Lib.hid (fun pos => (Below.refl w.heap.size w).alloc (Nat.le_refl _) (Obj.stringIter ⟨l.toArray⟩ pos))
  clear hwi hlen h20 hnz
  go_enter Tryz.func126, Tryz.ntmps126
  go_wp2_with fail
  refine HW.out.mono ?_
  rintro e w5 ⟨rfl, hw5⟩
  subst w5
  go_wp2
  go_loopw [] (fun wr => ∃ k : Nat, k ≤ l.length ∧ (l.take k).all isW = true ∧ wr = w.iter ⟨l.toArray⟩ k) (fun wr => l.length - wr.iterPos w.heap.size)
  case atStart => exact ⟨0, Nat.zero_le _, by simp, rfl⟩
  case round =>
    obtain ⟨k, hk, hall, rfl⟩ := hrel
    by_cases hlt : k < l.length
    · have hsz : k < (⟨l.toArray⟩ : ByteArray).size := by show k < l.toArray.size; simpa using hlt
      have hc := all_take_succ hlt isW
      rw [hall, Bool.true_and] at hc
      obtain ⟨c, hcc⟩ : ∃ c, c = l[k] := ⟨_, rfl⟩
      have hno : isW c = false → wordB l = false := by rw [hcc]; exact wordB_no hlt
      have hyes := @isW_yes c
      have hnot := @isW_no c
      have hix : (⟨l.toArray⟩ : ByteArray)[k]'hsz = c := hcc.symm
      rw [← hcc] at hc
      by_cases h128 : c.toNat < 128
      · have hnx : ∀ ty, (Instr.next (.pointer (some ⟨w.heap.size, 0, none⟩)) true ty).run Tryz.prog (w.iter ⟨l.toArray⟩ k) = .ok (.tuple #[.bool true, .int .i64 k, .int .i32 c.toNat]) (w.iter ⟨l.toArray⟩ (k + 1)) := fun ty => by
          rw [run_next_ascii w ⟨l.toArray⟩ k ty hsz (by rw [hix]; exact h128), hix]
        have HNO := Lib.hid hno
        have HC := Lib.hid hc
        have HALL := Lib.hid hall
        clear hall hc hno hcc hix
        cases hw : isW c with
        | true =>
          have hh := hyes hw
          rw [hw] at HC
          clear hyes hnot hw
          rcases hh with ⟨h1, h2⟩ | ⟨h1, h2⟩
          · have i1 : ¬ (c.toNat : Int) < 97 := by omega
            have i2 : ¬ (122 : Int) < (c.toNat : Int) := by omega
            go_wp2
            go_roundw
            case rel => exact ⟨k + 1, by omega, HC.out, rfl⟩
            case measure => simp; omega
          · have i1 : (c.toNat : Int) < 97 := by omega
            have i2 : ¬ (c.toNat : Int) < 48 := by omega
            have i3 : ¬ (57 : Int) < (c.toNat : Int) := by omega
            go_wp2
            go_roundw
            case rel => exact ⟨k + 1, by omega, HC.out, rfl⟩
            case measure => simp; omega
        | false =>
          have hh := hnot hw
          have HNO := Lib.hid (HNO.out hw)
          clear hyes hnot hw
          by_cases i1 : (c.toNat : Int) < 97
          · by_cases i2 : (c.toNat : Int) < 48
            · go_wp2
              go_ret
              exact ⟨by rw [HNO.out] <;> rfl, HIB.out _⟩
            · have i3 : (57 : Int) < (c.toNat : Int) := by omega
              go_wp2
              go_ret
              exact ⟨by rw [HNO.out] <;> rfl, HIB.out _⟩
          · have i2 : (122 : Int) < (c.toNat : Int) := by omega
            have i3 : ¬ (c.toNat : Int) < 48 := by omega
            have i4 : (57 : Int) < (c.toNat : Int) := by omega
            go_wp2
            go_ret
            exact ⟨by rw [HNO.out] <;> rfl, HIB.out _⟩
      · have hd := decode_high ⟨l.toArray⟩ k hsz (by rw [hix]; omega)
        have hnx : ∀ ty, (Instr.next (.pointer (some ⟨w.heap.size, 0, none⟩)) true ty).run Tryz.prog (w.iter ⟨l.toArray⟩ k) = _ := fun ty => run_next_any w ⟨l.toArray⟩ k ty hsz
        obtain ⟨r, hr⟩ : ∃ r, r = (Utf8.decode ⟨l.toArray⟩ k).1 := ⟨_, rfl⟩
        obtain ⟨z, hz⟩ : ∃ z, z = (Utf8.decode ⟨l.toArray⟩ k).2 := ⟨_, rfl⟩
        rw [← hr, ← hz] at hnx
        rw [← hr] at hd
        have hw : isW c = false := by
          cases hw : isW c with
          | false => rfl
          | true => have := hyes hw; omega
        have HNO := Lib.hid (hno hw)
        have i1 : ¬ (r : Int) < 97 := by omega
        have i2 : (122 : Int) < (r : Int) := by omega
        have i3 : ¬ (r : Int) < 48 := by omega
        have i4 : (57 : Int) < (r : Int) := by omega
        clear hall hc hno hcc hix hd hr hz hw hyes hnot
        go_wp2
        go_ret
        exact ⟨by rw [HNO.out] <;> rfl, HIB.out _⟩
    · have hkl : k = l.length := by omega
      subst hkl
      have hsz : ¬ l.length < (⟨l.toArray⟩ : ByteArray).size := by show ¬ _ < l.toArray.size; simp
      have hnx : ∀ ty, (Instr.next (.pointer (some ⟨w.heap.size, 0, none⟩)) true ty).run Tryz.prog (w.iter ⟨l.toArray⟩ l.length) = _ := fun ty => run_next_end w ⟨l.toArray⟩ l.length ty hsz
      have e : wordB l = decide (0 < l.length) := by
        unfold wordB
        rw [List.take_length] at hall
        rw [hall, Bool.true_and]
      have HE := Lib.hid e
      clear e hall
      have HP := Lib.hid (List.length_pos_iff.2 HNZ.out)
      go_wp2
      go_ret
      exact ⟨by rw [HE.out, decide_eq_true HP.out] <;> rfl, HIB.out _⟩
end Go.Proofs.YtodckdkbheapfaaGreat
