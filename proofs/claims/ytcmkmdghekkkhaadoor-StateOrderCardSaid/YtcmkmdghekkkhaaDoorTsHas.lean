/-
  The contracts of the document's own has, Name, acked (layer state).
-/
import Derived.Test.YtcmkmdghekkkhaaDoorTsW
import Derived.Test.YtcmkmdghekkkhaaDoorTpRight
set_option linter.unusedVariables false
namespace Go.Proofs.YtcmkmdghekkkhaaDoor
open Go.RowKit Go.Rst Go.Tp Go.Ts
theorem contains_take {α : Type} [BEq α] [LawfulBEq α] {l : List α} {k : Nat} (hk : k < l.length) (c : α) : (l.take (k + 1)).contains c = ((l.take k).contains c || l[k] == c) := by
  rw [List.take_succ_eq_append_getElem hk]
  simp only [List.contains_eq_any_beq, List.any_append, List.any_cons, List.any_nil, Bool.or_false]
  rw [Bool.beq_comm (a := c)]
set_option maxRecDepth 100000 in
set_option maxHeartbeats 1000000 in
theorem has_any (l : List UInt8) (c : UInt8) (hl : l.length ≤ 140737488351232) (w : World) : Calls Tryd.prog 92 #[sv l, .int .u8 c.toNat] w fun e w' => e = .returned (.bool (l.contains c)) ∧ w' = w := by
  generalize hr : l.contains c = r
  have HR := Lib.hid hr
  clear hr
  go_enter Tryd.func92, Tryd.ntmps92
  go_wp2
  go_loopw [5] (fun i wr => ∃ k : Nat, k ≤ l.length ∧ i = .int .i64 k ∧ (l.take k).contains c = false ∧ wr = w) (fun i _ => l.length - (intOf i).toNat)
  case atStart => exact ⟨0, Nat.zero_le _, rfl, by simp, rfl⟩
  case round =>
    obtain ⟨k, hk, rfl, hall, rfl⟩ := hrel
    by_cases hlt : k < l.length
    · have hc := contains_take hlt c
      rw [hall, Bool.false_or] at hc
      obtain ⟨x, hx⟩ : ∃ x, x = l[k] := ⟨_, rfl⟩
      have hix : ∀ h, (⟨l.toArray⟩ : ByteArray)[k]'h = x := fun _ => hx.symm
      have HM := Lib.hid (show x ∈ l by rw [hx]; exact List.getElem_mem hlt)
      rw [← hx] at hc
      have q1 : (k : Int) < (l.length : Int) := by omega
      have HC := Lib.hid hc
      clear hall hc hx
      by_cases hxc : x = c
      · have q3 : ((x.toNat : Int) == (c.toNat : Int)) = true := by rw [hxc]; simp
        have HE := Lib.hid (show r = true by rw [← HR.out, List.contains_iff_mem, ← hxc]; exact HM.out)
        clear hxc
        go_wp2
        go_ret
        exact ⟨by rw [HE.out]; rfl, rfl⟩
      · have q3 : ((x.toNat : Int) == (c.toNat : Int)) = false := by
          simp only [beq_eq_false_iff_ne, ne_eq]
          intro h
          exact hxc (UInt8.toNat_inj.1 (by omega))
        have HN := Lib.hid (show (l.take (k + 1)).contains c = false by rw [HC.out]; simpa using hxc)
        clear hxc
        go_wp2
        go_roundw
        case rel => exact ⟨k + 1, by omega, by go_num, HN.out, trivial⟩
        case measure => simp [intOf]; omega
    · have q1 : ¬ (k : Int) < (l.length : Int) := by omega
      have HE := Lib.hid (show r = false by rw [← HR.out, ← hall, List.take_of_length_le (by omega)])
      clear hall
      go_wp2
      go_ret
      exact ⟨by rw [HE.out]; rfl, rfl⟩
set_option maxRecDepth 100000 in
set_option maxHeartbeats 1000000 in
theorem nameS_any (l : List UInt8) (hl : l.length ≤ 140737488351232) (w : World) : Calls Tryd.prog 71 #[sv l] w fun e w' => e = .returned (.bool (nameB l)) ∧ Below w.heap.size w w' := by
  have HH := Lib.hid (fun w => has_any l 47 hl w)
  go_enter Tryd.func71, Tryd.ntmps71
  by_cases h20 : l.length ≤ 20
  · have q1 : (l.length : Int) ≤ 20 := by omega
    have hr := right_any l (by omega) w
    have HN := Lib.hid (show nameB l = (rightB l && !(l.contains 47)) by unfold nameB; rw [decide_eq_true h20, Bool.true_and])
    cases hrb : rightB l with
    | false =>
      rw [hrb] at hr HN
      have HR := Lib.hid hr
      clear hr hrb
      go_wp2_with fail
      go_at_call 91
      refine HR.out.mono ?_
      rintro e w1 ⟨rfl, hb⟩
      have HB := Lib.hid hb
      clear hb
      go_wp2
      go_ret
      exact ⟨by rw [HN.out]; rfl, HB.out⟩
    | true =>
      rw [hrb] at hr HN
      have HR := Lib.hid hr
      clear hr hrb
      generalize l.contains 47 = x at HH HN
      go_wp2_with fail
      go_at_call 91
      refine HR.out.mono ?_
      rintro e w1 ⟨rfl, hb⟩
      have HB := Lib.hid hb
      clear hb
      go_wp2_with fail
      go_at_call 92
      refine (HH.out _).mono ?_
      rintro e w2 ⟨rfl, rfl⟩
      go_wp2
      go_ret
      exact ⟨by rw [HN.out]; rfl, HB.out⟩
  · have q1 : ¬ (l.length : Int) ≤ 20 := by omega
    have HN := Lib.hid (show nameB l = false by unfold nameB; rw [decide_eq_false h20, Bool.false_and, Bool.false_and])
    go_wp2
    go_ret
    exact ⟨by rw [HN.out]; rfl, Below.refl _ _⟩
set_option maxRecDepth 100000 in
set_option maxHeartbeats 1000000 in
theorem acked_any {v : Value} {l : List Int} {w : World} (h : RI w v l) (c : Int) : Calls Tryd.prog 50 #[v, .int .i64 c] w fun e w' => e = .returned (.bool (l.contains c)) ∧ w' = w := by
  have HV := Lib.hid h
  obtain ⟨A, cp, rfl, hcl, hcm⟩ := h.shape
  unfold maxLen at hcm
  clear h
  generalize hr : l.contains c = r
  have HR := Lib.hid hr
  clear hr
  go_enter Tryd.func50, Tryd.ntmps50
  go_wp2
  go_loopw [5] (fun i wr => ∃ k : Nat, k ≤ l.length ∧ i = .int .i64 k ∧ (l.take k).contains c = false ∧ wr = w) (fun i _ => l.length - (intOf i).toNat)
  case atStart => exact ⟨0, Nat.zero_le _, rfl, by simp, rfl⟩
  case round =>
    obtain ⟨k, hk, rfl, hall, rfl⟩ := hrel
    by_cases hlt : k < l.length
    · obtain ⟨b, off, cs, rfl, hb, hcs, hcell⟩ := HV.out.at_ hlt
      have hc := contains_take hlt c
      rw [hall, Bool.false_or] at hc
      obtain ⟨x, hx⟩ : ∃ x, x = l[k] := ⟨_, rfl⟩
      have HM := Lib.hid (show x ∈ l by rw [hx]; exact List.getElem_mem hlt)
      rw [← hx] at hc hcs
      have hx0 : wr.cell? ⟨b, off + k, none⟩ = some (.int .i64 x) := by
        have hcs : cs = [.int .i64 x] := hcs
        subst hcs
        have := hcell 0 (by simp)
        simpa using this
      have q1 : (k : Int) < (l.length : Int) := by omega
      have HC := Lib.hid hc
      clear hall hc hx hcs hcell
      by_cases hxc : x = c
      · have q3 : (x == c) = true := by rw [hxc]; simp
        have HE := Lib.hid (show r = true by rw [← HR.out, List.contains_iff_mem, ← hxc]; exact HM.out)
        clear hxc
        go_wp2
        go_ret
        exact ⟨by rw [HE.out]; rfl, rfl⟩
      · have q3 : (x == c) = false := by simpa using hxc
        have HN := Lib.hid (show (l.take (k + 1)).contains c = false by rw [HC.out]; exact q3)
        clear hxc
        go_wp2
        go_roundw
        case rel => exact ⟨k + 1, by omega, by go_num, HN.out, trivial⟩
        case measure => simp [intOf]; omega
    · have q1 : ¬ (k : Int) < (l.length : Int) := by omega
      have HE := Lib.hid (show r = false by rw [← HR.out, ← hall, List.take_of_length_le (by omega)])
      clear hall
      go_wp2
      go_ret
      exact ⟨by rw [HE.out]; rfl, rfl⟩
end Go.Proofs.YtcmkmdghekkkhaaDoor
