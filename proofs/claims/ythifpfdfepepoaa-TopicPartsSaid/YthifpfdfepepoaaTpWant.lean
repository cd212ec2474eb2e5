/-
  The contracts of the document's own Attrs and Wanted (layer topic).
-/
import Derived.Test.YthifpfdfepepoaaTpPairs
import Derived.Test.YthifpfdfepepoaaRg
set_option linter.unusedVariables false
namespace Go.Proofs.Ythifpfdfepepoaa
open Go.RowKit Go.Rst Go.Tp
set_option maxRecDepth 100000 in
set_option maxHeartbeats 1000000 in
theorem attrs_any (l : List UInt8) (hl : l.length ≤ 1000000) (w : World) : Calls Try.prog 25 #[sv l] w fun e w' => e = .returned (.bool (attrsB l)) ∧ Below w.heap.size w w' := by
  go_enter Try.func25, Try.ntmps25
  have HPA := Lib.hid (pairs_any l hl w)
  go_wp2_with fail
  go_at_call 32
  refine HPA.out.mono ?_
  rintro e w1 ⟨v, rfl, hown, hb⟩
  have HB := Lib.hid hb
  clear hown hb
  go_wp2
  go_ret
  exact ⟨rfl, HB.out⟩
theorem contains_succ {b : List (List UInt8)} {k : Nat} (hk : k < b.length) (x : List UInt8) : (b.take (k + 1)).contains x = ((b.take k).contains x || x == b[k]) := by
  rw [List.take_succ_eq_append_getElem hk]
  simp only [List.contains_eq_any_beq, List.any_append, List.any_cons, List.any_nil, Bool.or_false]
set_option maxRecDepth 100000 in
set_option maxHeartbeats 2000000 in
theorem want_any (l t : List UInt8) (hl : l.length ≤ 1000000) (ht : t.length ≤ 1000000) (w : World) : Calls Try.prog 26 #[sv l, sv t] w fun e w' => e = .returned (.bool (wantB l t)) ∧ Below w.heap.size w w' := by
  go_enter Try.func26, Try.ntmps26
  have HPA := Lib.hid (pairs_any l hl w)
  go_wp2_with fail
  go_at_call 32
  refine HPA.out.mono ?_
  rintro e w1 ⟨va, rfl, hown1, hb1⟩
  obtain ⟨A1, c1, rfl, _⟩ := own_shape hown1
  have HB1 := Lib.hid hb1
  have HO1 := Lib.hid hown1
  have HPB := Lib.hid (pairs_any t ht w1)
  clear hown1 hb1
  go_wp2_with fail
  go_at_call 32
  refine HPB.out.mono ?_
  rintro e w2 ⟨vb, rfl, hown2, hb2⟩
  obtain ⟨A2, c2, rfl, _⟩ := own_shape hown2
  have HB2 := Lib.hid (HB1.out.trans (hb2.mono HB1.out.size))
  have HOA := Lib.hid (own_below HO1.out hb2)
  have HOB := Lib.hid hown2
  have HW := Lib.hid (show wantB l t = ((pairsR l).1.all (fun x => (pairsR t).1.contains x) && ((pairsR l).2 && (pairsR t).2)) from rfl)
  have hla : (pairsR l).1.length ≤ 2000000 := by
    unfold pairsR
    have := splitL_len 44 l
    split
    · simp
    · split
      · simp; omega
      · simp
  have hlb : (pairsR t).1.length ≤ 2000000 := by
    unfold pairsR
    have := splitL_len 44 t
    split
    · simp
    · split
      · simp; omega
      · simp
  generalize pairsR l = ra at *
  generalize pairsR t = rb at *
  obtain ⟨a, o1⟩ := ra
  obtain ⟨b, o2⟩ := rb
  simp only at HOA HOB HW hla hlb
  clear hown2 hb2 HPA HPB HO1
  go_wp2_with fail
  go_loopw [9] (fun iv wr => ∃ i : Nat, i ≤ a.length ∧ iv = .int .i64 i ∧ (a.take i).all (fun x => b.contains x) = true ∧ Below w2.heap.size w2 wr) (fun iv _ => a.length - (intOf iv).toNat)
  case atStart => exact ⟨0, Nat.zero_le _, rfl, by simp, Below.refl _ _⟩
  case round =>
    obtain ⟨i, hi, rfl, hall, hbel⟩ := hrel
    have HALL := Lib.hid hall
    have HBl := Lib.hid hbel
    have HBW := Lib.hid (HB2.out.trans (hbel.mono HB2.out.size))
    clear hall hbel
    by_cases hlt : i < a.length
    · have q1 : (i : Int) < (a.length : Int) := by omega
      have HA := Lib.hid (own_below HOA.out HBl.out)
      obtain ⟨g1, rfl, hg1, hc1⟩ := own_str HA.out hlt
      have hstep := all_take_succ' hlt (fun x => b.contains x)
      obtain ⟨x, hx⟩ : ∃ x, x = a[i] := ⟨_, rfl⟩
      rw [← hx] at hc1 hstep
      have HX := Lib.hid hx
      have HC1 := Lib.hid hc1
      have HST := Lib.hid hstep
      clear hx hc1 hstep
      go_wp2_with fail
      go_loopw [10, 11] (fun isv kv ws => ∃ k : Nat, k ≤ b.length ∧ kv = .int .i64 k ∧ isv = .bool ((b.take k).contains x) ∧ Below wr.heap.size wr ws) (fun _ kv _ => b.length - (intOf kv).toNat)
      case atStart => exact ⟨0, Nat.zero_le _, rfl, by simp, Below.refl _ _⟩
      case round =>
        obtain ⟨k, hk, rfl, rfl, hbs⟩ := hrel
        have HBs := Lib.hid hbs
        have HBS := Lib.hid (HBl.out.trans (hbs.mono HBl.out.size))
        have hca := Lib.hid ((hbs.cell (p := ⟨g1, i, none⟩) hg1).trans HC1.out)
        have hg1' := Nat.lt_of_lt_of_le hg1 hbs.size
        clear hbs
        by_cases hkb : k < b.length
        · have q2 : (k : Int) < (b.length : Int) := by omega
          have HB' := Lib.hid (own_below HOB.out HBS.out)
          obtain ⟨g2, rfl, hg2, hc2⟩ := own_str HB'.out hkb
          have hcs := contains_succ hkb x
          obtain ⟨y, hy⟩ : ∃ y, y = b[k] := ⟨_, rfl⟩
          rw [← hy] at hc2 hcs
          have hcb := Lib.hid hc2
          have HCS := Lib.hid hcs
          clear hy hc2 hcs
          cases his : (b.take k).contains x with
          | true =>
            rw [his, Bool.true_or] at HCS
            clear his
            go_wp2_with fail
            refine wp_region_held_drew (S := SB [wr]) (by kernel_rfl) (SB.start _) (fun hHeld => ?_)
            refine tkC 0 ?_
            refine tkC 1 ?_
            refine tkB 2 ?_
            refine tkB 3 ?_
            refine tkB 4 ?_
            refine tkB 5 ?_
            refine tkB 6 ?_
            refine tkB 7 ?_
            refine tkB 8 ?_
            refine tkB 9 ?_
            refine tkB 10 ?_
            refine tkC 11 ?_
            refine tkC 12 ?_
            refine wpAnyH_done (by kernel_rfl) ?_ _
            go_wp2
            go_roundw
            case rel => exact ⟨k + 1, by omega, by go_num, by rw [HCS.out], HBs.out.drew⟩
            case measure => simp [intOf]; omega
          | false =>
            rw [his, Bool.false_or] at HCS
            clear his
            go_wp2_with fail
            refine wp_region_held_drew (S := SB [wr]) (by kernel_rfl) (SB.start _) (fun hHeld => ?_)
            refine tkC 0 ?_
            refine tkC 1 ?_
            refine tkC 2 ?_
            refine tkC 3 ?_
            refine tkC 4 ?_
            refine tkA 5 (v := ?_) ?_ ?_
            rotate_left
            · intro W hSw; have hq := (SB.b0 hSw).cell (p := ⟨g1, i, none⟩) hg1' |>.trans hca.out; go_simp; try (with_reducible rfl)
            try simp only [Act.put, zA, zB, zC]
            refine tkC 6 ?_
            refine tkC 7 ?_
            refine tkC 8 ?_
            refine tkA 9 (v := ?_) ?_ ?_
            rotate_left
            · intro W hSw; have hq := (SB.b0 hSw).cell (p := ⟨g2, k, none⟩) hg2 |>.trans hcb.out; go_simp; try (with_reducible rfl)
            try simp only [Act.put, zA, zB, zC]
            refine tkC 10 ?_
            refine tkC 11 ?_
            refine tkC 12 ?_
            refine wpAnyH_done (by kernel_rfl) ?_ _
            go_wp2
            go_roundw
            case rel => exact ⟨k + 1, by omega, by go_num, by rw [HCS.out], HBs.out.drew⟩
            case measure => simp [intOf]; omega
        · obtain rfl : k = b.length := by omega
          have q2 : ¬ (b.length : Int) < (b.length : Int) := by omega
          rw [List.take_length]
          cases his : b.contains x with
          | true =>
            have HN := Lib.hid (show (a.take (i + 1)).all (fun x => b.contains x) = true by rw [HST.out, HALL.out]; simp only [his]; rfl)
            clear his
            go_wp2
            go_roundw
            case rel => exact ⟨i + 1, by omega, by go_num, HN.out, HBS.out⟩
            case measure => simp [intOf]; omega
          | false =>
            have e : wantB l t = false := by
              rw [HW.out, List.all_eq_false.2 ⟨a[i], List.getElem_mem hlt, by rw [← HX.out, his]; simp⟩, Bool.false_and]
            have HE := Lib.hid e
            clear e his
            go_wp2
            go_ret
            exact ⟨by rw [HE.out]; rfl, HBW.out.trans (HBs.out.mono HBW.out.size)⟩
    · obtain rfl : i = a.length := by omega
      have q1 : ¬ (a.length : Int) < (a.length : Int) := by omega
      have e : wantB l t = (o1 && o2) := by
        have h := HALL.out
        rw [List.take_length] at h
        rw [HW.out, h, Bool.true_and]
      have HE := Lib.hid e
      clear e
      cases o1 with
      | true =>
        go_wp2
        go_ret
        exact ⟨by rw [HE.out]; rfl, HBW.out⟩
      | false =>
        go_wp2
        go_ret
        exact ⟨by rw [HE.out]; rfl, HBW.out⟩
end Go.Proofs.Ythifpfdfepepoaa
