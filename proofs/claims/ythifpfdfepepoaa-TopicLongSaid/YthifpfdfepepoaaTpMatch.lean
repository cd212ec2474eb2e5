/-
  The contract of the document's own Match (layer topic).
-/
import Derived.Test.YthifpfdfepepoaaTpPat
import Derived.Test.YthifpfdfepepoaaRg
set_option linter.unusedVariables false
namespace Go.Tp
theorem matP_drop {a b : List (List UInt8)} {k : Nat} (ha : k < a.length) (hb : k < b.length) : matP (a.drop k) (b.drop k) = if a[k] = [35] then true else if a[k] ≠ [43] ∧ a[k] ≠ b[k] then false else matP (a.drop (k + 1)) (b.drop (k + 1)) := by
  rw [List.drop_eq_getElem_cons ha, List.drop_eq_getElem_cons hb, matP]
theorem matP_short {a b : List (List UInt8)} {k : Nat} (ha : k < a.length) (hb : b.length ≤ k) : matP (a.drop k) (b.drop k) = false := by
  rw [List.drop_eq_getElem_cons ha, List.drop_eq_nil_of_le hb, matP]
theorem matP_end {a b : List (List UInt8)} {k : Nat} (ha : a.length ≤ k) (hk : k ≤ b.length) (hk2 : k ≤ a.length) : matP (a.drop k) (b.drop k) = decide (a.length = b.length) := by
  rw [List.drop_eq_nil_of_le ha]
  by_cases h : k < b.length
  · rw [List.drop_eq_getElem_cons h, matP]
    simp; omega
  · rw [List.drop_eq_nil_of_le (by omega), matP]
    simp; omega
end Go.Tp
namespace Go.Proofs.Ythifpfdfepepoaa
open Go.RowKit Go.Rst Go.Tp
set_option maxRecDepth 100000 in
set_option maxHeartbeats 2000000 in
theorem match_any (l t : List UInt8) (hl : l.length ≤ 1000000) (ht : t.length ≤ 1000000) (w : World) : Calls Try.prog 24 #[sv l, sv t] w fun e w' => e = .returned (.bool (matB l t)) ∧ Below w.heap.size w w' := by
  go_enter Try.func24, Try.ntmps24
  have HPA := Lib.hid (pat_any l hl w)
  go_wp2_with fail
  go_at_call 23
  refine HPA.out.mono ?_
  rintro e w1 ⟨rfl, hb1⟩
  have HB1 := Lib.hid hb1
  clear hb1
  cases hp : patB l with
  | false =>
    have e : matB l t = false := by unfold matB; rw [hp]; rfl
    have HE := Lib.hid e
    clear e hp
    go_wp2
    go_ret
    exact ⟨by rw [HE.out]; rfl, HB1.out⟩
  | true =>
  have HP := Lib.hid hp
  have HRI := Lib.hid (right_any t ht w1)
  clear hp
  go_wp2_with fail
  go_at_call 22
  refine HRI.out.mono ?_
  rintro e w2 ⟨rfl, hb2⟩
  have HB2 := Lib.hid (HB1.out.trans (hb2.mono HB1.out.size))
  clear hb2
  cases hr : rightB t with
  | false =>
    have e : matB l t = false := by unfold matB; rw [hr]; simp
    have HE := Lib.hid e
    clear e hr
    go_wp2
    go_ret
    exact ⟨by rw [HE.out]; rfl, HB2.out⟩
  | true =>
  have HM0 := Lib.hid (show matB l t = matP (splitL 47 l) (splitL 47 t) by unfold matB; rw [HP.out, hr]; simp)
  have HS1 := Lib.hid (split_any 47 l hl w2)
  clear hr
  go_wp2_with fail
  go_at_call 30
  refine HS1.out.mono ?_
  rintro e w3 ⟨va, rfl, hown3, hb3⟩
  obtain ⟨A1, c1, rfl, _⟩ := own_shape hown3
  have HB3 := Lib.hid (HB2.out.trans (hb3.mono HB2.out.size))
  have HO3 := Lib.hid hown3
  have HS2 := Lib.hid (split_any 47 t ht w3)
  clear hown3 hb3
  go_wp2_with fail
  go_at_call 30
  refine HS2.out.mono ?_
  rintro e w4 ⟨vb, rfl, hown4, hb4⟩
  obtain ⟨A2, c2, rfl, _⟩ := own_shape hown4
  have HB4 := Lib.hid (HB3.out.trans (hb4.mono HB3.out.size))
  have HOA := Lib.hid (own_below HO3.out hb4)
  have HOB := Lib.hid hown4
  have hla := splitL_len 47 l
  have hlb := splitL_len 47 t
  obtain ⟨a, ha⟩ : ∃ a, a = splitL 47 l := ⟨_, rfl⟩
  obtain ⟨b, hb⟩ : ∃ b, b = splitL 47 t := ⟨_, rfl⟩
  have HM1 := Lib.hid (show matB l t = matP a b by rw [ha, hb]; exact HM0.out)
  rw [← ha] at HOA hla ⊢
  rw [← hb] at HOB hlb ⊢
  clear hown4 hb4 ha hb
  go_wp2_with fail
  go_loopw [7] (fun i wr => ∃ k : Nat, k ≤ a.length ∧ k ≤ b.length ∧ i = .int .i64 k ∧ matP a b = matP (a.drop k) (b.drop k) ∧ Below w4.heap.size w4 wr) (fun i _ => a.length - (intOf i).toNat)
  case atStart => exact ⟨0, Nat.zero_le _, Nat.zero_le _, rfl, by simp, Below.refl _ _⟩
  case round =>
    obtain ⟨k, hka, hkb, rfl, hm, hbel⟩ := hrel
    have HM := Lib.hid (HM1.out.trans hm)
    have HMM := Lib.hid hm
    have HBl := Lib.hid hbel
    have HBW := Lib.hid (HB4.out.trans (hbel.mono HB4.out.size))
    have HA := Lib.hid (own_below HOA.out hbel)
    have HB := Lib.hid (own_below HOB.out hbel)
    clear hm hbel
    by_cases hlt : k < a.length
    · have q1 : (k : Int) < (a.length : Int) := by omega
      by_cases hlb2 : k < b.length
      · have q2 : ((k : Int) == (b.length : Int)) = false := by simp; omega
        have q3 : (k : Int) < (b.length : Int) := by omega
        obtain ⟨g1, rfl, hg1, hc1⟩ := own_str HA.out hlt
        obtain ⟨g2, rfl, hg2, hc2⟩ := own_str HB.out hlb2
        have hstep := matP_drop hlt hlb2
        obtain ⟨x, hx⟩ : ∃ x, x = a[k] := ⟨_, rfl⟩
        obtain ⟨y, hy⟩ : ∃ y, y = b[k] := ⟨_, rfl⟩
        rw [← hx] at hc1 hstep
        rw [← hy] at hc2 hstep
        have hca := Lib.hid hc1
        have hcb := Lib.hid hc2
        have HST := Lib.hid hstep
        clear hstep hx hy hc2
        by_cases a1 : x = [35]
        · have b1 : (x == [35]) = true := by rw [a1]; rfl
          have e : matB l t = true := by rw [HM.out, HST.out, if_pos a1]
          have HE := Lib.hid e
          clear e
          go_wp2
          go_ret
          exact ⟨by rw [HE.out]; rfl, HBW.out⟩
        · have b1 : (x == [35]) = false := by simpa using a1
          have hst2 := HST.out
          rw [if_neg a1] at hst2
          have HS2' := Lib.hid hst2
          clear hst2
          by_cases a2 : x = [43]
          · have b2 : (x == [43]) = true := by rw [a2]; rfl
            have b3 : (x != [43]) = false := by rw [a2]; rfl
            have HN := Lib.hid (show matP (a.drop k) (b.drop k) = matP (a.drop (k + 1)) (b.drop (k + 1)) by rw [HS2'.out, if_neg (fun h => h.1 a2)])
            go_wp2_with fail
            refine wp_region_held_drew (S := SB [wr]) (by kernel_rfl) (SB.start _) (fun hHeld => ?_)
            refine tkC 0 ?_
            refine tkC 1 ?_
            refine tkC 2 ?_
            refine tkA 3 (v := ?_) ?_ ?_
            rotate_left
            · intro W hSw; have hq := (SB.b0 hSw).cell (p := ⟨g1, k, none⟩) hg1 |>.trans hca.out; go_simp; try (with_reducible rfl)
            try simp only [Act.put, zA, zB, zC]
            refine tkC 4 ?_
            refine tkC 5 ?_
            refine tkB 6 ?_
            refine tkB 7 ?_
            refine tkB 8 ?_
            refine tkB 9 ?_
            refine tkB 10 ?_
            refine tkB 11 ?_
            refine tkB 12 ?_
            refine tkB 13 ?_
            refine tkB 14 ?_
            refine tkC 15 ?_
            refine wpAnyH_done (by kernel_rfl) ?_ _
            go_wp2
            go_roundw
            case rel => exact ⟨k + 1, by omega, by omega, by go_num, HMM.out.trans HN.out, HBl.out.trans ((Below.refl _ _).drew)⟩
            case measure => simp [intOf]; omega
          · have b2 : (x == [43]) = false := by simpa using a2
            by_cases a3 : x = y
            · subst a3
              have HN := Lib.hid (show matP (a.drop k) (b.drop k) = matP (a.drop (k + 1)) (b.drop (k + 1)) by rw [HS2'.out, if_neg (fun h => h.2 rfl)])
              go_wp2_with fail
              refine wp_region_held_drew (S := SB [wr]) (by kernel_rfl) (SB.start _) (fun hHeld => ?_)
              refine tkC 0 ?_
              refine tkC 1 ?_
              refine tkC 2 ?_
              refine tkA 3 (v := ?_) ?_ ?_
              rotate_left
              · intro W hSw; have hq := (SB.b0 hSw).cell (p := ⟨g1, k, none⟩) hg1 |>.trans hca.out; go_simp; try (with_reducible rfl)
              try simp only [Act.put, zA, zB, zC]
              refine tkC 4 ?_
              refine tkC 5 ?_
              refine tkC 6 ?_
              refine tkC 7 ?_
              refine tkC 8 ?_
              refine tkA 9 (v := ?_) ?_ ?_
              rotate_left
              · intro W hSw; have hq := (SB.b0 hSw).cell (p := ⟨g1, k, none⟩) hg1 |>.trans hca.out; go_simp; try (with_reducible rfl)
              try simp only [Act.put, zA, zB, zC]
              refine tkC 10 ?_
              refine tkC 11 ?_
              refine tkC 12 ?_
              refine tkA 13 (v := ?_) ?_ ?_
              rotate_left
              · intro W hSw; have hq := (SB.b0 hSw).cell (p := ⟨g2, k, none⟩) hg2 |>.trans hcb.out; go_simp; try (with_reducible rfl)
              try simp only [Act.put, zA, zB, zC]
              refine tkC 14 ?_
              refine tkC 15 ?_
              refine wpAnyH_done (by kernel_rfl) ?_ _
              go_wp2
              go_roundw
              case rel => exact ⟨k + 1, by omega, by omega, by go_num, HMM.out.trans HN.out, HBl.out.trans ((Below.refl _ _).drew)⟩
              case measure => simp [intOf]; omega
            · have b4 : (x == y) = false := by simpa using a3
              have e : matB l t = false := by rw [HM.out, HS2'.out, if_pos ⟨a2, a3⟩]
              have HE := Lib.hid e
              clear e
              go_wp2_with fail
              refine wp_region_held_drew (S := SB [wr]) (by kernel_rfl) (SB.start _) (fun hHeld => ?_)
              refine tkC 0 ?_
              refine tkC 1 ?_
              refine tkC 2 ?_
              refine tkA 3 (v := ?_) ?_ ?_
              rotate_left
              · intro W hSw; have hq := (SB.b0 hSw).cell (p := ⟨g1, k, none⟩) hg1 |>.trans hca.out; go_simp; try (with_reducible rfl)
              try simp only [Act.put, zA, zB, zC]
              refine tkC 4 ?_
              refine tkC 5 ?_
              refine tkC 6 ?_
              refine tkC 7 ?_
              refine tkC 8 ?_
              refine tkA 9 (v := ?_) ?_ ?_
              rotate_left
              · intro W hSw; have hq := (SB.b0 hSw).cell (p := ⟨g1, k, none⟩) hg1 |>.trans hca.out; go_simp; try (with_reducible rfl)
              try simp only [Act.put, zA, zB, zC]
              refine tkC 10 ?_
              refine tkC 11 ?_
              refine tkC 12 ?_
              refine tkA 13 (v := ?_) ?_ ?_
              rotate_left
              · intro W hSw; have hq := (SB.b0 hSw).cell (p := ⟨g2, k, none⟩) hg2 |>.trans hcb.out; go_simp; try (with_reducible rfl)
              try simp only [Act.put, zA, zB, zC]
              refine tkC 14 ?_
              refine tkC 15 ?_
              refine wpAnyH_done (by kernel_rfl) ?_ _
              go_wp2
              go_ret
              exact ⟨by rw [HE.out]; rfl, HBW.out.drew⟩
      · obtain rfl : k = b.length := by omega
        have q2 : ((b.length : Int) == (b.length : Int)) = true := by simp
        have e : matB l t = false := by rw [HM.out, matP_short hlt (Nat.le_refl _)]
        have HE := Lib.hid e
        clear e
        go_wp2
        go_ret
        exact ⟨by rw [HE.out]; rfl, HBW.out⟩
    · obtain rfl : k = a.length := by omega
      have q1 : ¬ (a.length : Int) < (a.length : Int) := by omega
      have e : matB l t = decide (a.length = b.length) := by rw [HM.out, matP_end (Nat.le_refl _) hkb (Nat.le_refl _)]
      have HE := Lib.hid e
      clear e
      by_cases he : a.length = b.length
      · have q2 : ((a.length : Int) == (b.length : Int)) = true := by simp; omega
        go_wp2
        go_ret
        exact ⟨by rw [HE.out, decide_eq_true he]; first | rfl | (simp; omega), HBW.out⟩
      · have q2 : ((a.length : Int) == (b.length : Int)) = false := by simp; omega
        go_wp2
        go_ret
        exact ⟨by rw [HE.out, decide_eq_false he]; first | rfl | (simp; omega), HBW.out⟩
end Go.Proofs.Ythifpfdfepepoaa
