/-
  The contracts of the program's rising and same, and of slices.EqualFunc with it (layer one).; The contract of the program's rising (layer one).
-/
import Derived.BigQuiet
import Derived.Deep.QuietTactic
import Derived.Test.YtmdkonfmbbbepaaDoorKUBJ
import Derived.Test.YtmdkonfmbbbepaaDoorKUCA
set_option linter.unusedVariables false
set_option linter.unusedVariables false
set_option linter.unusedSimpArgs false
namespace Go.Proofs.YtmdkonfmbbbepaaDoor
open Go.RowKit Go.Rst Go.Tp Go.Ts Go.Tk Go.Crc Go.On Go.Pg
set_option maxRecDepth 100000 in
set_option maxHeartbeats 4000000 in
theorem same1_any (k1 k2 : ByteArray) (u1 u2 : Value) (l1 l2 : List UInt8) (w : World) (h1 : RB w u1 l1) (h2 : RB w u2 l2) :
    Calls Tryd.prog 45 #[.agg #[.string k1, u1], .agg #[.string k2, u2]] w fun e w' => e = .returned (.bool (decide (k1 = k2) && decide (l1 = l2))) ∧ Below w.heap.size w w' := by
  have hbx : Below w.heap.size w ((w.alloc (.cells #[.string k1, u1] 42)).alloc (.cells #[.string k2, u2] 42)) := below_two w _ _ _ _
  have HEQ := Lib.hid (equal_any u1 u2 l1 l2 _ (h1.below hbx) (h2.below hbx))
  have HB := Lib.hid hbx
  obtain ⟨A1, c1, rfl, _⟩ := h1
  obtain ⟨A2, c2, rfl, _⟩ := h2
  obtain ⟨d, hd⟩ : ∃ d, d = (l1 == l2) := ⟨_, rfl⟩
  rw [← hd] at HEQ
  have hr : decide (l1 = l2) = d := by rw [hd, Bool.eq_iff_iff]; simp
  rw [hr]
  clear hd hr
  by_cases hk : k1 = k2
  · subst hk
    have e0 : (decide (k1 = k1) && d) = d := by simp
    rw [e0]
    clear hbx e0
    go_enter Tryd.func45, Tryd.ntmps45
    go_wp2_with fail
    refine HEQ.out.mono ?_
    rintro e w3 ⟨rfl, hw3⟩
    subst hw3
    go_wp2
    go_ret
    exact ⟨rfl, HB.out⟩
  · have hv2 : (k1.toList == k2.toList) = false := beq_eq_false_iff_ne.2 (ba_neL hk)
    have e0 : (decide (k1 = k2) && d) = false := by simp [hk]
    rw [e0]
    clear hbx hk e0
    go_enter Tryd.func45, Tryd.ntmps45
    go_wp2
    go_ret
    exact ⟨rfl, HB.out⟩
theorem rr_two {w : World} {A : Option Addr} {n c : Nat} {rs : List (ByteArray × List UInt8)} (h : RR w (.slice A n c) rs) {k : Nat} (hk : k < rs.length) :
    ∃ b off u, A = some ⟨b, off, none⟩ ∧ b < w.heap.size ∧ w.rangeAt b (off + k * 2) [.string rs[k].1, u] ∧ RB w u rs[k].2 ∧ u.oneCell' = true := by
  obtain ⟨A', c', he, _, _, h3⟩ := h
  injection he with e1 _ _
  subst e1
  rcases h3 with rfl | ⟨b, off, rfl, hb, hc⟩
  · simp at hk
  · obtain ⟨h1, u, h2, h3⟩ := hc k hk
    refine ⟨b, off, u, rfl, hb, fun j v hv => ?_, h3, by obtain ⟨_, _, rfl, _⟩ := h3; rfl⟩
    match j, hv with
    | 0, hv => simp at hv; subst hv; exact h1
    | 1, hv => simp at hv; subst hv; exact h2
set_option maxRecDepth 100000 in
set_option maxHeartbeats 8000000 in
theorem equalF_any (va vb : Value) (rs qs : List (ByteArray × List UInt8)) (w : World) (ha : RR w va rs) (hb : RR w vb qs) :
    Calls Tryd.prog 44 #[va, vb, .func (.func 45) #[] #[]] w fun e w' => (∃ b, e = .returned (.bool b) ∧ (b = true ↔ rs = qs)) ∧ Below w.heap.size w w' := by
  have HA := Lib.hid ha
  have HB := Lib.hid hb
  obtain ⟨A1, c1, rfl, hl1, hc1, _⟩ := ha
  obtain ⟨A2, c2, rfl, hl2, hc2, _⟩ := hb
  unfold maxLen at hc1 hc2
  by_cases hlen : rs.length = qs.length
  · rw [← hlen] at HB hl2 ⊢
    have HL := Lib.hid hlen
    have hbne : ((rs.length : Int) != (rs.length : Int)) = false := by simp
    clear hlen
    go_enter Tryd.func44, Tryd.ntmps44
    go_wp2
    go_loopw [17] (fun i wr => ∃ k : Nat, k ≤ rs.length ∧ rs.take k = qs.take k ∧ i = .int .i64 k ∧ Below w.heap.size w wr) (fun i _ => rs.length - (intOf i).toNat)
    case atStart => exact ⟨0, Nat.zero_le _, rfl, rfl, Below.refl _ _⟩
    case round =>
      obtain ⟨k, hk, htk, rfl, hbel⟩ := hrel
      by_cases hlt : k < rs.length
      · have hltq : k < qs.length := by rw [← HL.out]; exact hlt
        obtain ⟨b1, o1, u1, rfl, hx1, hy1, hr1, hq1⟩ := rr_two HA.out hlt
        obtain ⟨b2, o2, u2, rfl, hx2, hy2, hr2, hq2⟩ := rr_two HB.out hltq
        have HT := Lib.hid htk
        have H1 := Lib.hid (List.take_succ_eq_append_getElem hlt)
        have H2 := Lib.hid (List.take_succ_eq_append_getElem hltq)
        have HN := Lib.hid (fun (h : rs[k] ≠ qs[k]) (e : rs = qs) => h (by simp only [e]) : rs[k] ≠ qs[k] → rs ≠ qs)
        have HY1 := Lib.hid (fun W (h : Below w.heap.size w W) => range_below hy1 hx1 h)
        have HY2 := Lib.hid (fun W (h : Below w.heap.size w W) => range_below hy2 hx2 h)
        generalize rs[k] = r1 at *
        generalize qs[k] = r2 at *
        obtain ⟨k1, v1⟩ := r1
        obtain ⟨k2, v2⟩ := r2
        simp only at hy1 hy2 hr1 hr2 HY1 HY2
        have HCL := Lib.hid (fun W (h : Below w.heap.size w W) => same1_any k1 k2 u1 u2 v1 v2 W (hr1.below h) (hr2.below h))
        have HBL := Lib.hid hbel
        obtain ⟨R1, hR1⟩ : ∃ R1 : List Value, R1 = [.string k1, u1] := ⟨_, rfl⟩
        obtain ⟨R2, hR2⟩ : ∃ R2 : List Value, R2 = [.string k2, u2] := ⟨_, rfl⟩
        rw [← hR1] at HY1
        rw [← hR2] at HY2
        have HCL2 := Lib.hid (fun W (h : Below w.heap.size w W) => by rw [hR1, hR2]; exact HCL.out W h : ∀ W (h : Below w.heap.size w W), Calls Tryd.prog 45 #[.agg R1.toArray, .agg R2.toArray] W fun e w' => e = .returned (.bool (decide (k1 = k2) && decide (v1 = v2))) ∧ Below W.heap.size W w')
        have HS1 := Lib.hid (show (Tryd.prog.info? 42).map (·.size) = some R1.length by rw [hR1]; exact size42)
        have HS2 := Lib.hid (show (Tryd.prog.info? 42).map (·.size) = some R2.length by rw [hR2]; exact size42)
        have HS1a := Lib.hid (show (Tryd.prog.info? 42).map (·.size) = some R1.toArray.size by rw [hR1]; exact size42)
        have HS2a := Lib.hid (show (Tryd.prog.info? 42).map (·.size) = some R2.toArray.size by rw [hR2]; exact size42)
        have HZ1 := Lib.hid (show (#[.string ⟨#[]⟩, .slice none 0 0] : Array Value).size = R1.toArray.size by rw [hR1]; rfl)
        have HZ2 := Lib.hid (show (#[.string ⟨#[]⟩, .slice none 0 0] : Array Value).size = R2.toArray.size by rw [hR2]; rfl)
        have HO1 := Lib.hid (show R1.toArray.all (·.oneCell') = true by rw [hR1]; exact all_oneCell_toArray (by intro v hv; simp only [List.mem_cons, List.not_mem_nil, or_false] at hv; rcases hv with rfl | rfl; rfl; exact hq1))
        have HO2 := Lib.hid (show R2.toArray.all (·.oneCell') = true by rw [hR2]; exact all_oneCell_toArray (by intro v hv; simp only [List.mem_cons, List.not_mem_nil, or_false] at hv; rcases hv with rfl | rfl; rfl; exact hq2))
        obtain ⟨Wa, hWa⟩ : ∃ Wa, Wa = (wr.alloc (.cells #[.string ⟨#[]⟩, .slice none 0 0] 42)).setRow wr.heap.size R1.toArray := ⟨_, rfl⟩
        obtain ⟨Wb, hWb⟩ : ∃ Wb, Wb = (Wa.alloc (.cells #[.string ⟨#[]⟩, .slice none 0 0] 42)).setRow Wa.heap.size R2.toArray := ⟨_, rfl⟩
        have hba : Below wr.heap.size wr Wa := by rw [hWa]; exact below_setRow ((Below.refl _ wr).alloc (Nat.le_refl _) _) (Nat.le_refl _) _
        have hbb : Below Wa.heap.size Wa Wb := by rw [hWb]; exact below_setRow ((Below.refl _ Wa).alloc (Nat.le_refl _) _) (Nat.le_refl _) _
        have HNA := Lib.hid (Wh.new wr [.string ⟨#[]⟩, .slice none 0 0] 42)
        have HNB := Lib.hid (Wh.new Wa [.string ⟨#[]⟩, .slice none 0 0] 42)
        have hwa : Wh Wa wr.heap.size R1 42 := by rw [hWa]; exact HNA.out.set R1
        have hwb : Wh Wb Wa.heap.size R2 42 := by rw [hWb]; exact HNB.out.set R2
        have HWA := Lib.hid (hwa.below hbb)
        have HWB := Lib.hid hwb
        have HBA := Lib.hid (HBL.out.trans (hba.mono HBL.out.size))
        have HBB := Lib.hid ((HBL.out.trans (hba.mono HBL.out.size)).trans (hbb.mono (Nat.le_trans HBL.out.size hba.size)))
        have HEA := Lib.hid hWa
        have HEB := Lib.hid hWb
        have HLA := Lib.hid (HY1.out _ hbel)
        have HLB := Lib.hid (HY2.out _ HBA.out)
        clear hR1 hR2 hWa hWb hba hbb hwa hwb htk hltq hbel hy1 hy2 hr1 hr2 hq1 hq2 HCL
        go_wp2_with (first | (refine wpList_load_midG (by rfl) 42 (.tmp 20) rfl b1 (o1 + k * 2) rfl _ _ HLA.out Tryd.underlying42 rfl HS1.out ?_) | (refine wpList_store_row rfl 42 (.tmp 8) (.tmp 21) rfl wr.heap.size R1.toArray rfl rfl 42 #[.string ⟨#[]⟩, .slice none 0 0] HNA.out HS1a.out HZ1.out HO1.out ?_; rw [← HEA.out]) | (refine wpList_load_midG (by rfl) 42 (.tmp 24) rfl b2 (o2 + k * 2) rfl _ _ HLB.out Tryd.underlying42 rfl HS2.out ?_) | (refine wpList_store_row rfl 42 (.tmp 9) (.tmp 25) rfl Wa.heap.size R2.toArray rfl rfl 42 #[.string ⟨#[]⟩, .slice none 0 0] HNB.out HS2a.out HZ2.out HO2.out ?_; rw [← HEB.out]) | (refine wpList_load_midG (by rfl) 42 (.tmp 8) rfl wr.heap.size 0 rfl _ _ HWA.out.range Tryd.underlying42 rfl HS1.out ?_) | (refine wpList_load_midG (by rfl) 42 (.tmp 9) rfl Wa.heap.size 0 rfl _ _ HWB.out.range Tryd.underlying42 rfl HS2.out ?_))
        refine (HCL2.out _ HBB.out).mono ?_
        rintro e w5 ⟨rfl, hb5⟩
        have HB5 := Lib.hid (HBB.out.trans (hb5.mono HBB.out.size))
        clear hb5
        by_cases hkk : k1 = k2 ∧ v1 = v2
        · obtain ⟨rfl, rfl⟩ := hkk
          rw [show (decide (k1 = k1) && decide (v1 = v1)) = true by simp]
          go_wp2
          go_roundw
          case rel => exact ⟨k + 1, by omega, by rw [H1.out, H2.out, HT.out], by go_num, HB5.out⟩
          case measure => simp [intOf]; omega
        · rw [show (decide (k1 = k2) && decide (v1 = v2)) = false by
            rw [Bool.and_eq_false_iff]
            by_cases h : k1 = k2
            · exact .inr (decide_eq_false fun h2 => hkk ⟨h, h2⟩)
            · exact .inl (decide_eq_false h)]
          have HNE := Lib.hid (HN.out (fun e => hkk (by injection e with e1 e2; exact ⟨e1, e2⟩)))
          go_wp2
          go_ret
          exact ⟨⟨_, rfl, by simpa using HNE.out⟩, HB5.out⟩
      · have hke : k = rs.length := by omega
        have he : rs = qs := by
          have h1 := htk
          rw [List.take_of_length_le (by omega), List.take_of_length_le (by rw [← HL.out]; omega)] at h1
          exact h1
        have HE := Lib.hid he
        have HBL := Lib.hid hbel
        clear hke he htk hbel
        go_wp2
        go_ret
        exact ⟨⟨_, rfl, by simpa using HE.out⟩, HBL.out⟩
  · have hbne : ((rs.length : Int) != (qs.length : Int)) = true := by simpa using fun h => hlen (by omega)
    have HNE := Lib.hid (show rs ≠ qs from fun e => hlen (by rw [e]))
    clear hlen
    go_enter Tryd.func44, Tryd.ntmps44
    go_wp2
    go_ret
    exact ⟨⟨_, rfl, by simpa using HNE.out⟩, Below.refl _ _⟩
set_option maxRecDepth 100000 in
set_option maxHeartbeats 4000000 in
theorem same_any1 (va vb : Value) (rs qs : List (ByteArray × List UInt8)) (w : World) (ha : RR w va rs) (hb : RR w vb qs) :
    Calls Tryd.prog 25 #[va, vb] w fun e w' => (∃ b, e = .returned (.bool b) ∧ (b = true ↔ rs = qs)) ∧ Below w.heap.size w w' := by
  have HE := Lib.hid (equalF_any va vb rs qs w ha hb)
  clear ha hb
  go_enter Tryd.func25, Tryd.ntmps25
  go_wp2_with fail
  refine HE.out.mono ?_
  rintro e w3 ⟨⟨b, rfl, hbb⟩, hb3⟩
  have HB := Lib.hid hb3
  have HBB := Lib.hid hbb
  clear hb3 hbb
  go_wp2
  go_ret
  exact ⟨⟨_, rfl, HBB.out⟩, HB.out⟩
end Go.Proofs.YtmdkonfmbbbepaaDoor
set_option linter.unusedVariables false
set_option linter.unusedSimpArgs false
namespace Go.Proofs.YtmdkonfmbbbepaaDoor
open Go.RowKit Go.Rst Go.Tp Go.Ts Go.Tk Go.Crc Go.On Go.Pg
def GivesBo (p : Prop) (w : World) (e : Ending) (w' : World) : Prop := (∃ b, e = .returned (.bool b) ∧ (b = true ↔ p)) ∧ Below w.heap.size w w'
set_option maxRecDepth 100000 in
set_option maxHeartbeats 8000000 in
theorem rising1_any (va : Value) (rs : List (ByteArray × List UInt8)) (w : World) (ha : RR w va rs) :
    Calls Tryd.prog 22 #[va] w (GivesBo (Ris rs) w) := by
  have HA := Lib.hid ha
  obtain ⟨A1, c1, rfl, hl1, hc1, _⟩ := ha
  unfold maxLen at hc1
  go_enter Tryd.func22, Tryd.ntmps22
  go_wp2
  go_loopw [3] (fun i wr => ∃ j : Nat, (j < rs.length ∨ j = 0) ∧ (∀ m (h : m + 1 < rs.length), m < j → Op.bytesLess rs[m].1.toList rs[m + 1].1.toList = true) ∧ i = .int .i64 ((j : Int) + 1) ∧ Below w.heap.size w wr) (fun i _ => rs.length - (intOf i).toNat)
  case atStart => exact ⟨0, .inr rfl, fun j h hj => by omega, rfl, Below.refl _ _⟩
  case round =>
    obtain ⟨j, hk, hall, rfl, hbel⟩ := hrel
    have HALL := Lib.hid hall
    clear hall
    by_cases hlt : j + 1 < rs.length
    · obtain ⟨b1, o1, u1, rfl, hx1, hy1, hr1, hq1⟩ := rr_two HA.out (k := j) (by omega)
      obtain ⟨b2, o2, u2, hAe, hx2, hy2, hr2, hq2⟩ := rr_two HA.out hlt
      injection hAe with hAe
      injection hAe with e1 e2 _
      subst e1
      subst e2
      have d1 := (hbel.cell (p := ⟨b1, o1 + j * 2 + 0, none⟩) hx1).trans (hy1 0 _ rfl)
      have d2 := (hbel.cell (p := ⟨b1, o1 + (j + 1) * 2 + 0, none⟩) hx2).trans (hy2 0 _ rfl)
      simp only [Nat.add_zero] at d1 d2
      have q2 : (j : Int) + 1 < (rs.length : Int) := by omega
      have q3 : (j : Int) < (rs.length : Int) := by omega
      have q4 : (0 : Int) ≤ (j : Int) + 1 := by omega
      have q5 : ((j : Int) + 1).toNat = j + 1 := by omega
      have q6 : (j : Int) + 1 - 1 = (j : Int) := by omega
      have q7 : IntKind.i64.wrap (j : Int) = (j : Int) := by rw [IntKind.wrap_i64]; omega
      have HN := Lib.hid (fun (h : Op.bytesLess rs[j].1.toList rs[j + 1].1.toList = false) (e : Ris rs) => (by have := e j hlt; rw [h] at this; cases this) : Op.bytesLess rs[j].1.toList rs[j + 1].1.toList = false → ¬ Ris rs)
      have HY := Lib.hid (fun (h : Op.bytesLess rs[j].1.toList rs[j + 1].1.toList = true) => (fun m (hm : m + 1 < rs.length) (hmj : m < j + 1) => by
        rcases Nat.lt_or_ge m j with h2 | h2
        · exact HALL.out m hm h2
        · have : m = j := by omega
          subst this
          exact h : ∀ m (h : m + 1 < rs.length), m < j + 1 → Op.bytesLess rs[m].1.toList rs[m + 1].1.toList = true) : Op.bytesLess rs[j].1.toList rs[j + 1].1.toList = true → ∀ m (h : m + 1 < rs.length), m < j + 1 → Op.bytesLess rs[m].1.toList rs[m + 1].1.toList = true)
      obtain ⟨x1, hxe1⟩ : ∃ x1, x1 = rs[j].1 := ⟨_, rfl⟩
      obtain ⟨x2, hxe2⟩ : ∃ x2, x2 = rs[j + 1].1 := ⟨_, rfl⟩
      rw [← hxe1, ← hxe2] at HN HY
      rw [← hxe1] at d1
      rw [← hxe2] at d2
      have HBL := Lib.hid hbel
      have HK := Lib.hid hk
      have HD1 := Lib.hid (fun W (h : Below wr.heap.size wr W) => (h.cell (p := ⟨b1, o1 + j * 2, none⟩) (Nat.lt_of_lt_of_le hx1 hbel.size)).trans d1)
      have HD2 := Lib.hid (fun W (h : Below wr.heap.size wr W) => (h.cell (p := ⟨b1, o1 + (j + 1) * 2, none⟩) (Nat.lt_of_lt_of_le hx2 hbel.size)).trans d2)
      clear hxe1 hxe2 hr1 hr2 hy1 hy2 hq1 hq2 hbel hk d1 d2
      cases hless : Op.bytesLess x1.toList x2.toList with
      | true =>
        have HY2 := Lib.hid (HY.out hless)
        go_wp2_with fail
        refine wp_region_held_drew (S := SB [wr]) (by kernel_rfl) (SB.start _) (fun hHeld => ?_)
        refine tkC 0 ?_
        refine tkC 1 ?_
        refine tkC 2 ?_
        refine tkC 3 ?_
        refine tkC 4 ?_
        refine tkA 5 (v := ?_) ?_ ?_
        rotate_left
        · intro W hSw; have hq := HD1.out W (SB.b0 hSw); go_simp; try (with_reducible rfl)
        try simp only [Act.put, zA, zB, zC]
        refine tkC 6 ?_
        refine tkC 7 ?_
        refine tkC 8 ?_
        refine tkC 9 ?_
        refine tkA 10 (v := ?_) ?_ ?_
        rotate_left
        · intro W hSw; have hq := HD2.out W (SB.b0 hSw); go_simp; try (with_reducible rfl)
        try simp only [Act.put, zA, zB, zC]
        refine tkA 11 (v := .bool false) ?_ ?_
        · intro W hSw; go_simp; try simp [hless]
        try simp only [Act.put, zA, zB, zC]
        refine wpAnyH_done (by kernel_rfl) ?_ _
        go_wp2
        go_roundw
        case rel => exact ⟨j + 1, .inl (by omega), HY2.out, by go_num, HBL.out.drew⟩
        case measure => simp [intOf]; omega
      | false =>
        have HNE := Lib.hid (HN.out hless)
        go_wp2_with fail
        refine wp_region_held_drew (S := SB [wr]) (by kernel_rfl) (SB.start _) (fun hHeld => ?_)
        refine tkC 0 ?_
        refine tkC 1 ?_
        refine tkC 2 ?_
        refine tkC 3 ?_
        refine tkC 4 ?_
        refine tkA 5 (v := ?_) ?_ ?_
        rotate_left
        · intro W hSw; have hq := HD1.out W (SB.b0 hSw); go_simp; try (with_reducible rfl)
        try simp only [Act.put, zA, zB, zC]
        refine tkC 6 ?_
        refine tkC 7 ?_
        refine tkC 8 ?_
        refine tkC 9 ?_
        refine tkA 10 (v := ?_) ?_ ?_
        rotate_left
        · intro W hSw; have hq := HD2.out W (SB.b0 hSw); go_simp; try (with_reducible rfl)
        try simp only [Act.put, zA, zB, zC]
        refine tkA 11 (v := .bool true) ?_ ?_
        · intro W hSw; go_simp; try simp [hless]
        try simp only [Act.put, zA, zB, zC]
        refine wpAnyH_done (by kernel_rfl) ?_ _
        go_wp2
        go_ret
        exact ⟨⟨_, rfl, by simpa using HNE.out⟩, HBL.out.drew⟩
    · have q2 : ¬ (j : Int) + 1 < (rs.length : Int) := by omega
      have HE := Lib.hid (show Ris rs from fun m hm => HALL.out m hm (by omega))
      have HBL := Lib.hid hbel
      clear hbel
      go_wp2
      go_ret
      exact ⟨⟨_, rfl, by simpa using HE.out⟩, HBL.out⟩
end Go.Proofs.YtmdkonfmbbbepaaDoor
