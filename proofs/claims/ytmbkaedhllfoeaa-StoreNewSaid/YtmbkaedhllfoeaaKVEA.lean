/-
 The contracts of slices.IsSortedFunc, slices.BinarySearchFunc and the program's halve at rising rows.
-/
import Derived.Test.YtmbkaedhllfoeaaKVB
import Derived.Test.YtmbkaedhllfoeaaKVD
import Derived.Test.YtmbkaedhllfoeaaKVDJ
set_option linter.unusedVariables false
namespace Go.Pg
open Go.Rst
theorem sorted_cmp {rs : List Rw} (hs : Sorted rs) {j : Nat} (hj : j + 1 < rs.length) : ¬ cmpS rs[j + 1].1 (rs[j]'(by omega)).1 < 0 := by
 rw [cmp_lt]
 have := hs.at (Nat.lt_succ_self j) hj
 unfold lt kl at this
 rw [bl_asymm this]
 decide
theorem has_at {k : ByteArray} {l : List Rw} (h : posL k l < l.length) : hasL k l = decide (cmpS l[posL k l].1 k = 0) := by
 unfold hasL
 rw [List.getElem?_eq_getElem h]
 simp only
 rw [Bool.eq_iff_iff, beq_iff_eq, decide_eq_true_iff, cmp_eq0]
theorem has_end {k : ByteArray} {l : List Rw} (h : ¬ posL k l < l.length) : hasL k l = false := by
 unfold hasL
 rw [List.getElem?_eq_none (by omega)]
end Go.Pg
namespace Go.Proofs.Ytmbkaedhllfoeaa
open Go.RowKit Go.Rst Go.Pg Go.Crc
abbrev byKeyVal : Value := .func (.func 53) #[] #[]
abbrev halve1Val : Value := .func (.func 80) #[] #[]
set_option maxRecDepth 100000 in
set_option maxHeartbeats 2000000 in
theorem sortedF_any (v : Value) (rs : List Rw) (w : World) (hv : RR w v rs) (hs : Sorted rs) (hlen : rs.length ≤ 3000000000002) :
  Calls Try.prog 52 #[v, byKeyVal] w fun e w' => e = .returned (.bool true) ∧ Below w.heap.size w w' := by
 have HV := Lib.hid hv
 have HS := Lib.hid hs
 obtain ⟨A, c, rfl, _, _⟩ := rr_shape hv
 clear hv hs
 go_enter Try.func52, Try.ntmps52
 go_wp2
 go_loopw [5] (fun i wr => ∃ k : Int, i = .int .i64 k ∧ -1 ≤ k ∧ k < rs.length ∧ Below w.heap.size w wr) (fun i _ => (intOf i).toNat)
 case atStart => exact ⟨(rs.length : Int) - 1, rfl, by omega, by omega, Below.refl _ _⟩
 case round =>
  obtain ⟨k, rfl, hk1, hk2, hbel⟩ := hrel
  obtain ⟨Wo, hWo⟩ : ∃ x, x = wr := ⟨_, rfl⟩
  subst hWo
  by_cases hpos : 0 < k
  ·obtain ⟨j, rfl⟩ : ∃ j : Nat, k = (j : Int) + 1 := ⟨(k - 1).toNat, by omega⟩
   have hj : j + 1 < rs.length := by omega
   have hj0 : j < rs.length := by omega
   have hcmp := sorted_cmp HS.out hj
   obtain ⟨b, off, u1, rfl, hx1, hy1, hr1⟩ := rr_at HV.out hj
   obtain ⟨b2, off2, u2, he, hx2, hy2, hr2⟩ := rr_at HV.out hj0
   injection he with he
   injection he with e1 e2 _
   subst e1
   subst e2
   have hbw : b < w.heap.size := block_lt_of_cell hx1
   have hbs : b < Wo.heap.size := Nat.lt_of_lt_of_le hbw hbel.size
   have hx1' := (hbel.cell (p := ⟨b, off + (j + 1) * 2, none⟩) hbw).trans hx1
   have hy1' := (hbel.cell (p := ⟨b, off + (j + 1) * 2 + 1, none⟩) hbw).trans hy1
   have hx2' := (hbel.cell (p := ⟨b, off + j * 2, none⟩) hbw).trans hx2
   have hy2' := (hbel.cell (p := ⟨b, off + j * 2 + 1, none⟩) hbw).trans hy2
   obtain ⟨A3, c3, hu1, _⟩ := hr1
   obtain ⟨A4, c4, hu2, _⟩ := hr2
   obtain ⟨n1, hn1⟩ : ∃ n, n = rs[j + 1].2.length := ⟨_, rfl⟩
   obtain ⟨n2, hn2⟩ : ∃ n, n = rs[j].2.length := ⟨_, rfl⟩
   rw [← hn1] at hu1
   rw [← hn2] at hu2
   subst hu1
   subst hu2
   obtain ⟨k1, hk1e⟩ : ∃ n, n = rs[j + 1].1 := ⟨_, rfl⟩
   obtain ⟨k2, hk2e⟩ : ∃ n, n = rs[j].1 := ⟨_, rfl⟩
   rw [← hk1e] at hx1' hcmp
   rw [← hk2e] at hx2' hcmp
   have hlt : (cmpS k1 k2 < 0) = False := eq_false hcmp
   have q1 : (0 : Int) ≤ (j : Int) + 1 := by omega
   have q2 : (j : Int) + 1 < rs.length := by omega
   have q3 : (0 : Int) ≤ (j : Int) := by omega
   have q4 : (j : Int) < rs.length := by omega
   have q5 : ((j : Int) + 1).toNat = j + 1 := by omega
   have q6 : ((j : Int) + 1) - 1 = (j : Int) := by omega
   have q7 : IntKind.i64.wrap (j : Int) = (j : Int) := by rw [IntKind.wrap_i64]; omega
   have HB := Lib.hid hbel
   have HC := Lib.hid hlt
   clear hx1 hy1 hx2 hy2 hn1 hn2 hk1e hk2e hcmp hlt hbel
   go_wp2
   refine wp_region_held_drew (S := SB [Wo]) (by kernel_rfl) (SB.start _) (fun hHeld => ?_)
   refine wpAnyH_take (i := 0) (oi := { dst := some 13, op := Op.move (Operand.tmp 1), type := 108, pos := "sort.go:55", after := #[], guard := none }) (v := ?_) rfl (by kernel_rfl) (by kernel_rfl) (by kernel_rfl) (fun _ _ _ h => h) (Or.inl ⟨by rfl, ?_⟩) (by assumption) ?_
   rotate_left
   ·intro W hSw; go_simp; try (with_reducible rfl)
   try simp only [Act.put, List.setIfInBounds_toArray, List.set_cons_zero, List.set_cons_succ]
   refine wpAnyH_take (i := 1) (oi := { dst := some 14, op := Op.move (Operand.tmp 0), type := 40, pos := "sort.go:55", after := #[], guard := none }) (v := ?_) rfl (by kernel_rfl) (by kernel_rfl) (by kernel_rfl) (fun _ _ _ h => h) (Or.inl ⟨by rfl, ?_⟩) (by assumption) ?_
   rotate_left
   ·intro W hSw; go_simp; try (with_reducible rfl)
   try simp only [Act.put, List.setIfInBounds_toArray, List.set_cons_zero, List.set_cons_succ]
   refine wpAnyH_take (i := 2) (oi := { dst := some 15, op := Op.move (Operand.tmp 5), type := 3, pos := "sort.go:55", after := #[], guard := none }) (v := ?_) rfl (by kernel_rfl) (by kernel_rfl) (by kernel_rfl) (fun _ _ _ h => h) (Or.inl ⟨by rfl, ?_⟩) (by assumption) ?_
   rotate_left
   ·intro W hSw; go_simp; try (with_reducible rfl)
   try simp only [Act.put, List.setIfInBounds_toArray, List.set_cons_zero, List.set_cons_succ]
   refine wpAnyH_take (i := 3) (oi := { dst := some 16, op := Op.indexAddr 40 (Operand.tmp 14) (Operand.tmp 15), type := 0, pos := "sort.go:55", after := #[{ on := 1, ground := Ground.data }, { on := 2, ground := Ground.data }], guard := none }) (v := ?_) rfl (by kernel_rfl) (by kernel_rfl) (by kernel_rfl) (fun _ _ _ h => h) (Or.inl ⟨by rfl, ?_⟩) (by assumption) ?_
   rotate_left
   ·intro W hSw; go_simp; try (with_reducible rfl)
   try simp only [Act.put, List.setIfInBounds_toArray, List.set_cons_zero, List.set_cons_succ]
   refine wpAnyH_take (i := 4) (oi := { dst := some 17, op := Op.load 47 (Operand.tmp 16), type := 47, pos := "sort.go:55", after := #[{ on := 3, ground := Ground.data }], guard := none }) (v := ?_) rfl (by kernel_rfl) (by kernel_rfl) (by kernel_rfl) (fun _ _ _ h => h) (Or.inl ⟨by rfl, ?_⟩) (by assumption) ?_
   rotate_left
   ·intro W hSw; have hq := ((SB.b0 hSw).cell (p := ⟨b, off + (j + 1) * 2, none⟩) hbs).trans hx1'; have hq2 := ((SB.b0 hSw).cell (p := ⟨b, off + (j + 1) * 2 + 1, none⟩) hbs).trans hy1'; go_simp; try (with_reducible rfl)
   try simp only [Act.put, List.setIfInBounds_toArray, List.set_cons_zero, List.set_cons_succ]
   refine wpAnyH_take (i := 5) (oi := { dst := some 18, op := Op.move (Operand.tmp 0), type := 40, pos := "sort.go:55", after := #[], guard := none }) (v := ?_) rfl (by kernel_rfl) (by kernel_rfl) (by kernel_rfl) (fun _ _ _ h => h) (Or.inl ⟨by rfl, ?_⟩) (by assumption) ?_
   rotate_left
   ·intro W hSw; go_simp; try (with_reducible rfl)
   try simp only [Act.put, List.setIfInBounds_toArray, List.set_cons_zero, List.set_cons_succ]
   refine wpAnyH_take (i := 6) (oi := { dst := some 19, op := Op.move (Operand.tmp 5), type := 3, pos := "sort.go:55", after := #[], guard := none }) (v := ?_) rfl (by kernel_rfl) (by kernel_rfl) (by kernel_rfl) (fun _ _ _ h => h) (Or.inl ⟨by rfl, ?_⟩) (by assumption) ?_
   rotate_left
   ·intro W hSw; go_simp; try (with_reducible rfl)
   try simp only [Act.put, List.setIfInBounds_toArray, List.set_cons_zero, List.set_cons_succ]
   refine wpAnyH_take (i := 7) (oi := { dst := some 20, op := Op.binOp BinOp.sub 3 (Operand.tmp 19) (Operand.const (Value.int IntKind.i64 1)) 3, type := 3, pos := "sort.go:55", after := #[{ on := 6, ground := Ground.data }], guard := none }) (v := ?_) rfl (by kernel_rfl) (by kernel_rfl) (by kernel_rfl) (fun _ _ _ h => h) (Or.inl ⟨by rfl, ?_⟩) (by assumption) ?_
   rotate_left
   ·intro W hSw; go_simp; try (with_reducible rfl)
   try simp only [Act.put, List.setIfInBounds_toArray, List.set_cons_zero, List.set_cons_succ]
   refine wpAnyH_take (i := 8) (oi := { dst := some 21, op := Op.indexAddr 40 (Operand.tmp 18) (Operand.tmp 20), type := 0, pos := "sort.go:55", after := #[{ on := 5, ground := Ground.data }, { on := 7, ground := Ground.data }], guard := none }) (v := ?_) rfl (by kernel_rfl) (by kernel_rfl) (by kernel_rfl) (fun _ _ _ h => h) (Or.inl ⟨by rfl, ?_⟩) (by assumption) ?_
   rotate_left
   ·intro W hSw; go_simp; try (with_reducible rfl)
   try simp only [Act.put, List.setIfInBounds_toArray, List.set_cons_zero, List.set_cons_succ]
   refine wpAnyH_take (i := 9) (oi := { dst := some 22, op := Op.load 47 (Operand.tmp 21), type := 47, pos := "sort.go:55", after := #[{ on := 8, ground := Ground.data }], guard := none }) (v := ?_) rfl (by kernel_rfl) (by kernel_rfl) (by kernel_rfl) (fun _ _ _ h => h) (Or.inl ⟨by rfl, ?_⟩) (by assumption) ?_
   rotate_left
   ·intro W hSw; have hq := ((SB.b0 hSw).cell (p := ⟨b, off + j * 2, none⟩) hbs).trans hx2'; have hq2 := ((SB.b0 hSw).cell (p := ⟨b, off + j * 2 + 1, none⟩) hbs).trans hy2'; go_simp; try (with_reducible rfl)
   try simp only [Act.put, List.setIfInBounds_toArray, List.set_cons_zero, List.set_cons_succ]
   refine wpAnyH_ready (rs := [10]) (by kernel_rfl) (by simp) ?_
   refine AllReadyH.cons (o := { dst := some 23, op := Op.call { callee := Callee.value (Operand.tmp 13), args := #[Operand.tmp 17, Operand.tmp 22], argTypes := #[47, 47] }, type := 3, pos := "sort.go:55", after := #[{ on := 0, ground := Ground.data }, { on := 4, ground := Ground.data }, { on := 9, ground := Ground.data }], guard := none }) rfl (fun K hK => ?_) AllReadyH.nil
   go_simp
   refine (byKey_any k1 k2 _ _ rfl rfl _).mono ?_
   rintro e w3 ⟨rfl, hbw3⟩
   try (go_wp2_with fail)
   have hHeld' := SB.step hHeld hbw3
   refine hK.out _ _ ?_ (fun _ => ?_)
   ·exact hHeld'
   clear hK K
   try simp only [Act.put, List.setIfInBounds_toArray, List.set_cons_zero, List.set_cons_succ]
   have hHeld := SB.more hHeld'
   clear hHeld'
   refine wpAnyH_more (S' := SB [w3, Wo]) (fun W h => SB.less W h) _ _ _ _ ?_
   refine wpAnyH_take (i := 11) (oi := { dst := some 24, op := Op.binOp BinOp.lss 3 (Operand.tmp 23) (Operand.const (Value.int IntKind.i64 0)) 3, type := 4, pos := "sort.go:55", after := #[{ on := 10, ground := Ground.data }], guard := none }) (v := ?_) rfl (by kernel_rfl) (by kernel_rfl) (by kernel_rfl) (fun _ _ _ h => h) (Or.inl ⟨by rfl, ?_⟩) (by assumption) ?_
   rotate_left
   ·intro W hSw; have hq3 := HC.out; go_simp; try (with_reducible rfl)
   try simp only [Act.put, List.setIfInBounds_toArray, List.set_cons_zero, List.set_cons_succ]
   refine wpAnyH_done (by kernel_rfl) ?_ _
   have HB3 := Lib.hid (HB.out.trans ((SB.b1 hHeld).mono HB.out.size))
   have hz := HC.out
   clear hHeld hx1' hx2' hy1' hy2'
   go_wp2
   go_roundw
   case rel => exact ⟨(j : Int), by go_num, by omega, by omega, HB3.out⟩
   case measure => simp [intOf]
  ·have HB := Lib.hid hbel
   clear hbel
   go_wp2
   go_ret
   exact ⟨rfl, HB.out⟩
set_option maxRecDepth 100000 in
set_option maxHeartbeats 2000000 in
theorem bsearch_any (v : Value) (rs : List Rw) (key : ByteArray) (w : World) (hv : RR w v rs) (hs : Sorted rs) (hlen : rs.length ≤ 3000000000002) :
  Calls Try.prog 79 #[v, .string key, halve1Val] w fun e w' => e = .returned (.tuple #[.int .i64 (posL key rs : Nat), .bool (hasL key rs)]) ∧ Below w.heap.size w w' := by
 have HV := Lib.hid hv
 have HS := Lib.hid hs
 obtain ⟨A, c, rfl, _, _⟩ := rr_shape hv
 clear hv hs
 go_enter Try.func79, Try.ntmps79
 go_wp2
 go_loopw [9, 10] (fun s9 s10 wr => ∃ lo hi : Nat, s9 = .int .i64 lo ∧ s10 = .int .i64 hi ∧ lo ≤ hi ∧ hi ≤ rs.length ∧ (∀ t (h : t < rs.length), t < lo → Op.bytesLess rs[t].1.toList key.toList = true) ∧ (∀ t (h : t < rs.length), hi ≤ t → Op.bytesLess rs[t].1.toList key.toList = false) ∧ Below w.heap.size w wr)
  (fun s9 s10 _ => (intOf s10 - intOf s9).toNat)
 case atStart => exact ⟨0, rs.length, rfl, rfl, Nat.zero_le _, Nat.le_refl _, fun t _ h => absurd h (Nat.not_lt_zero _), fun t h h2 => by omega, Below.refl _ _⟩
 case round =>
  obtain ⟨lo, hi, rfl, rfl, hlh, hin, hlo, hhi, hbel⟩ := hrel
  obtain ⟨Wo, hWo⟩ : ∃ x, x = wr := ⟨_, rfl⟩
  subst hWo
  by_cases hlt : lo < hi
  ·obtain ⟨m, hm⟩ : ∃ m, m = (lo + hi) / 2 := ⟨_, rfl⟩
   have hml : m < rs.length := by omega
   have hmi : ((lo : Int) + (hi : Int)) / 2 = (m : Int) := by omega
   obtain ⟨b, off, u1, rfl, hx1, hy1, hr1⟩ := rr_at HV.out hml
   have hbw : b < w.heap.size := block_lt_of_cell hx1
   have hx1' := (hbel.cell (p := ⟨b, off + m * 2, none⟩) hbw).trans hx1
   have hy1' := (hbel.cell (p := ⟨b, off + m * 2 + 1, none⟩) hbw).trans hy1
   obtain ⟨A3, c3, hu1, _⟩ := hr1
   obtain ⟨n1, hn1⟩ : ∃ n, n = rs[m].2.length := ⟨_, rfl⟩
   rw [← hn1] at hu1
   subst hu1
   have hcmp := cmp_lt rs[m].1 key
   have HLO := Lib.hid hlo
   have HHI := Lib.hid hhi
   obtain ⟨k1, hk1⟩ : ∃ n, n = rs[m].1 := ⟨_, rfl⟩
   have hkm : rs[m].1.toList = k1.toList := by rw [hk1]
   rw [← hk1] at hx1' hcmp
   have HKM := Lib.hid hkm
   have HB := Lib.hid hbel
   have q1 : (0 : Int) ≤ (m : Int) := by omega
   have q2 : (m : Int) < rs.length := by omega
   have hw1 : IntKind.i64.wrap ((lo : Int) + (hi : Int)) = (lo : Int) + (hi : Int) := by rw [IntKind.wrap_i64]; omega
   have HM := Lib.hid hm
   clear hx1 hy1 hn1 hk1 hkm hlo hhi hbel hm
   cases hc : Op.bytesLess k1.toList key.toList with
   | true =>
    rw [hc] at hcmp
    have hlt0 : (cmpS k1 key < 0) = True := eq_true (hcmp.2 rfl)
    have HC := Lib.hid hc
    clear hcmp hc
    go_wp2_with fail
    refine (halve1_any k1 key _ rfl _).mono ?_
    rintro e w3 ⟨rfl, hb3⟩
    have HB3 := Lib.hid (HB.out.trans (hb3.mono HB.out.size))
    clear hb3
    go_wp2
    go_roundw
    case rel =>
     have hm := HM.out
     refine ⟨m + 1, hi, by go_num, rfl, by omega, hin, fun t ht htm => ?_, HHI.out, HB3.out⟩
     rcases Nat.lt_or_ge t m with h | h
     ·have := HS.out.at h hml
      unfold lt kl at this
      rw [HKM.out] at this
      exact bl_trans _ _ _ this HC.out
     ·obtain rfl : t = m := by omega
      rw [HKM.out]
      exact HC.out
    case measure => have hm := HM.out; simp [intOf]; omega
   | false =>
    rw [hc] at hcmp
    have hlt0 : (cmpS k1 key < 0) = False := eq_false (fun h => by have := hcmp.1 h; cases this)
    have HC := Lib.hid hc
    clear hcmp hc
    go_wp2_with fail
    refine (halve1_any k1 key _ rfl _).mono ?_
    rintro e w3 ⟨rfl, hb3⟩
    have HB3 := Lib.hid (HB.out.trans (hb3.mono HB.out.size))
    clear hb3
    go_wp2
    go_roundw
    case rel =>
     have hm := HM.out
     refine ⟨lo, m, rfl, rfl, by omega, by omega, HLO.out, fun t ht htm => ?_, HB3.out⟩
     cases hcc : Op.bytesLess rs[t].1.toList key.toList
     ·rfl
     ·rcases Nat.lt_or_ge m t with h | h
      ·have := HS.out.at h ht
       unfold lt kl at this
       rw [HKM.out] at this
       have := bl_trans _ _ _ this hcc
       rw [HC.out] at this
       cases this
      ·obtain rfl : t = m := by omega
       rw [HKM.out, HC.out] at hcc
       cases hcc
    case measure => have hm := HM.out; simp [intOf]; omega
  ·obtain rfl : hi = lo := by omega
   have hpos : posL key rs = hi := posL_of hin hlo (fun h => hhi hi h (Nat.le_refl _))
   by_cases hend : hi < rs.length
   ·obtain ⟨b, off, u1, rfl, hx1, hy1, hr1⟩ := rr_at HV.out hend
    have hbw : b < w.heap.size := block_lt_of_cell hx1
    have hx1' := (hbel.cell (p := ⟨b, off + hi * 2, none⟩) hbw).trans hx1
    have hy1' := (hbel.cell (p := ⟨b, off + hi * 2 + 1, none⟩) hbw).trans hy1
    obtain ⟨A3, c3, hu1, _⟩ := hr1
    obtain ⟨n1, hn1⟩ : ∃ n, n = rs[hi].2.length := ⟨_, rfl⟩
    rw [← hn1] at hu1
    subst hu1
    have hhas := has_at (k := key) (l := rs) (by rw [hpos]; exact hend)
    simp only [hpos] at hhas
    obtain ⟨k1, hk1⟩ : ∃ n, n = rs[hi].1 := ⟨_, rfl⟩
    rw [← hk1] at hx1' hhas
    have HB := Lib.hid hbel
    have HP := Lib.hid hpos
    have q1 : (0 : Int) ≤ (hi : Int) := by omega
    have q2 : (hi : Int) < rs.length := by omega
    clear hx1 hy1 hn1 hk1 hlo hhi hbel hpos
    cases hc : decide (cmpS k1 key = 0) with
    | true =>
     rw [hc] at hhas
     have HH := Lib.hid hhas
     have hbq : (cmpS k1 key == 0) = true := beq_iff_eq.2 (of_decide_eq_true hc)
     clear hc hhas
     go_wp2_with fail
     refine (halve1_any k1 key _ rfl _).mono ?_
     rintro e w3 ⟨rfl, hb3⟩
     have HB3 := Lib.hid (HB.out.trans (hb3.mono HB.out.size))
     clear hb3
     go_wp2
     go_ret2
     exact ⟨by rw [HP.out, HH.out]; rfl, HB3.out⟩
    | false =>
     rw [hc] at hhas
     have HH := Lib.hid hhas
     have hbq : (cmpS k1 key == 0) = false := beq_eq_false_iff_ne.2 (of_decide_eq_false hc)
     clear hc hhas
     go_wp2_with fail
     refine (halve1_any k1 key _ rfl _).mono ?_
     rintro e w3 ⟨rfl, hb3⟩
     have HB3 := Lib.hid (HB.out.trans (hb3.mono HB.out.size))
     clear hb3
     go_wp2
     go_ret2
     exact ⟨by rw [HP.out, HH.out]; rfl, HB3.out⟩
   ·have HH := Lib.hid (show hasL key rs = false from has_end (by rw [hpos]; exact hend))
    have HP := Lib.hid hpos
    have HB := Lib.hid hbel
    clear hlo hhi hbel hpos
    go_wp2
    go_ret2
    exact ⟨by rw [HP.out, HH.out]; rfl, HB.out⟩
set_option maxRecDepth 100000 in
set_option maxHeartbeats 1000000 in
theorem halve_any (v : Value) (rs : List Rw) (key : ByteArray) (w : World) (hv : RR w v rs) (hs : Sorted rs) (hlen : rs.length ≤ 3000000000002) :
  Calls Try.prog 54 #[v, .string key] w fun e w' => e = .returned (.tuple #[.int .i64 (posL key rs : Nat), .bool (hasL key rs)]) ∧ Below w.heap.size w w' := by
 have HC := Lib.hid (bsearch_any v rs key w hv hs hlen)
 obtain ⟨A, c, rfl, _, _⟩ := rr_shape hv
 clear hv hs
 generalize posL key rs = p at *
 generalize hasL key rs = h at *
 go_enter Try.func54, Try.ntmps54
 go_wp2_with fail
 refine HC.out.mono ?_
 rintro e w1 ⟨rfl, hb1⟩
 have HB := Lib.hid hb1
 clear hb1
 go_wp2
 go_ret2
 exact ⟨rfl, HB.out⟩
end Go.Proofs.Ytmbkaedhllfoeaa
