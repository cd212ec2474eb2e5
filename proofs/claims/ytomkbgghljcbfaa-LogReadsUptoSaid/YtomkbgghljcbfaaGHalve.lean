/-
  The contracts of slices.IsSortedFunc, slices.BinarySearchFunc and the program's halve at rising rows.
-/
import Derived.Test.YtomkbgghljcbfaaCmp
import Derived.Test.YtomkbgghljcbfaaGPg
import Derived.Test.YtomkbgghljcbfaaGWords
import Derived.Test.YtomkbgghljcbfaaBase
import Derived.Laws.CopyOwn
import Derived.Laws.CopyRow
import Derived.Laws.IdiomCopy
import Derived.Lib.SliceRun
import Derived.Lib.AppendZerosOnto
import Derived.Laws.NewBlocks
set_option linter.unusedVariables false

namespace Go.Pg
open Go.Rst
theorem sorted_cmp {rs : List Rw} (hs : Sorted rs) {j : Nat} (hj : j + 1 < rs.length) : ¬ cmpS rs[j + 1].1 (rs[j]'(by omega)).1 < 0 := by
  rw [cmp_lt]
  have := hs.at (Nat.lt_succ_self j) hj
  unfold lt kl at this
  rw [bl_asymm this]
  decide
theorem has_at {k : ByteArray} {l : List Rw} (h : posL k l < l.length) : hasL k l = decide (cmpS l[posL k l].1 k = 0) := by
  unfold hasL
  rw [List.getElem?_eq_getElem h]
  simp only
  rw [Bool.eq_iff_iff, beq_iff_eq, decide_eq_true_iff, cmp_eq0]
theorem has_end {k : ByteArray} {l : List Rw} (h : ¬ posL k l < l.length) : hasL k l = false := by
  unfold hasL
  rw [List.getElem?_eq_none (by omega)]
end Go.Pg
namespace Go.Proofs.Ytomkbgghljcbfaa
open Go.RowKit Go.Rst Go.Pg Go.Crc
abbrev byKeyVal : Value := .func (.func 33) #[] #[]
abbrev halve1Val : Value := .func (.func 56) #[] #[]

set_option maxRecDepth 100000 in
set_option maxHeartbeats 2000000 in
theorem sortedF_any (v : Value) (rs : List Rw) (w : World) (hv : RR w v rs) (hs : Sorted rs) (hlen : rs.length ≤ 3000000000002) :
    Calls Try.prog 32 #[v, byKeyVal] w fun e w' => e = .returned (.bool true) ∧ Below w.heap.size w w' := by
  have HV := Lib.hid hv
  have HS := Lib.hid hs
  obtain ⟨A, c, rfl, _, _⟩ := rr_shape hv
  clear hv hs
  go_enter Try.func32, Try.ntmps32
  go_wp2
  go_loopw [5] (fun i wr => ∃ k : Int, i = .int .i64 k ∧ -1 ≤ k ∧ k < rs.length ∧ Below w.heap.size w wr) (fun i _ => (intOf i).toNat)
  case atStart => exact ⟨(rs.length : Int) - 1, rfl, by omega, by omega, Below.refl _ _⟩
  case round =>
    obtain ⟨k, rfl, hk1, hk2, hbel⟩ := hrel
    obtain ⟨Wo, hWo⟩ : ∃ x, x = wr := ⟨_, rfl⟩
    subst hWo
    by_cases hpos : 0 < k
    · obtain ⟨j, rfl⟩ : ∃ j : Nat, k = (j : Int) + 1 := ⟨(k - 1).toNat, by omega⟩
      have hj : j + 1 < rs.length := by omega
      have hj0 : j < rs.length := by omega
      have hcmp := sorted_cmp HS.out hj
      obtain ⟨b, off, u1, rfl, hx1, hy1, hr1⟩ := rr_at HV.out hj
      obtain ⟨b2, off2, u2, he, hx2, hy2, hr2⟩ := rr_at HV.out hj0
      injection he with he
      injection he with e1 e2 _
      subst e1
      subst e2
      have hbw : b < w.heap.size := block_lt_of_cell hx1
      have hbs : b < Wo.heap.size := Nat.lt_of_lt_of_le hbw hbel.size
      have hx1' := (hbel.cell (p := ⟨b, off + (j + 1) * 2, none⟩) hbw).trans hx1
      have hy1' := (hbel.cell (p := ⟨b, off + (j + 1) * 2 + 1, none⟩) hbw).trans hy1
      have hx2' := (hbel.cell (p := ⟨b, off + j * 2, none⟩) hbw).trans hx2
      have hy2' := (hbel.cell (p := ⟨b, off + j * 2 + 1, none⟩) hbw).trans hy2
      obtain ⟨A3, c3, hu1, _⟩ := hr1
      obtain ⟨A4, c4, hu2, _⟩ := hr2
      obtain ⟨n1, hn1⟩ : ∃ n, n = rs[j + 1].2.length := ⟨_, rfl⟩
      obtain ⟨n2, hn2⟩ : ∃ n, n = rs[j].2.length := ⟨_, rfl⟩
      rw [← hn1] at hu1
      rw [← hn2] at hu2
      subst hu1
      subst hu2
      obtain ⟨k1, hk1e⟩ : ∃ n, n = rs[j + 1].1 := ⟨_, rfl⟩
      obtain ⟨k2, hk2e⟩ : ∃ n, n = rs[j].1 := ⟨_, rfl⟩
      rw [← hk1e] at hx1' hcmp
      rw [← hk2e] at hx2' hcmp
      have hlt : (cmpS k1 k2 < 0) = False := eq_false hcmp
      have q1 : (0 : Int) ≤ (j : Int) + 1 := by omega
      have q2 : (j : Int) + 1 < rs.length := by omega
      have q3 : (0 : Int) ≤ (j : Int) := by omega
      have q4 : (j : Int) < rs.length := by omega
      have q5 : ((j : Int) + 1).toNat = j + 1 := by omega
      have q6 : ((j : Int) + 1) - 1 = (j : Int) := by omega
      have q7 : IntKind.i64.wrap (j : Int) = (j : Int) := by rw [IntKind.wrap_i64]; omega
      have HB := Lib.hid hbel
      have HC := Lib.hid hlt
      clear hx1 hy1 hx2 hy2 hn1 hn2 hk1e hk2e hcmp hlt hbel
      go_wp2
      refine wp_region_held_drew (S := SB [Wo]) (by kernel_rfl) (SB.start _) (fun hHeld => ?_)
      refine wpAnyH_take (i := 0) (oi := { dst := some 13, op := Op.move (Operand.tmp 1), type := 59, pos := "sort.go:55", after := #[], guard := none }) (v := ?_) rfl (by kernel_rfl) (by kernel_rfl) (by kernel_rfl) (fun _ _ _ h => h) (Or.inl ⟨by rfl, ?_⟩) (by assumption) ?_
      rotate_left
      · intro W hSw; go_simp; try (with_reducible rfl)
      try simp only [Act.put, List.setIfInBounds_toArray, List.set_cons_zero, List.set_cons_succ]
      refine wpAnyH_take (i := 1) (oi := { dst := some 14, op := Op.move (Operand.tmp 0), type := 34, pos := "sort.go:55", after := #[], guard := none }) (v := ?_) rfl (by kernel_rfl) (by kernel_rfl) (by kernel_rfl) (fun _ _ _ h => h) (Or.inl ⟨by rfl, ?_⟩) (by assumption) ?_
      rotate_left
      · intro W hSw; go_simp; try (with_reducible rfl)
      try simp only [Act.put, List.setIfInBounds_toArray, List.set_cons_zero, List.set_cons_succ]
      refine wpAnyH_take (i := 2) (oi := { dst := some 15, op := Op.move (Operand.tmp 5), type := 3, pos := "sort.go:55", after := #[], guard := none }) (v := ?_) rfl (by kernel_rfl) (by kernel_rfl) (by kernel_rfl) (fun _ _ _ h => h) (Or.inl ⟨by rfl, ?_⟩) (by assumption) ?_
      rotate_left
      · intro W hSw; go_simp; try (with_reducible rfl)
      try simp only [Act.put, List.setIfInBounds_toArray, List.set_cons_zero, List.set_cons_succ]
      refine wpAnyH_take (i := 3) (oi := { dst := some 16, op := Op.indexAddr 34 (Operand.tmp 14) (Operand.tmp 15), type := 0, pos := "sort.go:55", after := #[{ on := 1, ground := Ground.data }, { on := 2, ground := Ground.data }], guard := none }) (v := ?_) rfl (by kernel_rfl) (by kernel_rfl) (by kernel_rfl) (fun _ _ _ h => h) (Or.inl ⟨by rfl, ?_⟩) (by assumption) ?_
      rotate_left
      · intro W hSw; go_simp; try (with_reducible rfl)
      try simp only [Act.put, List.setIfInBounds_toArray, List.set_cons_zero, List.set_cons_succ]
      refine wpAnyH_take (i := 4) (oi := { dst := some 17, op := Op.load 53 (Operand.tmp 16), type := 53, pos := "sort.go:55", after := #[{ on := 3, ground := Ground.data }], guard := none }) (v := ?_) rfl (by kernel_rfl) (by kernel_rfl) (by kernel_rfl) (fun _ _ _ h => h) (Or.inl ⟨by rfl, ?_⟩) (by assumption) ?_
      rotate_left
      · intro W hSw; have hq := ((SB.b0 hSw).cell (p := ⟨b, off + (j + 1) * 2, none⟩) hbs).trans hx1'; have hq2 := ((SB.b0 hSw).cell (p := ⟨b, off + (j + 1) * 2 + 1, none⟩) hbs).trans hy1'; go_simp; try (with_reducible rfl)
      try simp only [Act.put, List.setIfInBounds_toArray, List.set_cons_zero, List.set_cons_succ]
      refine wpAnyH_take (i := 5) (oi := { dst := some 18, op := Op.move (Operand.tmp 0), type := 34, pos := "sort.go:55", after := #[], guard := none }) (v := ?_) rfl (by kernel_rfl) (by kernel_rfl) (by kernel_rfl) (fun _ _ _ h => h) (Or.inl ⟨by rfl, ?_⟩) (by assumption) ?_
      rotate_left
      · intro W hSw; go_simp; try (with_reducible rfl)
      try simp only [Act.put, List.setIfInBounds_toArray, List.set_cons_zero, List.set_cons_succ]
      refine wpAnyH_take (i := 6) (oi := { dst := some 19, op := Op.move (Operand.tmp 5), type := 3, pos := "sort.go:55", after := #[], guard := none }) (v := ?_) rfl (by kernel_rfl) (by kernel_rfl) (by kernel_rfl) (fun _ _ _ h => h) (Or.inl ⟨by rfl, ?_⟩) (by assumption) ?_
      rotate_left
      · intro W hSw; go_simp; try (with_reducible rfl)
      try simp only [Act.put, List.setIfInBounds_toArray, List.set_cons_zero, List.set_cons_succ]
      refine wpAnyH_take (i := 7) (oi := { dst := some 20, op := Op.binOp BinOp.sub 3 (Operand.tmp 19) (Operand.const (Value.int IntKind.i64 1)) 3, type := 3, pos := "sort.go:55", after := #[{ on := 6, ground := Ground.data }], guard := none }) (v := ?_) rfl (by kernel_rfl) (by kernel_rfl) (by kernel_rfl) (fun _ _ _ h => h) (Or.inl ⟨by rfl, ?_⟩) (by assumption) ?_
      rotate_left
      · intro W hSw; go_simp; try (with_reducible rfl)
      try simp only [Act.put, List.setIfInBounds_toArray, List.set_cons_zero, List.set_cons_succ]
      refine wpAnyH_take (i := 8) (oi := { dst := some 21, op := Op.indexAddr 34 (Operand.tmp 18) (Operand.tmp 20), type := 0, pos := "sort.go:55", after := #[{ on := 5, ground := Ground.data }, { on := 7, ground := Ground.data }], guard := none }) (v := ?_) rfl (by kernel_rfl) (by kernel_rfl) (by kernel_rfl) (fun _ _ _ h => h) (Or.inl ⟨by rfl, ?_⟩) (by assumption) ?_
      rotate_left
      · intro W hSw; go_simp; try (with_reducible rfl)
      try simp only [Act.put, List.setIfInBounds_toArray, List.set_cons_zero, List.set_cons_succ]
      refine wpAnyH_take (i := 9) (oi := { dst := some 22, op := Op.load 53 (Operand.tmp 21), type := 53, pos := "sort.go:55", after := #[{ on := 8, ground := Ground.data }], guard := none }) (v := ?_) rfl (by kernel_rfl) (by kernel_rfl) (by kernel_rfl) (fun _ _ _ h => h) (Or.inl ⟨by rfl, ?_⟩) (by assumption) ?_
      rotate_left
      · intro W hSw; have hq := ((SB.b0 hSw).cell (p := ⟨b, off + j * 2, none⟩) hbs).trans hx2'; have hq2 := ((SB.b0 hSw).cell (p := ⟨b, off + j * 2 + 1, none⟩) hbs).trans hy2'; go_simp; try (with_reducible rfl)
      try simp only [Act.put, List.setIfInBounds_toArray, List.set_cons_zero, List.set_cons_succ]
      refine wpAnyH_ready (rs := [10]) (by kernel_rfl) (by simp) ?_
      refine AllReadyH.cons (o := { dst := some 23, op := Op.call { callee := Callee.value (Operand.tmp 13), args := #[Operand.tmp 17, Operand.tmp 22], argTypes := #[53, 53] }, type := 3, pos := "sort.go:55", after := #[{ on := 0, ground := Ground.data }, { on := 4, ground := Ground.data }, { on := 9, ground := Ground.data }], guard := none }) rfl (fun K hK => ?_) AllReadyH.nil
      go_simp
      refine (byKey_any k1 k2 _ _ rfl rfl _).mono ?_
      rintro e w3 ⟨rfl, hbw3⟩
      try (go_wp2_with fail)
      have hHeld' := SB.step hHeld hbw3
      refine hK.out _ _ ?_ (fun _ => ?_)
      · exact hHeld'
      clear hK K
      try simp only [Act.put, List.setIfInBounds_toArray, List.set_cons_zero, List.set_cons_succ]
      have hHeld := SB.more hHeld'
      clear hHeld'
      refine wpAnyH_more (S' := SB [w3, Wo]) (fun W h => SB.less W h) _ _ _ _ ?_
      refine wpAnyH_take (i := 11) (oi := { dst := some 24, op := Op.binOp BinOp.lss 3 (Operand.tmp 23) (Operand.const (Value.int IntKind.i64 0)) 3, type := 4, pos := "sort.go:55", after := #[{ on := 10, ground := Ground.data }], guard := none }) (v := ?_) rfl (by kernel_rfl) (by kernel_rfl) (by kernel_rfl) (fun _ _ _ h => h) (Or.inl ⟨by rfl, ?_⟩) (by assumption) ?_
      rotate_left
      · intro W hSw; have hq3 := HC.out; go_simp; try (with_reducible rfl)
      try simp only [Act.put, List.setIfInBounds_toArray, List.set_cons_zero, List.set_cons_succ]
      refine wpAnyH_done (by kernel_rfl) ?_ _
      have HB3 := Lib.hid (HB.out.trans ((SB.b1 hHeld).mono HB.out.size))
      have hz := HC.out
      clear hHeld hx1' hx2' hy1' hy2'
      go_wp2
      go_roundw
      case rel => exact ⟨(j : Int), by go_num, by omega, by omega, HB3.out⟩
      case measure => simp [intOf]
    · have HB := Lib.hid hbel
      clear hbel
      go_wp2
      go_ret
      exact ⟨rfl, HB.out⟩

set_option maxRecDepth 100000 in
set_option maxHeartbeats 2000000 in
theorem bsearch_any (v : Value) (rs : List Rw) (key : ByteArray) (w : World) (hv : RR w v rs) (hs : Sorted rs) (hlen : rs.length ≤ 3000000000002) :
    Calls Try.prog 55 #[v, .string key, halve1Val] w fun e w' => e = .returned (.tuple #[.int .i64 (posL key rs : Nat), .bool (hasL key rs)]) ∧ Below w.heap.size w w' := by
  have HV := Lib.hid hv
  have HS := Lib.hid hs
  obtain ⟨A, c, rfl, _, _⟩ := rr_shape hv
  clear hv hs
  go_enter Try.func55, Try.ntmps55
  go_wp2
  go_loopw [9, 10] (fun s9 s10 wr => ∃ lo hi : Nat, s9 = .int .i64 lo ∧ s10 = .int .i64 hi ∧ lo ≤ hi ∧ hi ≤ rs.length ∧ (∀ t (h : t < rs.length), t < lo → Op.bytesLess rs[t].1.toList key.toList = true) ∧ (∀ t (h : t < rs.length), hi ≤ t → Op.bytesLess rs[t].1.toList key.toList = false) ∧ Below w.heap.size w wr)
    (fun s9 s10 _ => (intOf s10 - intOf s9).toNat)
  case atStart => exact ⟨0, rs.length, rfl, rfl, Nat.zero_le _, Nat.le_refl _, fun t _ h => absurd h (Nat.not_lt_zero _), fun t h h2 => by omega, Below.refl _ _⟩
  case round =>
    obtain ⟨lo, hi, rfl, rfl, hlh, hin, hlo, hhi, hbel⟩ := hrel
    obtain ⟨Wo, hWo⟩ : ∃ x, x = wr := ⟨_, rfl⟩
    subst hWo
    by_cases hlt : lo < hi
    · obtain ⟨m, hm⟩ : ∃ m, m = (lo + hi) / 2 := ⟨_, rfl⟩
      have hml : m < rs.length := by omega
      have hmi : ((lo : Int) + (hi : Int)) / 2 = (m : Int) := by omega
      obtain ⟨b, off, u1, rfl, hx1, hy1, hr1⟩ := rr_at HV.out hml
      have hbw : b < w.heap.size := block_lt_of_cell hx1
      have hx1' := (hbel.cell (p := ⟨b, off + m * 2, none⟩) hbw).trans hx1
      have hy1' := (hbel.cell (p := ⟨b, off + m * 2 + 1, none⟩) hbw).trans hy1
      obtain ⟨A3, c3, hu1, _⟩ := hr1
      obtain ⟨n1, hn1⟩ : ∃ n, n = rs[m].2.length := ⟨_, rfl⟩
      rw [← hn1] at hu1
      subst hu1
      have hcmp := cmp_lt rs[m].1 key
      have HLO := Lib.hid hlo
      have HHI := Lib.hid hhi
      obtain ⟨k1, hk1⟩ : ∃ n, n = rs[m].1 := ⟨_, rfl⟩
      have hkm : rs[m].1.toList = k1.toList := by rw [hk1]
      rw [← hk1] at hx1' hcmp
      have HKM := Lib.hid hkm
      have HB := Lib.hid hbel
      have q1 : (0 : Int) ≤ (m : Int) := by omega
      have q2 : (m : Int) < rs.length := by omega
      have hw1 : IntKind.i64.wrap ((lo : Int) + (hi : Int)) = (lo : Int) + (hi : Int) := by rw [IntKind.wrap_i64]; omega
      have HM := Lib.hid hm
      clear hx1 hy1 hn1 hk1 hkm hlo hhi hbel hm
      cases hc : Op.bytesLess k1.toList key.toList with
      | true =>
        rw [hc] at hcmp
        have hlt0 : (cmpS k1 key < 0) = True := eq_true (hcmp.2 rfl)
        have HC := Lib.hid hc
        clear hcmp hc
        go_wp2_with fail
        refine (halve1_any k1 key _ rfl _).mono ?_
        rintro e w3 ⟨rfl, hb3⟩
        have HB3 := Lib.hid (HB.out.trans (hb3.mono HB.out.size))
        clear hb3
        go_wp2
        go_roundw
        case rel =>
          have hm := HM.out
          refine ⟨m + 1, hi, by go_num, rfl, by omega, hin, fun t ht htm => ?_, HHI.out, HB3.out⟩
          rcases Nat.lt_or_ge t m with h | h
          · have := HS.out.at h hml
            unfold lt kl at this
            rw [HKM.out] at this
            exact bl_trans _ _ _ this HC.out
          · obtain rfl : t = m := by omega
            rw [HKM.out]
            exact HC.out
        case measure => have hm := HM.out; simp [intOf]; omega
      | false =>
        rw [hc] at hcmp
        have hlt0 : (cmpS k1 key < 0) = False := eq_false (fun h => by have := hcmp.1 h; cases this)
        have HC := Lib.hid hc
        clear hcmp hc
        go_wp2_with fail
        refine (halve1_any k1 key _ rfl _).mono ?_
        rintro e w3 ⟨rfl, hb3⟩
        have HB3 := Lib.hid (HB.out.trans (hb3.mono HB.out.size))
        clear hb3
        go_wp2
        go_roundw
        case rel =>
          have hm := HM.out
          refine ⟨lo, m, rfl, rfl, by omega, by omega, HLO.out, fun t ht htm => ?_, HB3.out⟩
          cases hcc : Op.bytesLess rs[t].1.toList key.toList
          · rfl
          · rcases Nat.lt_or_ge m t with h | h
            · have := HS.out.at h ht
              unfold lt kl at this
              rw [HKM.out] at this
              have := bl_trans _ _ _ this hcc
              rw [HC.out] at this
              cases this
            · obtain rfl : t = m := by omega
              rw [HKM.out, HC.out] at hcc
              cases hcc
        case measure => have hm := HM.out; simp [intOf]; omega
    · obtain rfl : hi = lo := by omega
      have hpos : posL key rs = hi := posL_of hin hlo (fun h => hhi hi h (Nat.le_refl _))
      by_cases hend : hi < rs.length
      · obtain ⟨b, off, u1, rfl, hx1, hy1, hr1⟩ := rr_at HV.out hend
        have hbw : b < w.heap.size := block_lt_of_cell hx1
        have hx1' := (hbel.cell (p := ⟨b, off + hi * 2, none⟩) hbw).trans hx1
        have hy1' := (hbel.cell (p := ⟨b, off + hi * 2 + 1, none⟩) hbw).trans hy1
        obtain ⟨A3, c3, hu1, _⟩ := hr1
        obtain ⟨n1, hn1⟩ : ∃ n, n = rs[hi].2.length := ⟨_, rfl⟩
        rw [← hn1] at hu1
        subst hu1
        have hhas := has_at (k := key) (l := rs) (by rw [hpos]; exact hend)
        simp only [hpos] at hhas
        obtain ⟨k1, hk1⟩ : ∃ n, n = rs[hi].1 := ⟨_, rfl⟩
        rw [← hk1] at hx1' hhas
        have HB := Lib.hid hbel
        have HP := Lib.hid hpos
        have q1 : (0 : Int) ≤ (hi : Int) := by omega
        have q2 : (hi : Int) < rs.length := by omega
        clear hx1 hy1 hn1 hk1 hlo hhi hbel hpos
        cases hc : decide (cmpS k1 key = 0) with
        | true =>
          rw [hc] at hhas
          have HH := Lib.hid hhas
          have hbq : (cmpS k1 key == 0) = true := beq_iff_eq.2 (of_decide_eq_true hc)
          clear hc hhas
          go_wp2_with fail
          refine (halve1_any k1 key _ rfl _).mono ?_
          rintro e w3 ⟨rfl, hb3⟩
          have HB3 := Lib.hid (HB.out.trans (hb3.mono HB.out.size))
          clear hb3
          go_wp2
          go_ret2
          exact ⟨by rw [HP.out, HH.out]; rfl, HB3.out⟩
        | false =>
          rw [hc] at hhas
          have HH := Lib.hid hhas
          have hbq : (cmpS k1 key == 0) = false := beq_eq_false_iff_ne.2 (of_decide_eq_false hc)
          clear hc hhas
          go_wp2_with fail
          refine (halve1_any k1 key _ rfl _).mono ?_
          rintro e w3 ⟨rfl, hb3⟩
          have HB3 := Lib.hid (HB.out.trans (hb3.mono HB.out.size))
          clear hb3
          go_wp2
          go_ret2
          exact ⟨by rw [HP.out, HH.out]; rfl, HB3.out⟩
      · have HH := Lib.hid (show hasL key rs = false from has_end (by rw [hpos]; exact hend))
        have HP := Lib.hid hpos
        have HB := Lib.hid hbel
        clear hlo hhi hbel hpos
        go_wp2
        go_ret2
        exact ⟨by rw [HP.out, HH.out]; rfl, HB.out⟩

set_option maxRecDepth 100000 in
set_option maxHeartbeats 1000000 in
theorem halve_any (v : Value) (rs : List Rw) (key : ByteArray) (w : World) (hv : RR w v rs) (hs : Sorted rs) (hlen : rs.length ≤ 3000000000002) :
    Calls Try.prog 34 #[v, .string key] w fun e w' => e = .returned (.tuple #[.int .i64 (posL key rs : Nat), .bool (hasL key rs)]) ∧ Below w.heap.size w w' := by
  have HC := Lib.hid (bsearch_any v rs key w hv hs hlen)
  obtain ⟨A, c, rfl, _, _⟩ := rr_shape hv
  clear hv hs
  generalize posL key rs = p at *
  generalize hasL key rs = h at *
  go_enter Try.func34, Try.ntmps34
  go_wp2_with fail
  refine HC.out.mono ?_
  rintro e w1 ⟨rfl, hb1⟩
  have HB := Lib.hid hb1
  clear hb1
  go_wp2
  go_ret2
  exact ⟨rfl, HB.out⟩
end Go.Proofs.Ytomkbgghljcbfaa

/-
  The contracts of slices.Clone of bytes, and of the program's row.
-/
namespace Go.Proofs.Ytomkbgghljcbfaa
open Go.RowKit Go.Rst
theorem eql_nilB (w : World) (t e : TypeId) (a : Option Addr) (l c : Nat) (h : Try.prog.underlying t = some (.slice e)) : (binOp .eql t (.slice a l c) (.slice none 0 0)).run Try.prog w = .ok (.bool a.isNone) w := by
  have := run_equal_slice_nil (P := Try.prog) w t e a l c h
  simp [binOp, this]
theorem own_emptyB (w : World) (e : TypeId) (size : Nat) : (w.alloc (Obj.cells #[] e)).ownsRow w.heap.size e size (.slice (some ⟨w.heap.size, 0, none⟩) 0 0) 0 [] :=
  ⟨by simp, .inr ⟨w.heap.size, 0, #[], rfl, Nat.le_refl _, heap_alloc_new w _, Nat.le_refl _, Nat.zero_le _, by simp, by simp⟩⟩

set_option maxRecDepth 100000 in
set_option maxHeartbeats 1000000 in
theorem cloneB_any (v : Value) (l : List UInt8) (w : World) (h : RB w v l) (hl : l.length ≤ 140737488355328) :
    Calls Try.prog 41 #[v] w fun e w' => ∃ u, e = .returned u ∧ FB 5 w' w.heap.size u l ∧ Below w.heap.size w w' := by
  have HS := Lib.hid ((h.alloc (Obj.cells #[] 5)).src (P := Try.prog) Try.underlying23)
  have HLM := Lib.hid (show 0 + l.length ≤ maxLen by unfold maxLen; omega)
  have HLB := Lib.hid (show (0 + l.length) * 1 ≤ 140737488355328 by omega)
  have HO := Lib.hid (own_emptyB w 5 1)
  obtain ⟨A, c, rfl, _, _, h3⟩ := h
  cases A with
  | none =>
    have hl0 : l = [] := by
      rcases h3 with h3 | ⟨b, off, h4, _⟩
      · exact h3
      · cases h4
    subst hl0
    have e1 : (binOp .eql 23 (.slice none 0 c) (.slice none 0 0)).run Try.prog w = .ok (.bool true) w := eql_nilB w 23 5 none 0 c Try.underlying23
    rw [List.length_nil]
    clear h3
    go_enter Try.func41, Try.ntmps41
    go_wp2
    go_ret
    exact ⟨_, rfl, .inl ⟨rfl, rfl⟩, Below.refl _ _⟩
  | some a =>
    have e1 : (binOp .eql 23 (.slice (some a) l.length c) (.slice none 0 0)).run Try.prog w = .ok (.bool false) w := eql_nilB w 23 5 (some a) l.length c Try.underlying23
    clear h3
    go_enter Try.func41, Try.ntmps41
    go_wp2_with (at_builtin; refine wpList_own rfl (.tmp 5) (.tmp 6) 23 23 rfl w.heap.size 5 (.int .u8 0) 1 1 Try.underlying23 info5 rfl rfl HO.out rfl HS.out ((Below.refl w.heap.size w).alloc (Nat.le_refl _) _) (Nat.le_refl _) HLM.out HLB.out (by simp) ?_)
    intro v5 w5 hown5 hbel5 _
    have HO5 := Lib.hid hown5
    have HB5 := Lib.hid hbel5
    obtain ⟨A5, c5, rfl, _⟩ := own_shape hown5
    clear hown5 hbel5
    go_wp2
    go_ret
    exact ⟨_, rfl, FB.own HO5.out, HB5.out⟩

set_option maxRecDepth 100000 in
set_option maxHeartbeats 1000000 in
theorem rowB_any (key : ByteArray) (v : Value) (l : List UInt8) (w : World) (h : RB w v l) (hl : l.length ≤ 140737488355328) :
    Calls Try.prog 30 #[.string key, v] w fun e w' => ∃ u, e = .returned (.agg #[.string key, u]) ∧ FB 5 w' w.heap.size u l ∧ Below w.heap.size w w' := by
  have hb0 := (Below.refl w.heap.size w).alloc (Nat.le_refl _) (Obj.cells #[.string ⟨#[]⟩, .slice none 0 0] 53)
  have hcall := cloneB_any v l _ (h.alloc (Obj.cells #[.string ⟨#[]⟩, .slice none 0 0] 53)) hl
  have HC := Lib.hid hcall
  have HB := Lib.hid hb0
  obtain ⟨A, c, rfl, _⟩ := h
  clear hcall hb0
  go_enter Try.func30, Try.ntmps30
  go_wp2_with fail
  refine HC.out.mono ?_
  rintro e w1 ⟨u, rfl, hfb, hbel⟩
  have hx0 : w1.cell? ⟨w.heap.size, 0, none⟩ = some (.string ⟨#[]⟩) := (hbel.cell (p := ⟨w.heap.size, 0, none⟩) (by simp)).trans (by simp)
  have hx1 : w1.cell? ⟨w.heap.size, 1, none⟩ = some (.slice none 0 0) := (hbel.cell (p := ⟨w.heap.size, 1, none⟩) (by simp)).trans (by simp)
  have hf0 : w1.frozen? ⟨w.heap.size, 0, none⟩ = false := (hbel.frozen (p := ⟨w.heap.size, 0, none⟩) (by simp)).trans (by simp)
  have hf1 : w1.frozen? ⟨w.heap.size, 1, none⟩ = false := (hbel.frozen (p := ⟨w.heap.size, 1, none⟩) (by simp)).trans (by simp)
  have hfb' := hfb.base_ (base' := w.heap.size + 1) (by simp)
  have HF := Lib.hid hfb'
  have HB1 := Lib.hid (HB.out.trans (hbel.mono (by simp)))
  have hsz := HB1.out.size
  obtain ⟨A1, c1, rfl⟩ := hfb.shape
  clear hfb hfb' hbel HC HB
  go_wp2
  refine bodyPost_ret (v := .agg #[.string key, .slice A1 l.length c1]) (by simp [results, Try.results30, go_sem, hx0, hx1]) rfl ?_
  refine ⟨_, rfl, ((HF.out.setCell (by simp) _).setCell (by simp) _).base_ (Nat.le_succ _), (HB1.out.setCell (Nat.le_refl _) _).setCell (Nat.le_refl _) _⟩
end Go.Proofs.Ytomkbgghljcbfaa

/-
  Laws on slices of elements of more than one cell: copy, clear, and stores into a block known whole. No program.
-/
namespace Go.Rst
open Go.RowKit
/-- Stores one by one into a block known whole. -/
theorem setCells_row {w : World} {g o : Nat} {cur : Array Value} {t : TypeId} {vs : List Value} (hg : w.heap[g]? = some (.cells cur t (0, 0))) (hfit : o + vs.length ≤ cur.size) (h1 : ∀ v ∈ vs, v.oneCell' = true) :
    w.setCells g o vs = w.setRow g (splice cur.toList o vs).toArray := by
  have hr1 := run_storeCells_at (default : Program) g o t vs 0 cur w hg (by simpa using hfit) h1
  have hr2 := run_storeCells_cells (P := (default : Program)) g o vs 0 w (fun j hj => by rw [cell_of_row w g _ cur t (0, 0) hg, Array.getElem?_eq_getElem (by omega)]; rfl) (fun j hj => by simp [World.frozen?, hg]) h1
  rw [hr1] at hr2
  injection hr2 with _ h
  rw [Nat.add_zero] at h
  rw [← h]
  unfold splice
  rw [List.append_assoc]
theorem splice_len {α : Type} {L : List α} {o : Nat} {vs : List α} (h : o + vs.length ≤ L.length) : (splice L o vs).length = L.length := length_splice L o vs h
theorem take_splice1 {α : Type} {L vs : List α} {o : Nat} (ho : o + vs.length ≤ L.length) : (splice L o vs).take (o + vs.length) = L.take o ++ vs := by
  unfold splice
  rw [← List.append_assoc]
  exact List.take_left' (by rw [List.length_append, List.length_take]; omega)
theorem take_splice0 {α : Type} {L vs : List α} {o : Nat} (ho : o ≤ L.length) : (splice L o vs).take o = L.take o := by
  unfold splice
  exact List.take_left' (by rw [List.length_take]; omega)
/-- What is laid within the first cells is laid within them. -/
theorem take_splice {α : Type} {L vs : List α} {o N : Nat} (h1 : o + vs.length ≤ N) (h2 : N ≤ L.length) : (splice L o vs).take N = splice (L.take N) o vs := by
  unfold splice
  rw [List.take_take, Nat.min_eq_left (by omega), List.drop_take, List.take_append, List.take_append, List.length_take, List.take_of_length_le (l := L.take o) (by rw [List.length_take]; omega), List.take_of_length_le (l := vs) (by omega)]
  congr 3
  omega
theorem splice_two {α : Type} {A B C D : List α} {o1 o2 : Nat} (hA : A.length = o1) (hB : B.length = C.length) (h2 : o2 = o1 + B.length) : splice (A ++ B ++ D) o1 C = A ++ C ++ D := by
  subst hA
  unfold splice
  rw [← hB, List.append_assoc, List.take_left' rfl, List.drop_append, List.drop_of_length_le (by omega), List.nil_append, Nat.add_sub_cancel_left, List.drop_left' rfl, List.append_assoc]
theorem zero_len (zs : Array Value) (n : Nat) : (Builtin.zeroCells zs n).toList.length = n * zs.size := by simp [Builtin.zeroCells]
theorem zero_one {zs : Array Value} {n : Nat} (h1 : ∀ v ∈ zs, v.oneCell' = true) : ∀ v ∈ (Builtin.zeroCells zs n).toList, v.oneCell' = true := by
  intro v hv'
  simp only [Builtin.zeroCells, Array.toList_map, List.mem_map, Array.mem_toList_iff, Array.mem_range] at hv'
  obtain ⟨i, hi, rfl⟩ := hv'
  have hz : 0 < zs.size := by
    rcases Nat.eq_zero_or_pos zs.size with h0 | h0
    · rw [h0] at hi; simp at hi
    · exact h0
  have hm := Nat.mod_lt i hz
  rw [getElem!_pos zs _ hm]
  exact h1 _ (Array.getElem_mem hm)
section
variable {P : Program}
/-- copy, whose run is known, as a step. -/
theorem wpList_copy_known {w : World} {ops : Array Oper} {rest : List Oper} {o : Oper} {a : Act} {Q : Exit → Act → World → Prop} (hgd : o.guard = none) (d s : Operand) (t t' : TypeId)
    (ho : o.op = .call { callee := .builtin .copy, args := #[d, s], argTypes := #[t, t'] }) {v u v' : Value} {w' : World} (hd : a.eval d = v) (hs : a.eval s = u)
    (hr : (Builtin.copy_ #[t, t'] o.type #[v, u]).run P w = .ok v' w') (h : wpList P ops Q rest (a.put o.dst v') w') : wpList P ops Q (o :: rest) a w :=
  wpList_plain hgd fun K hK => by
    unfold Oper.wp execOp
    simp only [ho, resolve, invoke, builtin, Sem.run_bind, Sem.run_pure, Result.andThen_ok, List.map_toArray, List.map_cons, List.map_nil, hd, hs, hr]
    exact hK _ _ h
/-- The same in a region that draws its order. -/
theorem step_copy_known {w : World} {ops : Array Oper} {o : Oper} {a : Act} {K : Act → World → Prop} {Q : Exit → Act → World → Prop} {E : Prop} (hgd : o.guard = none) (d s : Operand) (t t' : TypeId)
    (ho : o.op = .call { callee := .builtin .copy, args := #[d, s], argTypes := #[t, t'] }) {v u v' : Value} {w' : World} (hd : a.eval d = v) (hs : a.eval s = u)
    (hr : (Builtin.copy_ #[t, t'] o.type #[v, u]).run P w = .ok v' w') (h : K (a.put o.dst v') w') : if Region.wanted o (yielded ops a.tmps) = true then Oper.wp P o a w K Q else E := by
  have hw : Region.wanted o (yielded ops a.tmps) = true := by simp [Region.wanted, hgd]
  rw [if_pos hw]
  unfold Oper.wp execOp
  simp only [ho, resolve, invoke, builtin, Sem.run_bind, Sem.run_pure, Result.andThen_ok, List.map_toArray, List.map_cons, List.map_nil, hd, hs, hr]
  exact h
/-- append, whose run is known, as a step. -/
theorem wpList_append_known {w : World} {ops : Array Oper} {rest : List Oper} {o : Oper} {a : Act} {Q : Exit → Act → World → Prop} (hgd : o.guard = none) (d s : Operand) (t t' : TypeId)
    (ho : o.op = .call { callee := .builtin .append, args := #[d, s], argTypes := #[t, t'] }) {v u v' : Value} {w' : World} (hd : a.eval d = v) (hs : a.eval s = u)
    (hr : (Builtin.append_ #[t, t'] o.type #[v, u]).run P w = .ok v' w') (h : wpList P ops Q rest (a.put o.dst v') w') : wpList P ops Q (o :: rest) a w :=
  wpList_plain hgd fun K hK => by
    unfold Oper.wp execOp
    simp only [ho, resolve, invoke, builtin, Sem.run_bind, Sem.run_pure, Result.andThen_ok, List.map_toArray, List.map_cons, List.map_nil, hd, hs, hr]
    exact hK _ _ h
/-- copy, of elements of whatever size. -/
theorem run_copyS (w : World) (dT sT ty elem : TypeId) (size : Nat) (b o dLen dCap : Nat) (a : Addr) (sLen sCap k : Nat) (cs : List Value)
    (hu : P.underlying dT = some (.slice elem)) (hs : (P.info? elem).map (·.size) = some size) (hk : k = Nat.min sLen dLen) (hn : cs.length = k * size)
    (hsrc : ∀ j v, cs[j]? = some v → w.cell? (a.add j) = some v) (hc : ∀ j, j < cs.length → (w.cell? ⟨b, o + j, none⟩).isSome = true) (hf : ∀ j, j < cs.length → w.frozen? ⟨b, o + j, none⟩ = false) (h1 : ∀ v ∈ cs, v.oneCell' = true) :
    (Builtin.copy_ #[dT, sT] ty #[.slice (some ⟨b, o, none⟩) dLen dCap, .slice (some a) sLen sCap]).run P w = .ok (goInt k) (w.setCells b o cs) := by
  have hl := run_loadCells_list (P := P) w a cs hsrc
  have hst := run_storeCells_cells (P := P) b o cs 0 w (by simpa using hc) (by simpa using hf) h1
  rw [hn] at hl
  cases hq : P.info? elem with
  | none => simp [hq] at hs
  | some i =>
    have hi : i.size = size := by simpa [hq] using hs
    simp [Builtin.copy_, run_underlying hu, Builtin.lenOf, Builtin.firstCells, sizeOf, typeInfo, hq, hi, ← hk, hl, hst]
/-- clear, of elements of whatever size. -/
theorem run_clearS (w : World) (t e ty : TypeId) (z : Value) (ht : P.underlying t = some (.slice e)) (hv : ∀ w, (zeroValue e).run P w = .ok z w) (h1 : ∀ v ∈ z.cells, v.oneCell' = true) (b o n c : Nat) (hn : 0 < n)
    (hc : ∀ j, j < n * z.cells.size → (w.cell? ⟨b, o + j, none⟩).isSome = true) (hf : ∀ j, j < n * z.cells.size → w.frozen? ⟨b, o + j, none⟩ = false) :
    (Builtin.clear_ #[t] ty #[.slice (some ⟨b, o, none⟩) n c]).run P w = .ok (.tuple #[]) (w.setCells b o (Builtin.zeroCells z.cells n).toList) := by
  have hlen := zero_len z.cells n
  have h1' := zero_one (n := n) h1
  have hst := run_storeCells_cells (P := P) b o (Builtin.zeroCells z.cells n).toList 0 w (by rw [hlen]; simpa using hc) (by rw [hlen]; simpa using hf) h1'
  simp only [Nat.add_zero] at hst
  obtain ⟨m, rfl⟩ : ∃ m, n = m + 1 := ⟨n - 1, by omega⟩
  simp [Builtin.clear_, run_underlying ht, hv, hst]
end
end Go.Rst

/-
  Words on rows of the call's own in a block known whole. No program but the seat's types.
-/
namespace Go.Proofs.Ytomkbgghljcbfaa
open Go.RowKit Go.Rst Go.Pg Go.Crc
theorem rows_one {w : World} {base : Nat} {us : List (ByteArray × List UInt8 × Value)} (hf : ∀ x ∈ us, FB 5 w base x.2.2 x.2.1) : ∀ u ∈ rowCells us, u.oneCell' = true := by
  intro x hx
  unfold rowCells at hx
  obtain ⟨y, hy, hx⟩ := List.mem_flatMap.1 hx
  simp only [List.mem_cons, List.not_mem_nil, or_false] at hx
  rcases hx with rfl | rfl
  · rfl
  · exact fb_one (hf y hy)
theorem zero_row (i0 : TypeInfo) (hi0 : Try.prog.info? 53 = some i0) (hz0 : i0.zero = some (.agg #[.string ⟨#[]⟩, .slice none 0 0])) : ∀ w, (zeroValue 53).run Try.prog w = .ok (.agg #[.string ⟨#[]⟩, .slice none 0 0]) w := by
  intro w
  simp [zeroValue, typeInfo, hi0, hz0]
theorem rowCells_drop : ∀ (us : List (ByteArray × List UInt8 × Value)) (j : Nat), (rowCells us).drop (j * 2) = rowCells (us.drop j)
  | us, 0 => by simp
  | [], j + 1 => by simp [rowCells]
  | x :: us, j + 1 => by
    have := rowCells_drop us j
    simp only [rowCells, List.flatMap_cons, List.drop_succ_cons, List.cons_append, List.nil_append] at this ⊢
    rw [show (j + 1) * 2 = j * 2 + 1 + 1 from by omega, List.drop_succ_cons, List.drop_succ_cons, this]
theorem rowCells_take : ∀ (us : List (ByteArray × List UInt8 × Value)) (j : Nat), (rowCells us).take (j * 2) = rowCells (us.take j)
  | us, 0 => by simp [rowCells]
  | [], j + 1 => by simp [rowCells]
  | x :: us, j + 1 => by
    have := rowCells_take us j
    simp only [rowCells, List.flatMap_cons, List.take_succ_cons, List.cons_append, List.nil_append] at this ⊢
    rw [show (j + 1) * 2 = j * 2 + 1 + 1 from by omega, List.take_succ_cons, List.take_succ_cons, this]
/-- Rows in a block of which nothing else is known. -/
theorem OR.mk_ {w : World} {base g n cap : Nat} {cur : Array Value} {us : List (ByteArray × List UInt8 × Value)} (hb : base ≤ g) (hg : w.heap[g]? = some (.cells cur 53 (0, 0))) (hn : n = us.length) (hnc : n ≤ cap) (hcm : cap ≤ maxLen) (hcs : cur.size = cap * 2)
    (ht : cur.toList.take (n * 2) = rowCells us) (hf : ∀ x ∈ us, FB 5 w base x.2.2 x.2.1) : OR 5 53 w base (.slice (some ⟨g, 0, none⟩) n cap) (us.map (fun x => (x.1, x.2.1))) := by
  subst hn
  exact ⟨us, rfl, ⟨by rw [rowCells_length], .inr ⟨g, cap, cur, rfl, hb, hg, hnc, hcm, hcs, ht⟩⟩, hf⟩
/-- Bytes outlast what is done to a block of rows. -/
theorem fb_far {w w' : World} {base g : Nat} {cur : Array Value} {v : Value} {l : List UInt8} (hg : w.heap[g]? = some (.cells cur 53 (0, 0))) (hk : ∀ k, k ≠ g → w'.heap[k]? = w.heap[k]?) (h : FB 5 w base v l) : FB 5 w' base v l :=
  h.block_ fun k c fr hh => (hk k (fun e => by
    subst e
    rw [hg] at hh
    injection hh with hh
    injection hh with _ h3 _
    exact absurd h3 (by decide))).trans hh
end Go.Proofs.Ytomkbgghljcbfaa
