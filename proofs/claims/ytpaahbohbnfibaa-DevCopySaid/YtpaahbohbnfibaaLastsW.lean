/-
  DevLasts returns true, and changes nothing that was there, for all bytes and bools.
-/
import Derived.Test.YtpaahbohbnfibaaLastsM
import Derived.Test.YtpaahbohbnfibaaOpen4
import Derived.Test.YtpaahbohbnfibaaReg
import Derived.Laws.BitsAllLaws
import Derived.RegionTactic
import Derived.ChangeAlike
import Derived.BigQuiet
namespace Go.Proofs.Ytpaahbohbnfibaa
open Go.RowKit Go.Rst Go.Dv
theorem drew_bel {w : World} : Below w.heap.size w w.drew := (Below.refl _ _).drew
theorem BK.kb {W w : World} {v : Value} {K : List Bool} (h : BK W v K) (hb : Below W.heap.size W w) : KB (fun k => W.heap.size ≤ k) w v K := by
  obtain ⟨A, c, rfl, h1⟩ := h
  refine ⟨A, c, rfl, ?_⟩
  rcases h1 with h1 | ⟨b, off, rfl, hbb, hc⟩
  · exact .inl h1
  · exact .inr ⟨b, off, rfl, Nat.lt_of_lt_of_le hbb hb.size, by omega, fun j hj => (hb.cell (p := ⟨b, off + j, none⟩) hbb).trans (hc j hj)⟩
theorem BK.at_ {W : World} {AK : Option Addr} {nK cK : Nat} {K : List Bool} (hn : nK = K.length) (h : BK W (.slice AK nK cK) K) (k : Nat) :
    (K.getD k false = false ∧ ¬ k < nK) ∨ ∃ bk ok, k < nK ∧ AK = some ⟨bk, ok, none⟩ ∧ bk < W.heap.size ∧ W.cell? ⟨bk, ok + k, none⟩ = some (.bool (K.getD k false)) := by
  by_cases hk : k < nK
  · right
    obtain ⟨A, c, he, h1⟩ := h
    injection he with he _ _
    subst he
    rcases h1 with h1 | ⟨b, off, rfl, hb, hc⟩
    · rw [h1] at hn; simp at hn; omega
    · refine ⟨b, off, hk, rfl, hb, ?_⟩
      rw [hc k (by omega), List.getD_eq_getElem?_getD, List.getElem?_eq_getElem (by omega)]
      rfl
  · left
    refine ⟨?_, hk⟩
    rw [List.getD_eq_getElem?_getD, List.getElem?_eq_none (by omega)]
    rfl
set_option maxRecDepth 100000 in
set_option maxHeartbeats 1000000 in
theorem lasts_big (v vk : Value) (l : List UInt8) (K : List Bool) (W : World) (hv : RB W v l) (hk : BK W vk K) (h : 60 < l.length ∨ 80 < K.length) :
    Calls Try.prog 7 #[v, vk] W fun e w' => e = .returned (.bool true) ∧ Below W.heap.size W w' := by
  obtain ⟨A, c, rfl, h1, h2, h3⟩ := hv
  obtain ⟨AK, cK, rfl, _⟩ := hk
  by_cases hb : 60 < l.length
  · have hb1 : (60 : Int) < (l.length : Int) := by omega
    clear h h3
    go_enter Try.func7, Try.ntmps7
    go_wp2_with fail
    go_at_call 10
    refine (known_any _).mono ?_
    rintro e w1 ⟨rfl, hb⟩
    have HB := Lib.hid hb
    clear hb
    go_wp2
    go_ret
    exact ⟨rfl, HB.out⟩
  · have hb1 : ¬ (60 : Int) < (l.length : Int) := by omega
    have hb2 : (80 : Int) < (K.length : Int) := by omega
    clear h h3
    go_enter Try.func7, Try.ntmps7
    go_wp2_with fail
    go_at_call 10
    refine (known_any _).mono ?_
    rintro e w1 ⟨rfl, hb⟩
    have HB := Lib.hid hb
    clear hb
    go_wp2
    go_ret
    exact ⟨rfl, HB.out⟩
set_option maxRecDepth 100000 in
set_option maxHeartbeats 4000000 in
theorem lasts_in (v vk : Value) (l : List UInt8) (K : List Bool) (W : World) (hv : RB W v l) (hk : BK W vk K) (hl : l.length ≤ 60) (hkl : K.length ≤ 80) :
    Calls Try.prog 7 #[v, vk] W fun e w' => e = .returned (.bool true) ∧ Below W.heap.size W w' := by
  have HV := Lib.hid hv
  have HK := Lib.hid hk
  obtain ⟨A, c, rfl, h1, h2, h3⟩ := hv
  obtain ⟨AK, cK, rfl, hk3⟩ := hk
  unfold maxLen at h2
  obtain ⟨m, hm⟩ : ∃ m, m = l.length := ⟨_, rfl⟩
  obtain ⟨nK, hnK⟩ : ∃ nK, nK = K.length := ⟨_, rfl⟩
  rw [← hm] at h1 HV hl ⊢
  rw [← hnK] at HK hkl ⊢
  have HM := Lib.hid hm
  have HNK := Lib.hid hnK
  have HH3 := Lib.hid h3
  have HK3 := Lib.hid hk3
  clear hm hnK h3 hk3
  have hb1 : ¬ (60 : Int) < (m : Int) := by omega
  have hb2 : ¬ (80 : Int) < (nK : Int) := by omega
  go_enter Try.func7, Try.ntmps7
  go_wp2_with fail
  go_at_call 11
  refine (new_any 8 W (by decide)).mono ?_
  rintro e w1 ⟨v1, rfl, ho, hb⟩
  obtain ⟨g1, rfl⟩ := own_ptr ho
  have HO := Lib.hid ho
  have HB := Lib.hid hb
  clear ho hb
  go_wp2
  obtain ⟨F0, hF0⟩ : ∃ F0, F0 = (Sim.new 8).firm := ⟨_, rfl⟩
  have HF8 := Lib.hid (show F0.length = 8 by rw [hF0, new_firm])
  have FL := HF8
  have HF0 := Lib.hid hF0
  clear hF0
  obtain ⟨T, hT⟩ : ∃ T, T = List.replicate m true := ⟨_, rfl⟩
  have HT := Lib.hid hT
  clear hT
  obtain ⟨gA, hgA⟩ : ∃ gA, gA = w1.heap.size := ⟨_, rfl⟩
  have HOA : Hid (OA W.heap.size gA (w1.alloc (Obj.cells #[Value.int IntKind.u8 0, Value.int IntKind.u8 0, Value.int IntKind.u8 0, Value.int IntKind.u8 0, Value.int IntKind.u8 0, Value.int IntKind.u8 0, Value.int IntKind.u8 0, Value.int IntKind.u8 0] 51)) (.pointer (some ⟨g1, 0, none⟩)) (la F0 (L1 l) 0 0 0) (hd (kept F0 (L1 l) T 0)).toArray) := by
    obtain ⟨D, h1, h2, h3⟩ := HO.out
    rw [hgA]
    have e : la F0 (L1 l) 0 0 0 = Sim.new 8 := by rw [HF0.out]; rfl
    have e2 : (hd (kept F0 (L1 l) T 0)).toArray = #[Value.int IntKind.u8 0, Value.int IntKind.u8 0, Value.int IntKind.u8 0, Value.int IntKind.u8 0, Value.int IntKind.u8 0, Value.int IntKind.u8 0, Value.int IntKind.u8 0, Value.int IntKind.u8 0] := by rw [HF0.out]; rfl
    rw [e, e2]
    exact Lib.hid (OA.mk h1 h2 h3 rfl)
  have HB1 := Lib.hid (HB.out.alloc HB.out.size (Obj.cells #[Value.int IntKind.u8 0, Value.int IntKind.u8 0, Value.int IntKind.u8 0, Value.int IntKind.u8 0, Value.int IntKind.u8 0, Value.int IntKind.u8 0, Value.int IntKind.u8 0, Value.int IntKind.u8 0] 51))
  rw [← hgA]
  generalize (w1.alloc (Obj.cells #[Value.int IntKind.u8 0, Value.int IntKind.u8 0, Value.int IntKind.u8 0, Value.int IntKind.u8 0, Value.int IntKind.u8 0, Value.int IntKind.u8 0, Value.int IntKind.u8 0, Value.int IntKind.u8 0] 51)) = w2 at HOA HB1 ⊢
  clear hgA HO HB
  go_loopw [7] (fun i wr => ∃ k : Nat, k ≤ m ∧ i = .int .i64 k ∧ OA W.heap.size gA wr (.pointer (some ⟨g1, 0, none⟩)) (la F0 (L1 l) 0 0 k) (hd (kept F0 (L1 l) T k)).toArray ∧ Below W.heap.size W wr) (fun i _ => m - (intOf i).toNat)
  case atStart => exact ⟨0, Nat.zero_le _, rfl, HOA.out, HB1.out⟩
  case round =>
    obtain ⟨k, hk, rfl, ho, hbel⟩ := hrel
    by_cases hlt : k < m
    · have hltl : k < l.length := by rw [← HM.out]; exact hlt
      obtain ⟨b, off, hA, hbb, hc⟩ : ∃ b off, A = some ⟨b, off, none⟩ ∧ b < W.heap.size ∧ ∀ j (h : j < l.length), W.cell? ⟨b, off + j, none⟩ = some (bv l[j]) := by
        rcases HH3.out with h9 | ⟨b, off, h4, h5, h6⟩
        · rw [h9] at hltl; simp at hltl
        · exact ⟨b, off, h4, h5, h6⟩
      subst hA
      have hck := hc k hltl
      obtain ⟨x, hx⟩ : ∃ x : UInt8, l[k]? = some x := ⟨_, List.getElem?_eq_getElem hltl⟩
      have hx2 : l[k] = x := by rw [List.getElem?_eq_getElem hltl] at hx; injection hx
      rw [hx2] at hck
      unfold bv at hck
      have hWat := L1_at hx
      obtain ⟨x8, hx8⟩ : ∃ x8, x8 = x.toNat % 8 := ⟨_, rfl⟩
      rw [← hx8] at hWat
      have h88 : x8 < 8 := by omega
      have HWr := Lib.hid (la_write 0 0 (show k < (L1 l).length by rw [L1, List.length_map]; exact hltl) hWat (show x8 < F0.length by rw [HF8.out]; exact h88))
      have HHd := Lib.hid (hd_step (F := F0) (K := T) (show T.getD k false = true by rw [HT.out]; simp [hlt]) hWat)
      have HNW := Lib.hid (show (la F0 (L1 l) 0 0 k).nw < 299 by show 0 + k < 299; omega)
      have HNF := Lib.hid (show (la F0 (L1 l) 0 0 k).nf < 299 by show 0 < 299; decide)
      have HOr := Lib.hid ho
      have HBr := Lib.hid hbel
      have hx0 : (0 : Int) ≤ (x.toNat : Int) := by omega
      have i1 : (x.toNat : Int).tmod 8 = (x8 : Int) := by rw [Int.tmod_eq_emod_of_nonneg (by omega)]; omega
      have i2 : (x.toNat : Int) % 8 = (x8 : Int) := by omega
      have i3 : IntKind.i64.wrap (x8 : Int) = (x8 : Int) := by rw [IntKind.wrap_i64]; omega
      have i5 : (0 : Int) ≤ (k : Int) := by omega
      have i6 : (k : Int) < (m : Int) := by omega
      clear ho hbel hc hx hx2 hltl hx8 hWat
      go_wp2_with fail
      refine wp_region_held_drew (S := fun X => Below W.heap.size W X) (by kernel_rfl) HBr.out.drew (fun hHeld => ?_)
      refine wpAnyH_take (i := 0) (oi := { dst := some 30, op := Op.move (Operand.tmp 5), type := 23, pos := "law.go:158", after := #[], guard := none }) (v := ?_) rfl (by kernel_rfl) (by kernel_rfl) (by kernel_rfl) (fun _ _ _ h => h) (Or.inl ⟨by rfl, ?_⟩) (by assumption) ?_
      rotate_left
      · intro X hSw; go_simp; try (with_reducible rfl)
      try simp only [Act.put, List.setIfInBounds_toArray, List.set_cons_zero, List.set_cons_succ]
      refine wpAnyH_take (i := 1) (oi := { dst := some 31, op := Op.move (Operand.tmp 0), type := 28, pos := "law.go:158", after := #[], guard := none }) (v := ?_) rfl (by kernel_rfl) (by kernel_rfl) (by kernel_rfl) (fun _ _ _ h => h) (Or.inl ⟨by rfl, ?_⟩) (by assumption) ?_
      rotate_left
      · intro X hSw; go_simp; try (with_reducible rfl)
      try simp only [Act.put, List.setIfInBounds_toArray, List.set_cons_zero, List.set_cons_succ]
      refine wpAnyH_take (i := 2) (oi := { dst := some 32, op := Op.move (Operand.tmp 7), type := 3, pos := "law.go:158", after := #[], guard := none }) (v := ?_) rfl (by kernel_rfl) (by kernel_rfl) (by kernel_rfl) (fun _ _ _ h => h) (Or.inl ⟨by rfl, ?_⟩) (by assumption) ?_
      rotate_left
      · intro X hSw; go_simp; try (with_reducible rfl)
      try simp only [Act.put, List.setIfInBounds_toArray, List.set_cons_zero, List.set_cons_succ]
      refine wpAnyH_take (i := 3) (oi := { dst := some 33, op := Op.indexAddr 28 (Operand.tmp 31) (Operand.tmp 32), type := 0, pos := "law.go:158", after := #[{ on := 1, ground := Ground.data }, { on := 2, ground := Ground.data }], guard := none }) (v := ?_) rfl (by kernel_rfl) (by kernel_rfl) (by kernel_rfl) (fun _ _ _ h => h) (Or.inl ⟨by rfl, ?_⟩) (by assumption) ?_
      rotate_left
      · intro X hSw; go_simp; try (with_reducible rfl)
      try simp only [Act.put, List.setIfInBounds_toArray, List.set_cons_zero, List.set_cons_succ]
      refine wpAnyH_take (i := 4) (oi := { dst := some 34, op := Op.load 5 (Operand.tmp 33), type := 5, pos := "law.go:158", after := #[{ on := 3, ground := Ground.data }], guard := none }) (v := ?_) rfl (by kernel_rfl) (by kernel_rfl) (by kernel_rfl) (fun _ _ _ h => h) (Or.inl ⟨by rfl, ?_⟩) (by assumption) ?_
      rotate_left
      · intro X hSw; have hq := (hSw.cell (p := ⟨b, off + k, none⟩) hbb).trans hck; go_simp; try (with_reducible rfl)
      try simp only [Act.put, List.setIfInBounds_toArray, List.set_cons_zero, List.set_cons_succ]
      refine wpAnyH_take (i := 5) (oi := { dst := some 35, op := Op.binOp BinOp.rem 5 (Operand.tmp 34) (Operand.const (Value.int IntKind.u8 8)) 5, type := 5, pos := "law.go:158", after := #[{ on := 4, ground := Ground.data }], guard := none }) (v := ?_) rfl (by kernel_rfl) (by kernel_rfl) (by kernel_rfl) (fun _ _ _ h => h) (Or.inl ⟨by rfl, ?_⟩) (by assumption) ?_
      rotate_left
      · intro X hSw; go_simp; try (with_reducible rfl)
      try simp only [Act.put, List.setIfInBounds_toArray, List.set_cons_zero, List.set_cons_succ]
      refine wpAnyH_take (i := 6) (oi := { dst := some 36, op := Op.convert 5 3 (Operand.tmp 35), type := 3, pos := "law.go:158", after := #[{ on := 5, ground := Ground.data }], guard := none }) (v := ?_) rfl (by kernel_rfl) (by kernel_rfl) (by kernel_rfl) (fun _ _ _ h => h) (Or.inl ⟨by rfl, ?_⟩) (by assumption) ?_
      rotate_left
      · intro X hSw; go_simp; try (with_reducible rfl)
      try simp only [Act.put, List.setIfInBounds_toArray, List.set_cons_zero, List.set_cons_succ]
      refine wpAnyH_take (i := 7) (oi := { dst := some 37, op := Op.move (Operand.tmp 0), type := 28, pos := "law.go:158", after := #[], guard := none }) (v := ?_) rfl (by kernel_rfl) (by kernel_rfl) (by kernel_rfl) (fun _ _ _ h => h) (Or.inl ⟨by rfl, ?_⟩) (by assumption) ?_
      rotate_left
      · intro X hSw; go_simp; try (with_reducible rfl)
      try simp only [Act.put, List.setIfInBounds_toArray, List.set_cons_zero, List.set_cons_succ]
      refine wpAnyH_take (i := 8) (oi := { dst := some 38, op := Op.move (Operand.tmp 7), type := 3, pos := "law.go:158", after := #[], guard := none }) (v := ?_) rfl (by kernel_rfl) (by kernel_rfl) (by kernel_rfl) (fun _ _ _ h => h) (Or.inl ⟨by rfl, ?_⟩) (by assumption) ?_
      rotate_left
      · intro X hSw; go_simp; try (with_reducible rfl)
      try simp only [Act.put, List.setIfInBounds_toArray, List.set_cons_zero, List.set_cons_succ]
      refine wpAnyH_take (i := 9) (oi := { dst := some 39, op := Op.indexAddr 28 (Operand.tmp 37) (Operand.tmp 38), type := 0, pos := "law.go:158", after := #[{ on := 7, ground := Ground.data }, { on := 8, ground := Ground.data }], guard := none }) (v := ?_) rfl (by kernel_rfl) (by kernel_rfl) (by kernel_rfl) (fun _ _ _ h => h) (Or.inl ⟨by rfl, ?_⟩) (by assumption) ?_
      rotate_left
      · intro X hSw; go_simp; try (with_reducible rfl)
      try simp only [Act.put, List.setIfInBounds_toArray, List.set_cons_zero, List.set_cons_succ]
      refine wpAnyH_take (i := 10) (oi := { dst := some 40, op := Op.load 5 (Operand.tmp 39), type := 5, pos := "law.go:158", after := #[{ on := 9, ground := Ground.data }], guard := none }) (v := ?_) rfl (by kernel_rfl) (by kernel_rfl) (by kernel_rfl) (fun _ _ _ h => h) (Or.inl ⟨by rfl, ?_⟩) (by assumption) ?_
      rotate_left
      · intro X hSw; have hq := (hSw.cell (p := ⟨b, off + k, none⟩) hbb).trans hck; go_simp; try (with_reducible rfl)
      try simp only [Act.put, List.setIfInBounds_toArray, List.set_cons_zero, List.set_cons_succ]
      refine wpAnyH_ready (rs := [11]) (by kernel_rfl) (by simp) ?_
      refine AllReadyH.cons (o := { dst := some 41, op := Op.buildSlice 28 1 #[(0, Operand.tmp 40)], type := 28, pos := "law.go:158", after := #[{ on := 10, ground := Ground.data }], guard := none }) rfl (fun K hK => ?_) AllReadyH.nil
      go_simp
      refine gen_allocD ?_
      intro w4 hw4 hbw4
      have HW4 := Lib.hid hw4
      clear hw4
      try (go_wp2_with fail)
      have hHeld' := HBr.out.trans (hbw4.mono HBr.out.size)
      refine hK.out _ _ ?_ (fun _ => ?_)
      · exact hHeld'
      clear hK K hHeld
      have hHeld := hHeld'
      clear hHeld'
      try simp only [Act.put, List.setIfInBounds_toArray, List.set_cons_zero, List.set_cons_succ]
      refine wpAnyH_ready (rs := [12]) (by kernel_rfl) (by simp) ?_
      refine AllReadyH.cons (o := { dst := some 42, op := Op.call { callee := Callee.value (Operand.func 12), args := #[Operand.tmp 30, Operand.tmp 36, Operand.tmp 41], argTypes := #[23, 3, 28] }, type := 26, pos := "law.go:158", after := #[{ on := 0, ground := Ground.data }, { on := 6, ground := Ground.data }, { on := 11, ground := Ground.data }], guard := none }) rfl (fun K hK => ?_) AllReadyH.nil
      go_simp
      have hRB : RB w4 (.slice (some ⟨wr.heap.size, 0, none⟩) 1 1) [x] := by rw [HW4.out]; exact (RB.lit wr 5 (0, 0) [x] _ rfl 1 rfl (by decide)).below drew_bel
      refine (oa_write _ _ [x] HOr.out hbw4 hRB (fun _ j hj => .inr (by simp [Value.ownBlock] at hj; omega)) HNW.out HNF.out).mono ?_
      rintro e w5 ⟨rfl, ho, hb⟩
      rw [HWr.out.2]
      rw [HWr.out.1] at ho
      have HO5 := Lib.hid ho
      have HB5 := Lib.hid ((hHeld.trans (Below.refl _ _)).trans hb)
      clear ho hb hRB
      go_wp2_with fail
      try (go_wp2_with fail)
      have hHeld' := HB5.out
      refine hK.out _ _ ?_ (fun _ => ?_)
      · exact hHeld'
      clear hK K hHeld
      have hHeld := hHeld'
      clear hHeld'
      try simp only [Act.put, List.setIfInBounds_toArray, List.set_cons_zero, List.set_cons_succ]
      refine wpAnyH_done (by kernel_rfl) ?_ _
      have q1 : w5.cell? ⟨b, off + k, none⟩ = some (.int .u8 (x.toNat : Int)) := (HB5.out.cell (p := ⟨b, off + k, none⟩) hbb).trans hck
      obtain ⟨uA, q2⟩ : ∃ uA, w5.cell? ⟨gA, x8, none⟩ = some uA := ⟨_, (HO5.out.blk.cell x8).trans (Array.getElem?_eq_getElem (by rw [List.size_toArray, hd_length, kept_length, FL.out]; exact h88))⟩
      have q3 := HO5.out.blk.frozen x8
      have q4 := HO5.out.blk.lt
      clear hHeld
      go_wp2
      go_region
      go_wp2
      go_roundw
      case rel =>
        have HO6 := (HO5.out.set_ x8 (bv x)).below drew_bel
        rw [List.setIfInBounds_toArray, ← HHd.out] at HO6
        exact ⟨k + 1, by omega, by go_num, HO6, (HB5.out.setCell (p := ⟨gA, x8, none⟩) HO5.out.size _).drew⟩
      case measure => simp [intOf]; omega
    · have hm2 : ¬ (k : Int) < (m : Int) := by omega
      have hkm : k = m := by omega
      rw [hkm] at ho
      have HOm := Lib.hid ho
      have HBr := Lib.hid hbel
      have HML := Lib.hid (show m = (L1 l).length by rw [L1, List.length_map]; exact HM.out)
      have HML2 := Lib.hid (show m = (L2 l).length by rw [L2, List.length_map]; exact HM.out)
      clear ho hbel hkm
      go_wp2_with fail
      go_at_call 13
      refine (oa_flush HOm.out (by show 0 + m < 300; omega) (by show 0 < 300; decide)).mono ?_
      rintro e wf ⟨rfl, ho, hb⟩
      rw [la_flush F0 (L1 l) (L2 l) 0 0 m HML.out, ← HT.out] at ho
      obtain ⟨F1, hF1⟩ : ∃ F1, F1 = kept F0 (L1 l) T m := ⟨_, rfl⟩
      have FL1 := Lib.hid (show F1.length = 8 by rw [hF1, kept_length, FL.out])
      rw [← hF1] at ho
      have HF1 := Lib.hid hF1
      have HBf := Lib.hid (HBr.out.trans hb)
      have HOf : Hid (OA W.heap.size gA wf (.pointer (some ⟨g1, 0, none⟩)) (la F1 (L2 l) (0 + m) (0 + 1) 0) (hd (kept F1 (L2 l) K 0)).toArray) := Lib.hid ho
      clear ho hb hF1
      clear FL
      have FL := FL1
      go_wp2
      go_loopw [8] (fun i wr => ∃ k : Nat, k ≤ m ∧ i = .int .i64 k ∧ OA W.heap.size gA wr (.pointer (some ⟨g1, 0, none⟩)) (la F1 (L2 l) (0 + m) (0 + 1) k) (hd (kept F1 (L2 l) K k)).toArray ∧ Below W.heap.size W wr) (fun i _ => m - (intOf i).toNat)
      case atStart => exact ⟨0, Nat.zero_le _, rfl, HOf.out, HBf.out⟩
      case round =>
        clear hlt hm2 hk
        obtain ⟨k, hk, rfl, ho, hbel⟩ := hrel
        by_cases hlt : k < m
        · have hltl : k < l.length := by rw [← HM.out]; exact hlt
          obtain ⟨b, off, hA, hbb, hc⟩ : ∃ b off, A = some ⟨b, off, none⟩ ∧ b < W.heap.size ∧ ∀ j (h : j < l.length), W.cell? ⟨b, off + j, none⟩ = some (bv l[j]) := by
            rcases HH3.out with h9 | ⟨b, off, h4, h5, h6⟩
            · rw [h9] at hltl; simp at hltl
            · exact ⟨b, off, h4, h5, h6⟩
          subst hA
          have hck := hc k hltl
          obtain ⟨x, hx⟩ : ∃ x : UInt8, l[k]? = some x := ⟨_, List.getElem?_eq_getElem hltl⟩
          have hx2 : l[k] = x := by rw [List.getElem?_eq_getElem hltl] at hx; injection hx
          rw [hx2] at hck
          unfold bv at hck
          have hWat := L2_at hx
          obtain ⟨xd, hxd⟩ : ∃ xd, xd = x.toNat / 8 := ⟨_, rfl⟩
          obtain ⟨x8, hx8⟩ : ∃ x8, x8 = xd % 8 := ⟨_, rfl⟩
          obtain ⟨z, hz⟩ : ∃ z : UInt8, z = x ^^^ 255 := ⟨_, rfl⟩
          rw [← hxd, ← hx8, ← hz] at hWat
          have h88 : x8 < 8 := by omega
          have HWat := Lib.hid hWat
          have HWr := Lib.hid (la_write (0 + m) (0 + 1) (show k < (L2 l).length by rw [L2, List.length_map]; exact hltl) hWat (show x8 < F1.length by rw [FL.out]; exact h88))
          have HNW := Lib.hid (show (la F1 (L2 l) (0 + m) (0 + 1) k).nw < 299 by show 0 + m + k < 299; omega)
          have HNF := Lib.hid (show (la F1 (L2 l) (0 + m) (0 + 1) k).nf < 299 by show 0 + 1 < 299; decide)
          have HOr := Lib.hid ho
          have HBr := Lib.hid hbel
          have HK4 := Lib.hid (BK.at_ HNK.out HK.out k)
          have hx0 : (0 : Int) ≤ (x.toNat : Int) := by omega
          have hx1 : x.toNat < 256 := x.toNat_lt
          have i0 : (x.toNat : Int).tdiv 8 = (xd : Int) := by rw [Int.tdiv_eq_ediv_of_nonneg (by omega)]; omega
          have j0 : (x.toNat : Int) / 8 = (xd : Int) := by omega
          have i1 : (xd : Int).tmod 8 = (x8 : Int) := by rw [Int.tmod_eq_emod_of_nonneg (by omega)]; omega
          have i2 : (xd : Int) % 8 = (x8 : Int) := by omega
          have i9 : IntKind.u8.wrap (xd : Int) = (xd : Int) := by rw [IntKind.wrap_u8']; omega
          have i3 : IntKind.i64.wrap (x8 : Int) = (x8 : Int) := by rw [IntKind.wrap_i64]; omega
          have i4 : bits .xor .u8 (x.toNat : Int) 255 = (z.toNat : Int) := by
            have := u8_xor_nat x.toNat 255 hx1 (by decide)
            rw [hz, UInt8.toNat_xor]
            exact this
          have i5 : (0 : Int) ≤ (k : Int) := by omega
          have i6 : (k : Int) < (m : Int) := by omega
          have i7 : (0 : Int) ≤ (xd : Int) := by omega
          have i8 : (xd : Int) ≤ 255 := by omega
          clear ho hbel hc hx hx2 hltl hx8 hxd hz hWat hx1
          go_wp2_with fail
          refine wp_region_held_drew (S := fun X => Below W.heap.size W X) (by kernel_rfl) HBr.out.drew (fun hHeld => ?_)
          refine wpAnyH_take (i := 0) (oi := { dst := some 61, op := Op.move (Operand.tmp 5), type := 23, pos := "law.go:163", after := #[], guard := none }) (v := ?_) rfl (by kernel_rfl) (by kernel_rfl) (by kernel_rfl) (fun _ _ _ h => h) (Or.inl ⟨by rfl, ?_⟩) (by assumption) ?_
          rotate_left
          · intro X hSw; go_simp; try (with_reducible rfl)
          try simp only [Act.put, List.setIfInBounds_toArray, List.set_cons_zero, List.set_cons_succ]
          refine wpAnyH_take (i := 1) (oi := { dst := some 62, op := Op.move (Operand.tmp 0), type := 28, pos := "law.go:163", after := #[], guard := none }) (v := ?_) rfl (by kernel_rfl) (by kernel_rfl) (by kernel_rfl) (fun _ _ _ h => h) (Or.inl ⟨by rfl, ?_⟩) (by assumption) ?_
          rotate_left
          · intro X hSw; go_simp; try (with_reducible rfl)
          try simp only [Act.put, List.setIfInBounds_toArray, List.set_cons_zero, List.set_cons_succ]
          refine wpAnyH_take (i := 2) (oi := { dst := some 63, op := Op.move (Operand.tmp 8), type := 3, pos := "law.go:163", after := #[], guard := none }) (v := ?_) rfl (by kernel_rfl) (by kernel_rfl) (by kernel_rfl) (fun _ _ _ h => h) (Or.inl ⟨by rfl, ?_⟩) (by assumption) ?_
          rotate_left
          · intro X hSw; go_simp; try (with_reducible rfl)
          try simp only [Act.put, List.setIfInBounds_toArray, List.set_cons_zero, List.set_cons_succ]
          refine wpAnyH_take (i := 3) (oi := { dst := some 64, op := Op.indexAddr 28 (Operand.tmp 62) (Operand.tmp 63), type := 0, pos := "law.go:163", after := #[{ on := 1, ground := Ground.data }, { on := 2, ground := Ground.data }], guard := none }) (v := ?_) rfl (by kernel_rfl) (by kernel_rfl) (by kernel_rfl) (fun _ _ _ h => h) (Or.inl ⟨by rfl, ?_⟩) (by assumption) ?_
          rotate_left
          · intro X hSw; go_simp; try (with_reducible rfl)
          try simp only [Act.put, List.setIfInBounds_toArray, List.set_cons_zero, List.set_cons_succ]
          refine wpAnyH_take (i := 4) (oi := { dst := some 65, op := Op.load 5 (Operand.tmp 64), type := 5, pos := "law.go:163", after := #[{ on := 3, ground := Ground.data }], guard := none }) (v := ?_) rfl (by kernel_rfl) (by kernel_rfl) (by kernel_rfl) (fun _ _ _ h => h) (Or.inl ⟨by rfl, ?_⟩) (by assumption) ?_
          rotate_left
          · intro X hSw; have hq := (hSw.cell (p := ⟨b, off + k, none⟩) hbb).trans hck; go_simp; try (with_reducible rfl)
          try simp only [Act.put, List.setIfInBounds_toArray, List.set_cons_zero, List.set_cons_succ]
          refine wpAnyH_take (i := 5) (oi := { dst := some 66, op := Op.binOp BinOp.quo 5 (Operand.tmp 65) (Operand.const (Value.int IntKind.u8 8)) 5, type := 5, pos := "law.go:163", after := #[{ on := 4, ground := Ground.data }], guard := none }) (v := ?_) rfl (by kernel_rfl) (by kernel_rfl) (by kernel_rfl) (fun _ _ _ h => h) (Or.inl ⟨by rfl, ?_⟩) (by assumption) ?_
          rotate_left
          · intro X hSw; go_simp; try (with_reducible rfl)
          try simp only [Act.put, List.setIfInBounds_toArray, List.set_cons_zero, List.set_cons_succ]
          refine wpAnyH_take (i := 6) (oi := { dst := some 67, op := Op.binOp BinOp.rem 5 (Operand.tmp 66) (Operand.const (Value.int IntKind.u8 8)) 5, type := 5, pos := "law.go:163", after := #[{ on := 5, ground := Ground.data }], guard := none }) (v := ?_) rfl (by kernel_rfl) (by kernel_rfl) (by kernel_rfl) (fun _ _ _ h => h) (Or.inl ⟨by rfl, ?_⟩) (by assumption) ?_
          rotate_left
          · intro X hSw; go_simp; try (with_reducible rfl)
          try simp only [Act.put, List.setIfInBounds_toArray, List.set_cons_zero, List.set_cons_succ]
          refine wpAnyH_take (i := 7) (oi := { dst := some 68, op := Op.convert 5 3 (Operand.tmp 67), type := 3, pos := "law.go:163", after := #[{ on := 6, ground := Ground.data }], guard := none }) (v := ?_) rfl (by kernel_rfl) (by kernel_rfl) (by kernel_rfl) (fun _ _ _ h => h) (Or.inl ⟨by rfl, ?_⟩) (by assumption) ?_
          rotate_left
          · intro X hSw; go_simp; try (with_reducible rfl)
          try simp only [Act.put, List.setIfInBounds_toArray, List.set_cons_zero, List.set_cons_succ]
          refine wpAnyH_take (i := 8) (oi := { dst := some 69, op := Op.move (Operand.tmp 0), type := 28, pos := "law.go:163", after := #[], guard := none }) (v := ?_) rfl (by kernel_rfl) (by kernel_rfl) (by kernel_rfl) (fun _ _ _ h => h) (Or.inl ⟨by rfl, ?_⟩) (by assumption) ?_
          rotate_left
          · intro X hSw; go_simp; try (with_reducible rfl)
          try simp only [Act.put, List.setIfInBounds_toArray, List.set_cons_zero, List.set_cons_succ]
          refine wpAnyH_take (i := 9) (oi := { dst := some 70, op := Op.move (Operand.tmp 8), type := 3, pos := "law.go:163", after := #[], guard := none }) (v := ?_) rfl (by kernel_rfl) (by kernel_rfl) (by kernel_rfl) (fun _ _ _ h => h) (Or.inl ⟨by rfl, ?_⟩) (by assumption) ?_
          rotate_left
          · intro X hSw; go_simp; try (with_reducible rfl)
          try simp only [Act.put, List.setIfInBounds_toArray, List.set_cons_zero, List.set_cons_succ]
          refine wpAnyH_take (i := 10) (oi := { dst := some 71, op := Op.indexAddr 28 (Operand.tmp 69) (Operand.tmp 70), type := 0, pos := "law.go:163", after := #[{ on := 8, ground := Ground.data }, { on := 9, ground := Ground.data }], guard := none }) (v := ?_) rfl (by kernel_rfl) (by kernel_rfl) (by kernel_rfl) (fun _ _ _ h => h) (Or.inl ⟨by rfl, ?_⟩) (by assumption) ?_
          rotate_left
          · intro X hSw; go_simp; try (with_reducible rfl)
          try simp only [Act.put, List.setIfInBounds_toArray, List.set_cons_zero, List.set_cons_succ]
          refine wpAnyH_take (i := 11) (oi := { dst := some 72, op := Op.load 5 (Operand.tmp 71), type := 5, pos := "law.go:163", after := #[{ on := 10, ground := Ground.data }], guard := none }) (v := ?_) rfl (by kernel_rfl) (by kernel_rfl) (by kernel_rfl) (fun _ _ _ h => h) (Or.inl ⟨by rfl, ?_⟩) (by assumption) ?_
          rotate_left
          · intro X hSw; have hq := (hSw.cell (p := ⟨b, off + k, none⟩) hbb).trans hck; go_simp; try (with_reducible rfl)
          try simp only [Act.put, List.setIfInBounds_toArray, List.set_cons_zero, List.set_cons_succ]
          refine wpAnyH_take (i := 12) (oi := { dst := some 73, op := Op.binOp BinOp.xor 5 (Operand.tmp 72) (Operand.const (Value.int IntKind.u8 255)) 5, type := 5, pos := "law.go:163", after := #[{ on := 11, ground := Ground.data }], guard := none }) (v := ?_) rfl (by kernel_rfl) (by kernel_rfl) (by kernel_rfl) (fun _ _ _ h => h) (Or.inl ⟨by rfl, ?_⟩) (by assumption) ?_
          rotate_left
          · intro X hSw; go_simp; try (with_reducible rfl)
          try simp only [Act.put, List.setIfInBounds_toArray, List.set_cons_zero, List.set_cons_succ]
          refine wpAnyH_ready (rs := [13]) (by kernel_rfl) (by simp) ?_
          refine AllReadyH.cons (o := { dst := some 74, op := Op.buildSlice 28 1 #[(0, Operand.tmp 73)], type := 28, pos := "law.go:163", after := #[{ on := 12, ground := Ground.data }], guard := none }) rfl (fun K hK => ?_) AllReadyH.nil
          go_simp
          refine gen_allocD ?_
          intro w4 hw4 hbw4
          have HW4 := Lib.hid hw4
          clear hw4
          try (go_wp2_with fail)
          have hHeld' := HBr.out.trans (hbw4.mono HBr.out.size)
          refine hK.out _ _ ?_ (fun _ => ?_)
          · exact hHeld'
          clear hK K hHeld
          have hHeld := hHeld'
          clear hHeld'
          try simp only [Act.put, List.setIfInBounds_toArray, List.set_cons_zero, List.set_cons_succ]
          refine wpAnyH_ready (rs := [14]) (by kernel_rfl) (by simp) ?_
          refine AllReadyH.cons (o := { dst := some 75, op := Op.call { callee := Callee.value (Operand.func 12), args := #[Operand.tmp 61, Operand.tmp 68, Operand.tmp 74], argTypes := #[23, 3, 28] }, type := 26, pos := "law.go:163", after := #[{ on := 0, ground := Ground.data }, { on := 7, ground := Ground.data }, { on := 13, ground := Ground.data }], guard := none }) rfl (fun K hK => ?_) AllReadyH.nil
          go_simp
          have hRB : RB w4 (.slice (some ⟨wr.heap.size, 0, none⟩) 1 1) [z] := by rw [HW4.out]; exact (RB.lit wr 5 (0, 0) [z] _ rfl 1 rfl (by decide)).below drew_bel
          refine (oa_write _ _ [z] HOr.out hbw4 hRB (fun _ j hj => .inr (by simp [Value.ownBlock] at hj; omega)) HNW.out HNF.out).mono ?_
          rintro e w5 ⟨rfl, ho, hb⟩
          rw [HWr.out.2]
          rw [HWr.out.1] at ho
          have HO5 := Lib.hid ho
          have HB5 := Lib.hid ((hHeld.trans (Below.refl _ _)).trans hb)
          clear ho hb hRB
          go_wp2_with fail
          try (go_wp2_with fail)
          have hHeld' := HB5.out
          refine hK.out _ _ ?_ (fun _ => ?_)
          · exact hHeld'
          clear hK K hHeld
          have hHeld := hHeld'
          clear hHeld'
          try simp only [Act.put, List.setIfInBounds_toArray, List.set_cons_zero, List.set_cons_succ]
          refine wpAnyH_done (by kernel_rfl) ?_ _
          clear hHeld
          rcases HK4.out with ⟨hkf, hkn⟩ | ⟨bk, ok, hkn, hAK, hbk, hck2⟩
          · have HKf := Lib.hid hkf
            have hkn2 : ¬ (k : Int) < (nK : Int) := by omega
            clear hkf hkn
            have HHd := Lib.hid (hd_stay (F := F1) (L := L2 l) HKf.out)
            go_wp2
            go_roundw
            case rel => exact ⟨k + 1, by omega, by go_num, by rw [HHd.out]; exact HO5.out, HB5.out⟩
            case measure => simp [intOf]; omega
          · have hkn2 : (k : Int) < (nK : Int) := by omega
            subst hAK
            cases hkf : K.getD k false with
            | false =>
              rw [hkf] at hck2
              have hq7 : w5.cell? ⟨bk, ok + k, none⟩ = some (.bool false) := (HB5.out.cell (p := ⟨bk, ok + k, none⟩) hbk).trans hck2
              have HKf := Lib.hid hkf
              clear hkf hck2
              have HHd := Lib.hid (hd_stay (F := F1) (L := L2 l) HKf.out)
              go_wp2
              go_roundw
              case rel => exact ⟨k + 1, by omega, by go_num, by rw [HHd.out]; exact HO5.out, HB5.out⟩
              case measure => simp [intOf]; omega
            | true =>
              rw [hkf] at hck2
              have hq7 : w5.cell? ⟨bk, ok + k, none⟩ = some (.bool true) := (HB5.out.cell (p := ⟨bk, ok + k, none⟩) hbk).trans hck2
              have HKf := Lib.hid hkf
              clear hkf hck2
              have HHd := Lib.hid (hd_step (F := F1) HKf.out HWat.out)
              have q1 : w5.cell? ⟨b, off + k, none⟩ = some (.int .u8 (x.toNat : Int)) := (HB5.out.cell (p := ⟨b, off + k, none⟩) hbb).trans hck
              obtain ⟨uA, q2⟩ : ∃ uA, w5.cell? ⟨gA, x8, none⟩ = some uA := ⟨_, (HO5.out.blk.cell x8).trans (Array.getElem?_eq_getElem (by rw [List.size_toArray, hd_length, kept_length, FL.out]; exact h88))⟩
              have q3 := HO5.out.blk.frozen x8
              have q4 := HO5.out.blk.lt
              go_wp2
              go_region
              go_wp2
              go_roundw
              case rel =>
                have HO6 := (HO5.out.set_ x8 (bv z)).below drew_bel
                rw [List.setIfInBounds_toArray, ← HHd.out] at HO6
                exact ⟨k + 1, by omega, by go_num, HO6, (HB5.out.setCell (p := ⟨gA, x8, none⟩) HO5.out.size _).drew⟩
              case measure => simp [intOf]; omega
        · have hm2 : ¬ (k : Int) < (m : Int) := by omega
          have hkm : k = m := by omega
          rw [hkm] at ho
          have HOm := Lib.hid ho
          have HBr := Lib.hid hbel
          have HKB := Lib.hid (BK.kb HK.out hbel)
          clear ho hbel hkm
          go_wp2_with fail
          go_at_call 14
          refine (oa_crash _ K HOm.out HKB.out (by show 0 + m + m ≤ 100000; omega)).mono ?_
          rintro e wc ⟨rfl, ho, hb⟩
          rw [la_crash F1 (L2 l) K (0 + m) (0 + 1) m HML2.out] at ho
          obtain ⟨F2, hF2⟩ : ∃ F2, F2 = kept F1 (L2 l) K m := ⟨_, rfl⟩
          have FL2 := Lib.hid (show F2.length = 8 by rw [hF2, kept_length, FL.out])
          rw [← hF2] at ho
          have HOc := Lib.hid ho
          have HBc := Lib.hid (HBr.out.trans hb)
          have HOK := Lib.hid ho.ok
          clear ho hb hF2
          go_wp2
          go_loopw [9, 10, 11] (fun i _ _ wr => ∃ k : Nat, k ≤ 8 ∧ i = .int .i64 k ∧ Below wc.heap.size wc wr) (fun i _ _ _ => 8 - (intOf i).toNat)
          case atStart => exact ⟨0, Nat.zero_le _, rfl, Below.refl _ _⟩
          case round =>
            clear hlt hm2 hk
            obtain ⟨k, hk, rfl, hbel⟩ := hrel
            by_cases hlt : k < 8
            · have HOr := Lib.hid (HOc.out.below hbel)
              have HBr := Lib.hid hbel
              have hk1 : (k : Int) < 8 := by omega
              have hFk := HOK.out.firm_ (i := k) (show k < F2.length by rw [FL2.out]; exact hlt)
              have hrd : (Sim.mk F2 [] none (0 + m + m) (0 + 1)).read k = F2.getD k [] := rfl
              have hwc := (HOr.out.blk.cell k).trans (show (hd F2).toArray[k]? = some (bv ((F2.getD k []).getD 0 0)) by rw [List.getElem?_toArray]; exact hd_get (show k < F2.length by rw [FL2.out]; exact hlt))
              obtain ⟨Y, hY⟩ : ∃ Y, Y = F2.getD k [] := ⟨_, rfl⟩
              rw [← hY] at hrd hwc
              have hY64 : Y.length = 64 := by rw [hY]; exact hFk
              obtain ⟨y, hy⟩ : ∃ y, y = Y.getD 0 0 := ⟨_, rfl⟩
              rw [← hy] at hwc
              unfold bv at hwc
              have HRd := Lib.hid hrd
              have HWc := Lib.hid hwc
              have HY := Lib.hid hY64
              have HYy := Lib.hid hy
              clear hbel hFk hrd hwc hY hY64 hy
              go_wp2_with fail
              go_at_call 15
              refine (oa_read k HOr.out (show k < F2.length by rw [FL2.out]; exact hlt) (by show 0 + m + m ≤ 100000; omega)).mono ?_
              rw [HRd.out]
              rintro e r1 ⟨u1, rfl, hr1, _, hb1⟩
              obtain ⟨Au, cu, rfl, hcu1, hcu2, h9⟩ := hr1
              rw [HY.out]
              rcases h9 with h9 | ⟨bu, ou, rfl, hbu, hcu⟩
              · exfalso
                have := HY.out
                rw [h9] at this
                cases this
              have hY0 : 0 < Y.length := by rw [HY.out]; decide
              have hq1 := hcu 0 hY0
              rw [show Y[0] = y by rw [HYy.out, List.getD_eq_getElem?_getD, List.getElem?_eq_getElem hY0]; rfl, Nat.add_zero] at hq1
              unfold bv at hq1
              have hq2 : r1.cell? ⟨gA, k, none⟩ = some (.int .u8 (y.toNat : Int)) := (hb1.cell (p := ⟨gA, k, none⟩) HOr.out.blk.lt).trans HWc.out
              have HB2 := Lib.hid (HBr.out.trans (hb1.mono HBr.out.size))
              clear hb1 hcu hcu1 hcu2 hY0
              go_wp2_with fail
              go_quiet (fail)
              go_wp2
              go_roundw
              case rel => exact ⟨k + 1, by omega, by go_num, ⟨HB2.out.os, HB2.out.tape, HB2.out.output, HB2.out.size, HB2.out.block⟩⟩
              case measure => simp [intOf]; omega
            · have hk2 : ¬ (k : Int) < 8 := by omega
              have HBr := Lib.hid hbel
              clear hbel
              go_wp2_with fail
              go_at_call 10
              refine (known_any _).mono ?_
              rintro e w6 ⟨rfl, hb⟩
              have HB6 := Lib.hid (HBr.out.trans (hb.mono HBr.out.size))
              have HO6 := Lib.hid (HOc.out.below (HBr.out.trans (hb.mono HBr.out.size)))
              clear hb
              go_wp2_with fail
              go_at_call 22
              refine (oa_loose HO6.out (by show 0 + m + m ≤ 100000; omega)).mono ?_
              rintro e w7 ⟨A7, c7, rfl, hb⟩
              rw [show (Sim.mk F2 [] none (0 + m + m) (0 + 1)).loose.length = 0 from rfl]
              have HB7 := Lib.hid ((HBc.out.trans (HB6.out.mono HBc.out.size)).trans (hb.mono (Nat.le_trans HBc.out.size HB6.out.size)))
              clear hb
              go_wp2
              go_ret
              exact ⟨rfl, HB7.out⟩
theorem lasts_walk (v : Value) (l : List UInt8) (vk : Value) (K : List Bool) (W : World) (hv : RB W v l) (_ : l.length ≤ 140737488351232) (hk : BK W vk K) (_ : K.length ≤ 140737488351232) :
    Calls Try.prog 7 #[v, vk] W fun e w' => e = .returned (.bool true) ∧ Below W.heap.size W w' := by
  by_cases h : 60 < l.length ∨ 80 < K.length
  · exact lasts_big v vk l K W hv hk h
  · exact lasts_in v vk l K W hv hk (by omega) (by omega)
end Go.Proofs.Ytpaahbohbnfibaa
