/-
  DevFuse returns true, and changes nothing that was there, for all bytes and a byte.
-/
import Derived.Test.YtpaahbohbnfibaaTwo
import Derived.Test.YtpaahbohbnfibaaReg
namespace Go.Proofs.Ytpaahbohbnfibaa
open Go.RowKit Go.Rst Go.Dv
/-- A device with a fuse of q behind k writes. -/
def fs (q : Nat) (l : List UInt8) : Nat → Sim
  | 0 => (Sim.new 8).setFuse q
  | k + 1 => (fs q l k).write (((l.getD k 0).toNat % 8 : Nat) : Int) [l.getD k 0]
theorem fs_inv (q : Nat) (l : List UInt8) : ∀ k, (fs q l k).firm = (Sim.new 8).firm ∧ (fs q l k).fuse = some (q - min k q) ∧ (fs q l k).loose.length = min k q ∧ (fs q l k).nw = min k q ∧ (fs q l k).nf = 0
  | 0 => by
    have e : fs q l 0 = { Sim.new 8 with fuse := some q } := by
      have hg : (Sim.new 8).goes = true := rfl
      unfold fs Sim.setFuse
      rw [hg, if_pos rfl, if_pos (by omega)]
      rfl
    rw [e]
    exact ⟨rfl, by simp, by simp [Sim.new], by simp [Sim.new], rfl⟩
  | k + 1 => by
    obtain ⟨h1, h2, h3, h4, h5⟩ := fs_inv q l k
    have hh : (fs q l k).has (((l.getD k 0).toNat % 8 : Nat) : Int) = true := Sim.has_iff.2 ⟨by omega, by rw [h1, new_firm]; omega⟩
    by_cases hkq : k < q
    · have hg : (fs q l k).goes = true := by simp [Sim.goes, h2]; omega
      have e : fs q l (k + 1) = (fs q l k).put ((l.getD k 0).toNat % 8) [l.getD k 0] := by
        show (fs q l k).write _ _ = _
        unfold Sim.write
        rw [hh, hg]
        rfl
      rw [e]
      refine ⟨h1, ?_, ?_, ?_, h5⟩
      · simp [Sim.put, Sim.burnt, h2]; omega
      · simp [Sim.put, h3]; omega
      · simp [Sim.put, h4]; omega
    · have hg : (fs q l k).goes = false := by simp [Sim.goes, h2]; omega
      have e : fs q l (k + 1) = fs q l k := by
        show (fs q l k).write _ _ = _
        unfold Sim.write
        rw [hg]
        simp
      rw [e, h2, h3, h4]
      exact ⟨h1, by congr 1; omega, by omega, by omega, h5⟩
theorem fs_wrote (q : Nat) (l : List UInt8) (k : Nat) (c : UInt8) (b : List UInt8) (hb : b.length ≤ 64) : (fs q l k).wrote ((c.toNat % 8 : Nat) : Int) b = 0 := by
  have h1 := (fs_inv q l k).1
  have hh : (fs q l k).has ((c.toNat % 8 : Nat) : Int) = true := Sim.has_iff.2 ⟨by omega, by rw [h1, new_firm]; omega⟩
  unfold Sim.wrote
  rw [hh, if_pos rfl, if_neg (by omega)]
theorem bel_drew (w : World) : Below w.heap.size w w.drew := (Below.refl _ _).drew
theorem cut_one {l : List UInt8} {k : Nat} (h : k < l.length) : (l.drop k).take 1 = [l.getD k 0] := by
  rw [List.drop_eq_getElem_cons h, List.take_succ_cons, List.take_zero, List.getD_eq_getElem?_getD, List.getElem?_eq_getElem h]
  rfl
set_option maxRecDepth 100000 in
set_option maxHeartbeats 2000000 in
theorem fuse_loop (v : Value) (l : List UInt8) (n : Nat) (W : World) (hv : RB W v l) (_ : l.length ≤ 140737488351232) (hn : n ≤ 255) :
    Calls Try.prog 8 #[v, .int .u8 (n : Int)] W fun e w' => e = .returned (.bool true) ∧ Below W.heap.size W w' := by
  have HV := Lib.hid hv
  obtain ⟨A, c, rfl, h1, h2, h3⟩ := hv
  unfold maxLen at h2
  obtain ⟨m, hm⟩ : ∃ m, m = l.length := ⟨_, rfl⟩
  rw [← hm] at h1 HV ⊢
  have HM := Lib.hid hm
  by_cases hbig : 60 < m
  · have hb : (60 : Int) < (m : Int) := by omega
    clear hm h3
    go_enter Try.func8, Try.ntmps8
    go_wp2_with fail
    go_at_call 10
    refine (known_any _).mono ?_
    rintro e w1 ⟨rfl, hb⟩
    have HB := Lib.hid hb
    clear hb
    go_wp2
    go_ret
    exact ⟨rfl, HB.out⟩
  · have hb : ¬ (60 : Int) < (m : Int) := by omega
    have hn0 : (0 : Int) ≤ (n : Int) := by omega
    obtain ⟨q, hq⟩ : ∃ q, q = n % 70 := ⟨_, rfl⟩
    have hq1 : (n : Int) % 70 = (q : Int) := by omega
    have hq70 : q < 70 := by omega
    have H3 := Lib.hid h3
    clear hm h3 hq
    go_enter Try.func8, Try.ntmps8
    go_wp2_with fail
    go_at_call 11
    refine (own_new 8 W (by decide) (Nat.le_refl _)).mono ?_
    rintro e w1 ⟨g, rfl, ho, hb1⟩
    have HO1 := Lib.hid ho
    have HB1 := Lib.hid hb1
    clear ho hb1
    go_wp2_with fail
    go_at_call 23
    refine (own_fuse (q : Int) (by omega) HO1.out).mono ?_
    rintro e w2 ⟨rfl, ho, hb2⟩
    have HO2 := Lib.hid (show Own W.heap.size w2 (.pointer (some ⟨g, 0, none⟩)) (fs q l 0) from ho)
    have HB2 := Lib.hid (HB1.out.trans hb2)
    clear ho hb2
    go_wp2
    go_loopw [6] (fun i wr => ∃ k : Nat, k ≤ m ∧ i = .int .i64 k ∧ Own W.heap.size wr (.pointer (some ⟨g, 0, none⟩)) (fs q l k) ∧ Below W.heap.size W wr) (fun i _ => m - (intOf i).toNat)
    case atStart => exact ⟨0, Nat.zero_le _, rfl, HO2.out, HB2.out⟩
    case round =>
      obtain ⟨k, hk, rfl, ho, hbel⟩ := hrel
      by_cases hlt : k < m
      · have hltl : k < l.length := by rw [← HM.out]; exact hlt
        obtain ⟨b, off, hA, hbb, hc⟩ : ∃ b off, A = some ⟨b, off, none⟩ ∧ b < W.heap.size ∧ ∀ j (h : j < l.length), W.cell? ⟨b, off + j, none⟩ = some (bv l[j]) := by
          rcases H3.out with h9 | ⟨b, off, h4, h5, h6⟩
          · rw [h9] at hltl; simp at hltl
          · exact ⟨b, off, h4, h5, h6⟩
        subst hA
        have hck := hc k hltl
        obtain ⟨x, hx⟩ : ∃ x : UInt8, x = l.getD k 0 := ⟨_, rfl⟩
        have hx2 : l[k] = x := by rw [hx, List.getD_eq_getElem?_getD, List.getElem?_eq_getElem hltl]; rfl
        rw [hx2] at hck
        unfold bv at hck
        have hinv := fs_inv q l k
        have hF := (show fs q l (k + 1) = (fs q l k).write ((x.toNat % 8 : Nat) : Int) [x] by rw [hx]; rfl)
        have hWr := fs_wrote q l k x [x] (by simp)
        obtain ⟨x8, hx8⟩ : ∃ x8, x8 = x.toNat % 8 := ⟨_, rfl⟩
        rw [← hx8] at hF hWr
        have HFs := Lib.hid hF
        have HWr := Lib.hid hWr
        have HRB := Lib.hid (show RB wr.drew (.slice (some ⟨b, off + k, none⟩) 1 (c - k)) [x] by
          have h9 := RB.cut (q := k) (n := 1) (HM.out ▸ HV.out) (by omega)
          rw [cut_one hltl, ← hx] at h9
          exact (h9.below hbel).below (bel_drew wr))
        have HBK := Lib.hid (show ∀ j, Value.ownBlock (.slice (some ⟨b, off + k, none⟩) 1 (c - k)) = some j → j < W.heap.size from fun j hj => by simp [Value.ownBlock] at hj; omega)
        have HNW := Lib.hid (show (fs q l k).nw < 299 by rw [hinv.2.2.2.1]; omega)
        have HNF := Lib.hid (show (fs q l k).nf < 299 by rw [hinv.2.2.2.2]; decide)
        have HOr := Lib.hid ho
        have HBr := Lib.hid hbel
        have hx0 : (0 : Int) ≤ (x.toNat : Int) := by omega
        have i1 : (x.toNat : Int).tmod 8 = (x8 : Int) := by rw [Int.tmod_eq_emod_of_nonneg (by omega)]; omega
        have i2 : (x.toNat : Int) % 8 = (x8 : Int) := by omega
        have i3 : IntKind.i64.wrap (x8 : Int) = (x8 : Int) := by rw [IntKind.wrap_i64]; omega
        have i4 : IntKind.i64.wrap ((k : Int) + 1) = (k : Int) + 1 := by rw [IntKind.wrap_i64]; omega
        have i5 : (0 : Int) ≤ (k : Int) := by omega
        have i6 : (k : Int) < (m : Int) := by omega
        have i7 : (0 : Int) ≤ (k : Int) + 1 := by omega
        have i8 : ((k : Int) + 1).toNat = k + 1 := by omega
        have i10 : ¬ c = k := by omega
        have i9 : (k : Int) + 1 ≤ (c : Int) := by omega
        clear ho hbel hc hx hx2 hltl hinv HO2 HB2 hF hWr hx8
        go_wp2_with fail
        refine wp_region_held_drew (S := fun X => Below W.heap.size W X) (by kernel_rfl) HBr.out.drew (fun hHeld => ?_)
        refine wpAnyH_take (i := 0) (oi := { dst := some 26, op := Op.move (Operand.tmp 5), type := 23, pos := "law.go:189", after := #[], guard := none }) (v := ?_) rfl (by kernel_rfl) (by kernel_rfl) (by kernel_rfl) (fun _ _ _ h => h) (Or.inl ⟨by rfl, ?_⟩) (by assumption) ?_
        rotate_left
        · intro X hSw; go_simp; try (with_reducible rfl)
        try simp only [Act.put, List.setIfInBounds_toArray, List.set_cons_zero, List.set_cons_succ]
        refine wpAnyH_take (i := 1) (oi := { dst := some 27, op := Op.move (Operand.tmp 0), type := 28, pos := "law.go:189", after := #[], guard := none }) (v := ?_) rfl (by kernel_rfl) (by kernel_rfl) (by kernel_rfl) (fun _ _ _ h => h) (Or.inl ⟨by rfl, ?_⟩) (by assumption) ?_
        rotate_left
        · intro X hSw; go_simp; try (with_reducible rfl)
        try simp only [Act.put, List.setIfInBounds_toArray, List.set_cons_zero, List.set_cons_succ]
        refine wpAnyH_take (i := 2) (oi := { dst := some 28, op := Op.move (Operand.tmp 6), type := 3, pos := "law.go:189", after := #[], guard := none }) (v := ?_) rfl (by kernel_rfl) (by kernel_rfl) (by kernel_rfl) (fun _ _ _ h => h) (Or.inl ⟨by rfl, ?_⟩) (by assumption) ?_
        rotate_left
        · intro X hSw; go_simp; try (with_reducible rfl)
        try simp only [Act.put, List.setIfInBounds_toArray, List.set_cons_zero, List.set_cons_succ]
        refine wpAnyH_take (i := 3) (oi := { dst := some 29, op := Op.indexAddr 28 (Operand.tmp 27) (Operand.tmp 28), type := 0, pos := "law.go:189", after := #[{ on := 1, ground := Ground.data }, { on := 2, ground := Ground.data }], guard := none }) (v := ?_) rfl (by kernel_rfl) (by kernel_rfl) (by kernel_rfl) (fun _ _ _ h => h) (Or.inl ⟨by rfl, ?_⟩) (by assumption) ?_
        rotate_left
        · intro X hSw; go_simp; try (with_reducible rfl)
        try simp only [Act.put, List.setIfInBounds_toArray, List.set_cons_zero, List.set_cons_succ]
        refine wpAnyH_take (i := 4) (oi := { dst := some 30, op := Op.load 5 (Operand.tmp 29), type := 5, pos := "law.go:189", after := #[{ on := 3, ground := Ground.data }], guard := none }) (v := ?_) rfl (by kernel_rfl) (by kernel_rfl) (by kernel_rfl) (fun _ _ _ h => h) (Or.inl ⟨by rfl, ?_⟩) (by assumption) ?_
        rotate_left
        · intro X hSw; have hq := (hSw.cell (p := ⟨b, off + k, none⟩) hbb).trans hck; go_simp; try (with_reducible rfl)
        try simp only [Act.put, List.setIfInBounds_toArray, List.set_cons_zero, List.set_cons_succ]
        refine wpAnyH_take (i := 5) (oi := { dst := some 31, op := Op.binOp BinOp.rem 5 (Operand.tmp 30) (Operand.const (Value.int IntKind.u8 8)) 5, type := 5, pos := "law.go:189", after := #[{ on := 4, ground := Ground.data }], guard := none }) (v := ?_) rfl (by kernel_rfl) (by kernel_rfl) (by kernel_rfl) (fun _ _ _ h => h) (Or.inl ⟨by rfl, ?_⟩) (by assumption) ?_
        rotate_left
        · intro X hSw; go_simp; try (with_reducible rfl)
        try simp only [Act.put, List.setIfInBounds_toArray, List.set_cons_zero, List.set_cons_succ]
        refine wpAnyH_take (i := 6) (oi := { dst := some 32, op := Op.convert 5 3 (Operand.tmp 31), type := 3, pos := "law.go:189", after := #[{ on := 5, ground := Ground.data }], guard := none }) (v := ?_) rfl (by kernel_rfl) (by kernel_rfl) (by kernel_rfl) (fun _ _ _ h => h) (Or.inl ⟨by rfl, ?_⟩) (by assumption) ?_
        rotate_left
        · intro X hSw; go_simp; try (with_reducible rfl)
        try simp only [Act.put, List.setIfInBounds_toArray, List.set_cons_zero, List.set_cons_succ]
        refine wpAnyH_take (i := 7) (oi := { dst := some 33, op := Op.move (Operand.tmp 0), type := 28, pos := "law.go:189", after := #[], guard := none }) (v := ?_) rfl (by kernel_rfl) (by kernel_rfl) (by kernel_rfl) (fun _ _ _ h => h) (Or.inl ⟨by rfl, ?_⟩) (by assumption) ?_
        rotate_left
        · intro X hSw; go_simp; try (with_reducible rfl)
        try simp only [Act.put, List.setIfInBounds_toArray, List.set_cons_zero, List.set_cons_succ]
        refine wpAnyH_take (i := 8) (oi := { dst := some 34, op := Op.move (Operand.tmp 6), type := 3, pos := "law.go:189", after := #[], guard := none }) (v := ?_) rfl (by kernel_rfl) (by kernel_rfl) (by kernel_rfl) (fun _ _ _ h => h) (Or.inl ⟨by rfl, ?_⟩) (by assumption) ?_
        rotate_left
        · intro X hSw; go_simp; try (with_reducible rfl)
        try simp only [Act.put, List.setIfInBounds_toArray, List.set_cons_zero, List.set_cons_succ]
        refine wpAnyH_take (i := 9) (oi := { dst := some 35, op := Op.move (Operand.tmp 6), type := 3, pos := "law.go:189", after := #[], guard := none }) (v := ?_) rfl (by kernel_rfl) (by kernel_rfl) (by kernel_rfl) (fun _ _ _ h => h) (Or.inl ⟨by rfl, ?_⟩) (by assumption) ?_
        rotate_left
        · intro X hSw; go_simp; try (with_reducible rfl)
        try simp only [Act.put, List.setIfInBounds_toArray, List.set_cons_zero, List.set_cons_succ]
        refine wpAnyH_take (i := 10) (oi := { dst := some 36, op := Op.binOp BinOp.add 3 (Operand.tmp 35) (Operand.const (Value.int IntKind.i64 1)) 3, type := 3, pos := "law.go:189", after := #[{ on := 9, ground := Ground.data }], guard := none }) (v := ?_) rfl (by kernel_rfl) (by kernel_rfl) (by kernel_rfl) (fun _ _ _ h => h) (Or.inl ⟨by rfl, ?_⟩) (by assumption) ?_
        rotate_left
        · intro X hSw; go_simp; try (with_reducible rfl)
        try simp only [Act.put, List.setIfInBounds_toArray, List.set_cons_zero, List.set_cons_succ]
        refine wpAnyH_take (i := 11) (oi := { dst := some 37, op := Op.slice 28 (Operand.tmp 33) (some (Operand.tmp 34)) (some (Operand.tmp 36)) none, type := 28, pos := "law.go:189", after := #[{ on := 7, ground := Ground.data }, { on := 8, ground := Ground.data }, { on := 10, ground := Ground.data }], guard := none }) (v := ?_) rfl (by kernel_rfl) (by kernel_rfl) (by kernel_rfl) (fun _ _ _ h => h) (Or.inl ⟨by rfl, ?_⟩) (by assumption) ?_
        rotate_left
        · intro X hSw; go_simp; try (with_reducible rfl)
        try simp only [Act.put, List.setIfInBounds_toArray, List.set_cons_zero, List.set_cons_succ]
        refine wpAnyH_ready (rs := [12]) (by kernel_rfl) (by simp) ?_
        refine AllReadyH.cons (o := { dst := some 38, op := Op.call { callee := Callee.value (Operand.func 12), args := #[Operand.tmp 26, Operand.tmp 32, Operand.tmp 37], argTypes := #[23, 3, 28] }, type := 26, pos := "law.go:189", after := #[{ on := 0, ground := Ground.data }, { on := 6, ground := Ground.data }, { on := 11, ground := Ground.data }], guard := none }) rfl (fun K hK => ?_) AllReadyH.nil
        go_simp
        refine (own_write _ _ [x] HOr.out (bel_drew wr) HRB.out (fun _ j hj => .inl (HBK.out j hj)) HNW.out HNF.out).mono ?_
        rintro e w5 ⟨rfl, ho, hb⟩
        rw [HWr.out]
        rw [← HFs.out] at ho
        have HO5 := Lib.hid ho
        have HB5 := Lib.hid (HBr.out.drew.trans hb)
        clear ho hb
        go_wp2_with fail
        try (go_wp2_with fail)
        have hHeld' := HB5.out
        refine hK.out _ _ ?_ (fun _ => ?_)
        · exact hHeld'
        clear hK K hHeld
        have hHeld := hHeld'
        clear hHeld'
        try simp only [Act.put, List.setIfInBounds_toArray, List.set_cons_zero, List.set_cons_succ]
        refine wpAnyH_take (i := 13) (oi := { dst := some 39, op := Op.binOp BinOp.neq 26 (Operand.tmp 38) (Operand.const (Value.int IntKind.u16 0)) 26, type := 4, pos := "law.go:189", after := #[{ on := 12, ground := Ground.data }], guard := none }) (v := ?_) rfl (by kernel_rfl) (by kernel_rfl) (by kernel_rfl) (fun _ _ _ h => h) (Or.inl ⟨by rfl, ?_⟩) (by assumption) ?_
        rotate_left
        · intro X hSw; go_simp; try (with_reducible rfl)
        try simp only [Act.put, List.setIfInBounds_toArray, List.set_cons_zero, List.set_cons_succ]
        refine wpAnyH_done (by kernel_rfl) ?_ _
        go_wp2
        go_roundw
        case rel => exact ⟨k + 1, by omega, by go_num, HO5.out, HB5.out⟩
        case measure => simp [intOf]; omega
      · have hm2 : ¬ (k : Int) < (m : Int) := by omega
        have hkm : k = m := by omega
        rw [hkm] at ho
        have hinv := fs_inv q l m
        have HOr := Lib.hid ho
        have HBr := Lib.hid hbel
        have HN1 := Lib.hid (show (fs q l m).nw ≤ 100000 by rw [hinv.2.2.2.1]; omega)
        have HL1 := Lib.hid hinv.2.2.1
        have hcn : ((fs q l m).crash []).write 0 [9] = ((fs q l m).crash []).put 0 [9] := by
          have hh : ((fs q l m).crash []).has 0 = true := Sim.has_iff.2 ⟨by omega, by show (0 : Int) < ((kept (fs q l m).firm _ _ _).length : Int); rw [kept_length, hinv.1, new_firm]; decide⟩
          unfold Sim.write
          rw [hh]
          rfl
        have HC := Lib.hid hcn
        have HN2 := Lib.hid (show ((fs q l m).crash []).nw < 299 by show (fs q l m).nw < 299; rw [hinv.2.2.2.1]; omega)
        have HN3 := Lib.hid (show ((fs q l m).crash []).nf < 299 by show (fs q l m).nf < 299; rw [hinv.2.2.2.2]; decide)
        have HN4 := Lib.hid (show (((fs q l m).crash []).put 0 [9]).nw ≤ 100000 by show (fs q l m).nw + 1 ≤ 100000; rw [hinv.2.2.2.1]; omega)
        clear hkm ho hbel hinv hcn HO2 HB2
        by_cases hqm : q < m
        · have hqm2 : (q : Int) < (m : Int) := by omega
          have HL := Lib.hid (show (fs q l m).loose.length = q by rw [HL1.out]; omega)
          clear HL1
          go_wp2_with fail
          go_at_call 22
          refine (own_loose HOr.out HN1.out).mono ?_
          rintro e w3 ⟨A3, c3, rfl, hb⟩
          rw [HL.out]
          have HO3 := Lib.hid (HOr.out.below hb)
          have HB3 := Lib.hid (HBr.out.trans (hb.mono HBr.out.size))
          clear hb
          go_wp2_with fail
          go_at_call 14
          refine (own_crash _ [] HO3.out (Below.refl _ _) (KB.nil_ _ _) HN1.out).mono ?_
          rintro e w4 ⟨rfl, ho, hb⟩
          have HO4 := Lib.hid ho
          have HB4 := Lib.hid (HB3.out.trans hb)
          clear ho hb
          go_wp2_with fail
          go_at_call 12
          refine (own_write (0 : Int) _ [9] HO4.out ((Below.refl _ _).alloc (Nat.le_refl _) _) (RB.lit w4 5 (0, 0) [9] _ rfl 1 rfl (by decide)) (fun _ j hj => .inr (by simp [Value.ownBlock] at hj; omega)) HN2.out HN3.out).mono ?_
          rintro e w5 ⟨rfl, ho, hb⟩
          rw [HC.out] at ho
          have HO5 := Lib.hid ho
          have HB5 := Lib.hid ((HB4.out.alloc HB4.out.size _).trans hb)
          clear ho hb
          go_wp2_with fail
          go_at_call 10
          refine (known_any _).mono ?_
          rintro e w6 ⟨rfl, hb⟩
          have HO6 := Lib.hid (HO5.out.below hb)
          have HB6 := Lib.hid (HB5.out.trans (hb.mono HB5.out.size))
          clear hb
          go_wp2_with fail
          go_at_call 22
          refine (own_loose HO6.out HN4.out).mono ?_
          rintro e w7 ⟨A7, c7, rfl, hb⟩
          rw [show (((fs q l m).crash []).put 0 [9]).loose.length = 1 from rfl]
          have HB7 := Lib.hid (HB6.out.trans (hb.mono HB6.out.size))
          clear hb
          go_wp2
          go_ret
          exact ⟨rfl, HB7.out⟩
        · have hqm2 : ¬ (q : Int) < (m : Int) := by omega
          have HL := Lib.hid (show (fs q l m).loose.length = m by rw [HL1.out]; omega)
          clear HL1
          go_wp2_with fail
          go_at_call 22
          refine (own_loose HOr.out HN1.out).mono ?_
          rintro e w3 ⟨A3, c3, rfl, hb⟩
          rw [HL.out]
          have HO3 := Lib.hid (HOr.out.below hb)
          have HB3 := Lib.hid (HBr.out.trans (hb.mono HBr.out.size))
          clear hb
          go_wp2_with fail
          go_at_call 14
          refine (own_crash _ [] HO3.out (Below.refl _ _) (KB.nil_ _ _) HN1.out).mono ?_
          rintro e w4 ⟨rfl, ho, hb⟩
          have HO4 := Lib.hid ho
          have HB4 := Lib.hid (HB3.out.trans hb)
          clear ho hb
          go_wp2_with fail
          go_at_call 12
          refine (own_write (0 : Int) _ [9] HO4.out ((Below.refl _ _).alloc (Nat.le_refl _) _) (RB.lit w4 5 (0, 0) [9] _ rfl 1 rfl (by decide)) (fun _ j hj => .inr (by simp [Value.ownBlock] at hj; omega)) HN2.out HN3.out).mono ?_
          rintro e w5 ⟨rfl, ho, hb⟩
          rw [HC.out] at ho
          have HO5 := Lib.hid ho
          have HB5 := Lib.hid ((HB4.out.alloc HB4.out.size _).trans hb)
          clear ho hb
          go_wp2_with fail
          go_at_call 10
          refine (known_any _).mono ?_
          rintro e w6 ⟨rfl, hb⟩
          have HO6 := Lib.hid (HO5.out.below hb)
          have HB6 := Lib.hid (HB5.out.trans (hb.mono HB5.out.size))
          clear hb
          go_wp2_with fail
          go_at_call 22
          refine (own_loose HO6.out HN4.out).mono ?_
          rintro e w7 ⟨A7, c7, rfl, hb⟩
          rw [show (((fs q l m).crash []).put 0 [9]).loose.length = 1 from rfl]
          have HB7 := Lib.hid (HB6.out.trans (hb.mono HB6.out.size))
          clear hb
          go_wp2
          go_ret
          exact ⟨rfl, HB7.out⟩
end Go.Proofs.Ytpaahbohbnfibaa
