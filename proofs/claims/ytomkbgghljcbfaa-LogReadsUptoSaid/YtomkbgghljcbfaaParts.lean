/-
  The contract of the program's Parts.
-/
import Derived.Test.YtomkbgghljcbfaaPartsW
import Derived.Test.YtomkbgghljcbfaaGSec
import Derived.Test.YtomkbgghljcbfaaGRefP
import Derived.OrdersHeld
namespace Go.Proofs.Ytomkbgghljcbfaa
open Go.RowKit Go.Rst Go.Crc Go.Shelf
attribute [local go_sem] Oper.semAt_some

def secX (ep n of : Nat) (ps : List (List UInt8)) : List (List UInt8) := ps.zipIdx.map fun x => partL ep n x.2 of x.1
theorem secX_snoc (ep n of : Nat) (ps : List (List UInt8)) (p : List UInt8) : secX ep n of (ps ++ [p]) = secX ep n of ps ++ [partL ep n ps.length of p] := by
  unfold secX
  rw [List.zipIdx_append, List.map_append]
  simp
theorem secX_len (ep n of : Nat) (ps : List (List UInt8)) : (secX ep n of ps).length = ps.length := by simp [secX]
theorem secX_chunks (ep n : Nat) (bl : List UInt8) : secX ep n (ofL bl) (chunkL bl) = secL ep n bl (ofL bl) := by
  unfold chunkL
  have : ∀ k, secX ep n (ofL bl) ((List.range k).map (pcL bl)) = secL ep n bl k := by
    intro k
    induction k with
    | zero => rfl
    | succ k ih => rw [List.range_succ, List.map_append, List.map_cons, List.map_nil, secX_snoc, ih, secL_succ, List.length_map, List.length_range]
  exact this _
theorem leaveP {W : World} {tmps : Array Value} {a b : Value} (h2 : tmps.getD 6 undef = a) (h3 : tmps.getD 7 undef = b) : (results Try.f24 tmps).run Try.prog W = .ok (.tuple #[a, b]) W := by
  subst h2
  subst h3
  exact results_tmp2 rfl _ _ _
theorem rb_kept {A B : World} {row : Option Nat} {v : Value} {l : List UInt8} (h : RB A v l) (hg : A.grownBy B row) (hr : ∀ r, row = some r → ∃ o : Obj, A.heap[r]? = some o ∧ o.isCells = false) : RB B v l := by
  obtain ⟨A', c, rfl, h1, h2, h3⟩ := h
  refine ⟨A', c, rfl, h1, h2, h3.imp id fun h => ?_⟩
  obtain ⟨b, off, rfl, hb, hc⟩ := h
  exact ⟨b, off, rfl, Nat.lt_of_lt_of_le hb hg.size, fun j hj => cell_kept (hc j hj) hg hr⟩
theorem rc_below {w w' : World} {B : Nat} {v : Value} {rs : List Chg} (h : RC w v rs) (hb : Below B w w') (hB : w.heap.size ≤ B) : RC w' v rs := by
  obtain ⟨A, c, rfl, h1, h2, h3⟩ := h
  refine ⟨A, c, rfl, h1, h2, h3.imp id fun h => ?_⟩
  obtain ⟨b, off, rfl, hb0, hc⟩ := h
  refine ⟨b, off, rfl, Nat.lt_of_lt_of_le hb0 hb.size, fun j hj => ?_⟩
  obtain ⟨a1, ⟨u, a2, a3⟩, a4⟩ := hc j hj
  exact ⟨(hb.cell (p := ⟨b, off + j * 3, none⟩) (by show b < B; omega)).trans a1, ⟨u, (hb.cell (p := ⟨b, off + j * 3 + 1, none⟩) (by show b < B; omega)).trans a2, a3.below (hb.mono hB)⟩, (hb.cell (p := ⟨b, off + j * 3 + 2, none⟩) (by show b < B; omega)).trans a4⟩

set_option maxRecDepth 100000 in
set_option maxHeartbeats 8000000 in
theorem parts_any (epoch num : Int) (v : Value) (cs : List Chg) (w : World) (hv : RC w v cs) (hbig : (chgsB cs).length ≤ 100000000) (hn : cs.length ≤ 100000000) (hvb : ∀ r ∈ cs, r.2.1.length ≤ 1000000000) :
    Calls Try.prog 24 #[.int .i64 epoch, .int .i64 num, v] w (GivesPt w (partsL epoch num cs)) := by
  have HC := Lib.hid (fun X (h : RC X v cs) => changes_any v cs (by omega) (by omega) hvb X h)
  have HV := Lib.hid hv
  obtain ⟨Av, cv, rfl, hcv1, hcv2, _⟩ := hv
  unfold maxLen at hcv2
  have hP : partsL epoch num cs = if epoch < 0 ∨ 1073741824 < epoch ∨ num < 0 ∨ 1073741824 < num then ([], false)
    else if 200 < ofL (chgsL cs) then ([], false) else (secL epoch.toNat num.toNat (chgsL cs) (ofL (chgsL cs)), true) := rfl
  have hbl : (chgsL cs).length ≤ 100000010 := by
    have := numL_len8 (n := cs.length) (by omega)
    unfold chgsL
    rw [List.length_append]
    omega
  have hbp := chgsL_pos cs
  generalize chgsL cs = bl at *
  generalize partsL epoch num cs = R at *
  clear hvb hbig
  refine (callsIn_wide (n := 3)).1 ?_
  refine callsIn_of_wp_marks Try.func24 rfl trivial ?_ rfl
  simp only [Try.ntmps24, List.size_toArray, List.length_cons, List.length_nil, Nat.reduceAdd, Nat.reduceSub, Array.replicate_succ, Array.replicate_zero, List.push_toArray, List.append_toArray, List.nil_append, List.cons_append]
  have hb2 : Below w.heap.size w ((w.alloc (.cells #[.int .i64 epoch] 3)).alloc (.cells #[.int .i64 num] 3)) := ((Below.refl _ _).alloc (Nat.le_refl _) _).alloc (by simp) _
  have HB2 := Lib.hid hb2
  clear hb2
  by_cases h1 : 0 ≤ epoch ∧ epoch ≤ 1073741824
  · by_cases h2 : 0 ≤ num ∧ num ≤ 1073741824
    · have d1 : decide (0 ≤ epoch ∧ epoch ≤ 1073741824) = true := by simp [h1]
      have d2 : decide (0 ≤ num ∧ num ≤ 1073741824) = true := by simp [h2]
      rw [if_neg (by omega)] at hP
      obtain ⟨ep, rfl⟩ := Int.eq_ofNat_of_zero_le h1.1
      obtain ⟨n, rfl⟩ := Int.eq_ofNat_of_zero_le h2.1
      simp only [Int.toNat_natCast] at hP
      obtain ⟨L, hL⟩ : ∃ L, L = bl.length := ⟨_, rfl⟩
      obtain ⟨of, hof⟩ : ∃ of, of = ofL bl := ⟨_, rfl⟩
      rw [← hof] at hP
      have hofd : ((L : Int) + 48) / 49 = of := by rw [hof, hL]; unfold ofL; omega
      have hofd' : ((L : Int) + 48).tdiv 49 = of := by rw [Int.tdiv_eq_ediv_of_nonneg (by omega)]; exact hofd
      have hofd2 : ((L : Int) + 49 - 1) / 49 = of := by rw [show (L : Int) + 49 - 1 = (L : Int) + 48 by omega]; exact hofd
      have hLb : L ≤ 100000010 := by omega
      have HL := Lib.hid hL
      have HOF := Lib.hid hof
      have HP := Lib.hid hP
      have HBP := Lib.hid hbp
      clear hP hL hof hbp hbl
      by_cases hbig : 200 < of
      · have HP2 := Lib.hid (show R = ([], false) by rw [HP.out, if_pos hbig])
        have hbig' : (200 : Int) < (of : Int) := by omega
        clear HP
        gi_wp2_with (first | (gi_at_call 44; refine (callsIn_wide.2 (counts_any _ _)).mono ?_; rintro e w2 ⟨rfl, rfl⟩) | (gi_at_call 45; refine (callsIn_wide.2 (HC.out _ (rc_below HV.out HB2.out (Nat.le_refl _)))).mono ?_; rintro e w2 ⟨v2, rfl, ho2, hb2⟩; obtain ⟨b, c, rfl⟩ := ownsRow_succ (k := bl.length - 1) (by rw [Nat.sub_add_cancel HBP.out]; exact ho2); rw [Nat.sub_add_cancel HBP.out] at ho2 ⊢; have HO2 := Lib.hid ho2; have HBB := Lib.hid hb2; clear ho2 hb2; rw [← HL.out] at HO2 ⊢) | (gi_at_call 46; refine (chunk_in _ _ _ rfl).mono ?_; rintro e w3 ⟨rfl, rfl⟩) | (refine ⟨(show Fence.wide.fn _ from trivial), ?_⟩))
        have hsz2 : ((w.alloc (.cells #[.int .i64 ep] 3)).alloc (.cells #[.int .i64 n] 3)).heap.size = w.heap.size + 2 := by simp
        have hbw := HB2.out.trans (HBB.out.mono (by rw [hsz2]; omega))
        exact ⟨_, leaveP rfl rfl, GivesPt.none HP2.out (hbw.alloc hbw.size _)⟩
      · have HP2 := Lib.hid (show R = (secL ep n bl of, true) by rw [HP.out, if_neg hbig])
        have hbig' : ¬ (200 : Int) < (of : Int) := by omega
        clear HP
        gi_wp2_with (first | (gi_at_call 44; refine (callsIn_wide.2 (counts_any _ _)).mono ?_; rintro e w2 ⟨rfl, rfl⟩) | (gi_at_call 45; refine (callsIn_wide.2 (HC.out _ (rc_below HV.out HB2.out (Nat.le_refl _)))).mono ?_; rintro e w2 ⟨v2, rfl, ho2, hb2⟩; obtain ⟨b, c, rfl⟩ := ownsRow_succ (k := bl.length - 1) (by rw [Nat.sub_add_cancel HBP.out]; exact ho2); rw [Nat.sub_add_cancel HBP.out] at ho2 ⊢; have HO2 := Lib.hid ho2; have HBB := Lib.hid hb2; clear ho2 hb2; rw [← HL.out] at HO2 ⊢) | (gi_at_call 46; refine (chunk_in _ _ _ rfl).mono ?_; rintro e w3 ⟨rfl, rfl⟩) | (refine ⟨(show Fence.wide.fn _ from trivial), ?_⟩))
        have hfr0 := HO2.out
        have hsz2 : ((w.alloc (.cells #[.int .i64 ep] 3)).alloc (.cells #[.int .i64 n] 3)).heap.size = w.heap.size + 2 := by simp
        have hbw := HB2.out.trans (HBB.out.mono (by rw [hsz2]; omega))
        obtain ⟨B, hBe⟩ : ∃ B, B = w2.heap.size := ⟨_, rfl⟩
        have hBB : w.heap.size + 2 ≤ B := by rw [hBe, ← hsz2]; exact HBB.out.size
        have b4 : Below w2.heap.size w2 ((((w2.alloc (.cells #[.int .i64 of] 3)).alloc (.cells #[.slice none 0 0] 29)).alloc (.cells #[.slice (some ⟨b, 0, none⟩) L c] 23)).alloc (.cells #[.int .i64 49] 3)) := ((((Below.refl _ _).alloc (Nat.le_refl _) _).alloc (by simp) _).alloc (by simp; omega) _).alloc (by simp; omega) _
        have x0 : Boxed ((w.alloc (.cells #[.int .i64 ep] 3)).alloc (.cells #[.int .i64 n] 3)) w.heap.size 3 (.int .i64 ep) := (Boxed.new w _ _).alloc _
        have x1 : Boxed ((w.alloc (.cells #[.int .i64 ep] 3)).alloc (.cells #[.int .i64 n] 3)) (w.heap.size + 1) 3 (.int .i64 n) := by
          have := Boxed.new (w.alloc (.cells #[.int .i64 ep] 3)) 3 (.int .i64 n)
          rw [World.size_alloc] at this
          exact this
        have x2 := Boxed.new w2 3 (.int .i64 of)
        have x3 := Boxed.new (w2.alloc (.cells #[.int .i64 of] 3)) 29 (.slice none 0 0)
        have x4 := Boxed.new ((w2.alloc (.cells #[.int .i64 of] 3)).alloc (.cells #[.slice none 0 0] 29)) 23 (.slice (some ⟨b, 0, none⟩) L c)
        have x5 := Boxed.new (((w2.alloc (.cells #[.int .i64 of] 3)).alloc (.cells #[.slice none 0 0] 29)).alloc (.cells #[.slice (some ⟨b, 0, none⟩) L c] 23)) 3 (.int .i64 49)
        simp only [World.size_alloc] at x3 x4 x5
        have hq0 : QS w ep n of (.slice (some ⟨b, 0, none⟩) L c) bl B [] (.slice none 0 0) ((((w2.alloc (.cells #[.int .i64 of] 3)).alloc (.cells #[.slice none 0 0] 29)).alloc (.cells #[.slice (some ⟨b, 0, none⟩) L c] 23)).alloc (.cells #[.int .i64 49] 3)) := by
          rw [hBe]
          refine ⟨(x3.alloc _).alloc _, OP.nil_ _ _ _ _, ⟨?_, ?_, ?_, ((x2.alloc _).alloc _).alloc _, x4.alloc _, x5, hbw.trans (b4.mono hbw.size)⟩, hbw.size, fun g hg => by simp [Value.ownBlock] at hg⟩
          · have h := own_below (own_base hfr0 (base' := w.heap.size) (by rw [hsz2]; omega)) b4
            rw [← HL.out]
            exact h
          · exact (b4.block _ (by omega)).trans ((HBB.out.block _ (by rw [hsz2]; omega)).trans x0)
          · exact (b4.block _ (by omega)).trans ((HBB.out.block _ (by rw [hsz2]; omega)).trans x1)
        have hsz0 : ((((w2.alloc (.cells #[.int .i64 of] 3)).alloc (.cells #[.slice none 0 0] 29)).alloc (.cells #[.slice (some ⟨b, 0, none⟩) L c] 23)).alloc (.cells #[.int .i64 49] 3)).heap.size = B + 4 := by rw [hBe]; simp
        rw [← hBe]
        obtain ⟨W0, hW0⟩ : ∃ W0, W0 = ((((w2.alloc (.cells #[.int .i64 of] 3)).alloc (.cells #[.slice none 0 0] 29)).alloc (.cells #[.slice (some ⟨b, 0, none⟩) L c] 23)).alloc (.cells #[.int .i64 49] 3)) := ⟨_, rfl⟩
        rw [← hW0] at hq0 hsz0 ⊢
        clear x0 x1 x2 x3 x4 x5 b4 hW0 hfr0 hbw HO2 HBB hBe
        refine wpIn_rangeFunc_ownG rfl (by decide) (gf := 66) (lb := #[.pointer (some ⟨B + 1 + 1, 0, none⟩), .pointer (some ⟨B + 1 + 1 + 1, 0, none⟩)]) rfl trivial (enters_of Try.func66 (by kernel_rfl) rfl)
          (chunk_stops 2 b 0 c L (B + 1 + 1) bl W0 HL.out hq0.pk.dc (by omega)) (fun h k x => k (h x)) (fun X l o o' hl hlo hc _ hx => ?kb) (Below.refl _ _) (fun _ => rfl)
          (fun pre X => ∃ sv, QS w ep n of (.slice (some ⟨b, 0, none⟩) L c) bl B (secX ep n of (pre.map (·.1.2))) sv X)
          (fun _ _ _ => False)
          ?oi (fun _ _ _ _ _ h _ _ => h) ⟨_, by simpa [secX] using hq0⟩
          (fun x => { tmps := #[.int .i64 ep, .int .i64 n, .slice Av cs.length cv, .pointer (some ⟨w.heap.size, 0, none⟩), .pointer (some ⟨w.heap.size + 1, 0, none⟩), undef, .slice none 0 0, .bool false, .slice (some ⟨b, 0, none⟩) L c, .pointer (some ⟨B, 0, none⟩), .pointer (some ⟨B + 1, 0, none⟩), x.1.1, .int .i64 ep, .bool true, .bool false, .bool false, .int .i64 n, .bool true, .bool false, .bool false, .slice Av cs.length cv, .slice (some ⟨b, 0, none⟩) L c, .slice (some ⟨b, 0, none⟩) L c, .int .i64 L, .int .i64 ((L : Int) + 49), .int .i64 ((L : Int) + 49 - 1), .int .i64 of, .int .i64 of, .bool (decide ((200 : Int) < of)), .slice (some ⟨b, 0, none⟩) L c, .func (.func 66) #[] #[.pointer (some ⟨B + 1 + 1, 0, none⟩), .pointer (some ⟨B + 1 + 1 + 1, 0, none⟩)], x.1.1, undef, undef, undef, undef, undef, undef, undef, undef, undef, undef, undef], defers := [] }) ?assign ?body ?done ?stop
        case kb =>
          have hg := grownBy_putObj' X l o'
          have hk : KX (fun _ _ => True) X (X.putObj l o') := KX.of_grown hg (fun r e => by cases e; exact ⟨o, hlo, hc⟩)
          exact ⟨rb_kept hx.1 hg (fun r e => by cases e; exact ⟨o, hlo, hc⟩), hk.boxed trivial hx.2.1, hk.boxed trivial hx.2.2⟩
        case oi =>
          rintro pre X Y row ⟨sv, h⟩ hg hr
          exact ⟨sv, h.grown hg (fun r e => ⟨by have := (hr r e).1; omega, (hr r e).2⟩)⟩
        case assign =>
          intro l x X K hK
          gi_wp2
          exact hK
        case stop =>
          intro D c pre X hD hS h
          exact h.elim
        case done =>
          rintro D xs X hD hS ⟨sv, hq⟩ hK
          rw [hS, HOF.out, secX_chunks, ← HOF.out] at hq
          have hmk3 : Marks w.heap.size X.heap.size X [{ target := .collected D, args := #[] }] := ⟨⟨D, rfl, by omega, (Array.getElem?_eq_some_iff.1 hK).1, hK, fun d hd => by cases hd⟩, trivial⟩
          obtain ⟨Ac, cc, rfl, _⟩ := hq.op.shape
          have hcb := hq.bs.cell
          rw [secL_length] at hcb hq
          have HQ := Lib.hid hq
          have HMK3 := Lib.hid hmk3
          clear hq hmk3 hS
          gi_wp2
          exact leaves_marks HMK3.out (fun W' hkx hb => ⟨_, leaveP rfl rfl, by rw [HP2.out]; exact ⟨_, rfl, hkx.op (fun _ => trivial) (fun _ => trivial) HQ.out.op, HQ.out.pk.bl.trans hb⟩⟩)
        case body =>
          rintro l pre ⟨⟨xv, p⟩, hxr, hxl⟩ X ⟨sv, hq⟩ hlt
          dsimp only at hxr hxl hlt ⊢
          obtain ⟨Ax, cx, hxv⟩ : ∃ A c, xv = .slice A p.length c := by obtain ⟨A, c, h, _⟩ := hxr X (RB.own hq.pk.ow); exact ⟨A, c, h⟩
          subst hxv
          have hK : (pre.map (·.1.2)).length = pre.length := by rw [List.length_map]
          have hsl := secX_len ep n of (pre.map (·.1.2))
          obtain ⟨kN, hKe⟩ : ∃ kN, kN = pre.length := ⟨_, rfl⟩
          rw [← hKe] at hK hlt
          rw [hK] at hsl
          have HKK := Lib.hid hK
          have HLN := Lib.hid hsl
          have HSEC := Lib.hid (fun Y (hY : RB Y (.slice Ax p.length cx) p) => sector_any ep n kN of _ p (by omega) (by omega) Y hY hxl)
          have HP64 := Lib.hid (@partL_length ep n kN of p hxl)
          have HST := Lib.hid hq
          have hA := hq.bs.cell
          obtain ⟨As, c0, hsv, _, _⟩ := hq.op.shape
          rw [hsl] at hsv
          subst hsv
          have RBX := Lib.hid hxr
          have hK200 : kN ≤ 201 := by have := HOF.out; omega
          clear hq hK hsl hKe
          gi_wp2
          have HSTD := Lib.hid (HST.out.below (Below.refl _ _).drew)
          have hA := HSTD.out.bs.cell
          have HKOD := Lib.hid (KeepsOthers.drew X)
          refine wpIn_region_round (S := PK w ep n of (.slice (some ⟨b, 0, none⟩) L c) bl B) (by kernel_rfl) (by kernel_rfl) (fun a w h => h) HSTD.out.pk (fun hHeld => ?_)
          generalize X.drew = wd at *
          refine wpAnyH_take (i := 1) (oi := { dst := some 33, op := Op.load 3 (Operand.tmp 3), type := 3, pos := "log.go:32", after := #[], guard := none }) (v := ?_) rfl (by kernel_rfl) (by kernel_rfl) (by kernel_rfl) (fun _ _ _ h => h.elim) (Or.inl ⟨by rfl, ?_⟩) (by assumption) ?_
          rotate_left
          · intro X hSw; have hq := hSw.be.cell; go_simp; try (with_reducible rfl)
          try simp only [Act.put, List.setIfInBounds_toArray, List.set_cons_zero, List.set_cons_succ]
          refine wpAnyH_take (i := 2) (oi := { dst := some 34, op := Op.load 3 (Operand.tmp 4), type := 3, pos := "log.go:32", after := #[], guard := none }) (v := ?_) rfl (by kernel_rfl) (by kernel_rfl) (by kernel_rfl) (fun _ _ _ h => h.elim) (Or.inl ⟨by rfl, ?_⟩) (by assumption) ?_
          rotate_left
          · intro X hSw; have hq := hSw.bn.cell; go_simp; try (with_reducible rfl)
          try simp only [Act.put, List.setIfInBounds_toArray, List.set_cons_zero, List.set_cons_succ]
          refine wpAnyH_take (i := 5) (oi := { dst := some 37, op := Op.load 3 (Operand.tmp 9), type := 3, pos := "log.go:32", after := #[], guard := none }) (v := ?_) rfl (by kernel_rfl) (by kernel_rfl) (by kernel_rfl) (fun _ _ _ h => h.elim) (Or.inl ⟨by rfl, ?_⟩) (by assumption) ?_
          rotate_left
          · intro X hSw; have hq := hSw.bc.cell; go_simp; try (with_reducible rfl)
          try simp only [Act.put, List.setIfInBounds_toArray, List.set_cons_zero, List.set_cons_succ]
          refine wpAnyH_take (i := 6) (oi := { dst := some 38, op := Op.move (Operand.tmp 11), type := 23, pos := "log.go:32", after := #[], guard := none }) (v := ?_) rfl (by kernel_rfl) (by kernel_rfl) (by kernel_rfl) (fun _ _ _ h => h.elim) (Or.inl ⟨by rfl, ?_⟩) (by assumption) ?_
          rotate_left
          · intro X hSw; go_simp; try (with_reducible rfl)
          try simp only [Act.put, List.setIfInBounds_toArray, List.set_cons_zero, List.set_cons_succ]
          refine wpAnyH_ready (rs := [0, 3]) (by kernel_rfl) (by simp) ?_
          refine AllReadyH.cons (o := { dst := some 32, op := Op.load 29 (Operand.tmp 10), type := 29, pos := "log.go:32", after := #[], guard := none }) rfl (fun K hK => ?_) (AllReadyH.cons (o := { dst := some 35, op := Op.load 29 (Operand.tmp 10), type := 29, pos := "log.go:32", after := #[], guard := none }) rfl (fun K hK => ?_) AllReadyH.nil)
          · go_simp
            try (go_wp2_with fail)
            refine hK.out _ _ ?_ (fun _ => ?_)
            · exact hHeld
            clear hK K
            try simp only [Act.put, List.setIfInBounds_toArray, List.set_cons_zero, List.set_cons_succ]
            refine wpAnyH_ready (rs := [3]) (by kernel_rfl) (by simp) ?_
            refine AllReadyH.cons (o := { dst := some 35, op := Op.load 29 (Operand.tmp 10), type := 29, pos := "log.go:32", after := #[], guard := none }) rfl (fun K hK => ?_) AllReadyH.nil
            go_simp
            try (go_wp2_with fail)
            refine hK.out _ _ ?_ (fun _ => ?_)
            · exact hHeld
            clear hK K
            try simp only [Act.put, List.setIfInBounds_toArray, List.set_cons_zero, List.set_cons_succ]
            refine wpAnyH_take (i := 4) (oi := { dst := some 36, op := Op.call { callee := Callee.builtin Builtin.len, args := #[Operand.tmp 35], argTypes := #[29] }, type := 3, pos := "log.go:32", after := #[{ on := 3, ground := Ground.data }], guard := none }) (v := ?_) rfl (by kernel_rfl) (by kernel_rfl) (by kernel_rfl) (fun _ _ _ h => h.elim) (Or.inl ⟨by rfl, ?_⟩) (by assumption) ?_
            rotate_left
            · intro X hSw; go_simp; try (with_reducible rfl)
            try simp only [Act.put, List.setIfInBounds_toArray, List.set_cons_zero, List.set_cons_succ]
            refine wpAnyH_ready (rs := [7]) (by kernel_rfl) (by simp) ?_
            refine AllReadyH.cons (o := { dst := some 39, op := Op.call { callee := Callee.value (Operand.func 47), args := #[Operand.tmp 33, Operand.tmp 34, Operand.tmp 36, Operand.tmp 37, Operand.tmp 38], argTypes := #[3, 3, 3, 3, 23] }, type := 23, pos := "log.go:32", after := #[{ on := 1, ground := Ground.data }, { on := 2, ground := Ground.data }, { on := 4, ground := Ground.data }, { on := 5, ground := Ground.data }, { on := 6, ground := Ground.data }], guard := none }) rfl (fun K hK => ?_) AllReadyH.nil
            go_simp
            refine (HSEC.out _ (RBX.out _ (RB.own hHeld.ow))).mono ?_
            rintro e w4 ⟨v4, rfl, ho4, hb4⟩
            have hfb4 := FB.own ho4
            rw [HP64.out] at ho4
            obtain ⟨A4, c4, rfl, _⟩ := own_shape ho4
            have HST4 := Lib.hid (HSTD.out.below hb4)
            have hA := HST4.out.bs.cell
            have HF4 := Lib.hid (hfb4.base_ (base' := w.heap.size) HSTD.out.pk.bl.size)
            have HKO4 := Lib.hid (KeepsOthers.of_grownBy (grown_none hb4) (fun _ _ h => (by cases h)))
            try (go_wp2_with fail)
            have hHeld' := hHeld.below hb4
            refine hK.out _ _ ?_ (fun _ => ?_)
            · exact hHeld'
            clear hK K hHeld
            have hHeld := hHeld'
            clear hHeld'
            try simp only [Act.put, List.setIfInBounds_toArray, List.set_cons_zero, List.set_cons_succ]
            refine wpAnyH_ready (rs := [8]) (by kernel_rfl) (by simp) ?_
            refine AllReadyH.cons (o := { dst := some 40, op := Op.buildSlice 29 1 #[(0, Operand.tmp 39)], type := 29, pos := "log.go:32", after := #[{ on := 7, ground := Ground.data }], guard := none }) rfl (fun K hK => ?_) AllReadyH.nil
            go_simp
            have hb6 := (Below.refl w4.heap.size w4).alloc (Nat.le_refl _) (Obj.cells #[.slice A4 64 c4] 23)
            have hA := (HST4.out.below hb6).bs.cell
            try (go_wp2_with fail)
            have hHeld' := hHeld.below hb6
            refine hK.out _ _ ?_ (fun _ => ?_)
            · exact hHeld'
            clear hK K hHeld
            have hHeld := hHeld'
            clear hHeld'
            try simp only [Act.put, List.setIfInBounds_toArray, List.set_cons_zero, List.set_cons_succ]
            refine wpAnyH_ready (rs := [9]) (by kernel_rfl) (by simp) ?_
            refine AllReadyH.cons (o := { dst := some 41, op := Op.call { callee := Callee.builtin Builtin.append, args := #[Operand.tmp 32, Operand.tmp 40], argTypes := #[29, 29] }, type := 29, pos := "log.go:32", after := #[{ on := 0, ground := Ground.data }, { on := 8, ground := Ground.data }, { on := 7, ground := Ground.chain }], guard := none }) rfl (fun K hK => ?_) AllReadyH.nil
            obtain ⟨us, hus, ho, hf⟩ := HST4.out.op
            have HUL := Lib.hid (show us.length = kN by have h := congrArg List.length hus; rw [List.length_map] at h; rw [h]; exact HLN.out)
            have hoA := own_below ho hb6
            have hss := HST4.out.pk.bl.size
            refine step_own3 rfl (.tmp 32) (.tmp 40) 29 29 rfl w.heap.size 23 (.slice none 0 0) 1 24 Try.underlying29 info23 rfl rfl hoA rfl (src_one _ Try.underlying29 23 _ rfl) ?_ ?_ ?_ ?_
            · have := HUL.out; unfold maxLen; omega
            · have := HUL.out; omega
            · simp; omega
            intro v5 w5 ho5 hg5 hv5
            obtain ⟨g5, c5, rfl⟩ := ownsRow_succ ho5
            obtain ⟨hbx, hpk5, hst5, hko5⟩ := HST4.out.push hus ho hf HF4.out ho5 hg5 hv5
            have hc5 := hbx.cell
            have hf5 := hbx.frozen
            have HST5 := Lib.hid hst5
            have HKO5 := Lib.hid hko5
            clear hst5 hko5 hus ho hf hoA ho5 hg5 hv5
            have hHeld' := hpk5
            refine hK.out _ _ ?_ (fun _ => ?_)
            · exact hHeld'
            clear hK K hHeld
            have hHeld := hHeld'
            clear hHeld'
            try simp only [Act.put, List.setIfInBounds_toArray, List.set_cons_zero, List.set_cons_succ]
            refine wpAnyH_ready (rs := [10]) (by kernel_rfl) (by simp) ?_
            refine AllReadyH.cons (o := { dst := none, op := Op.store 29 (Operand.tmp 10) (Operand.tmp 41), type := 0, pos := "log.go:32", after := #[{ on := 9, ground := Ground.data }, { on := 9, ground := Ground.chain }, { on := 0, ground := Ground.phase }, { on := 1, ground := Ground.phase }, { on := 2, ground := Ground.phase }, { on := 3, ground := Ground.phase }, { on := 4, ground := Ground.phase }, { on := 5, ground := Ground.phase }, { on := 6, ground := Ground.phase }, { on := 7, ground := Ground.phase }, { on := 8, ground := Ground.phase }, { on := 9, ground := Ground.phase }], guard := none }) rfl (fun K hK => ?_) AllReadyH.nil
            go_simp
            try (go_wp2_with fail)
            have hHeld' := HST5.out.pk
            refine hK.out _ _ ?_ (fun _ => ?_)
            · exact hHeld'
            clear hK K hHeld
            have hHeld := hHeld'
            clear hHeld'
            try simp only [Act.put, List.setIfInBounds_toArray, List.set_cons_zero, List.set_cons_succ]
            refine wpAnyH_done (by kernel_rfl) ?_ _
            try simp only [Exit.then]
            exact ⟨(HKOD.out.trans (HKO4.out.trans HKO5.out)).from _, fun _ => HST5.out.pk.dc, ⟨_, by rw [List.map_append, List.map_cons, List.map_nil, secX_snoc, HKK.out]; exact HST5.out⟩⟩
          · go_simp
            try (go_wp2_with fail)
            refine hK.out _ _ ?_ (fun _ => ?_)
            · exact hHeld
            clear hK K
            try simp only [Act.put, List.setIfInBounds_toArray, List.set_cons_zero, List.set_cons_succ]
            refine wpAnyH_take (i := 4) (oi := { dst := some 36, op := Op.call { callee := Callee.builtin Builtin.len, args := #[Operand.tmp 35], argTypes := #[29] }, type := 3, pos := "log.go:32", after := #[{ on := 3, ground := Ground.data }], guard := none }) (v := ?_) rfl (by kernel_rfl) (by kernel_rfl) (by kernel_rfl) (fun _ _ _ h => h.elim) (Or.inl ⟨by rfl, ?_⟩) (by assumption) ?_
            rotate_left
            · intro X hSw; go_simp; try (with_reducible rfl)
            try simp only [Act.put, List.setIfInBounds_toArray, List.set_cons_zero, List.set_cons_succ]
            refine wpAnyH_ready (rs := [0, 7]) (by kernel_rfl) (by simp) ?_
            refine AllReadyH.cons (o := { dst := some 32, op := Op.load 29 (Operand.tmp 10), type := 29, pos := "log.go:32", after := #[], guard := none }) rfl (fun K hK => ?_) (AllReadyH.cons (o := { dst := some 39, op := Op.call { callee := Callee.value (Operand.func 47), args := #[Operand.tmp 33, Operand.tmp 34, Operand.tmp 36, Operand.tmp 37, Operand.tmp 38], argTypes := #[3, 3, 3, 3, 23] }, type := 23, pos := "log.go:32", after := #[{ on := 1, ground := Ground.data }, { on := 2, ground := Ground.data }, { on := 4, ground := Ground.data }, { on := 5, ground := Ground.data }, { on := 6, ground := Ground.data }], guard := none }) rfl (fun K hK => ?_) AllReadyH.nil)
            · go_simp
              try (go_wp2_with fail)
              refine hK.out _ _ ?_ (fun _ => ?_)
              · exact hHeld
              clear hK K
              try simp only [Act.put, List.setIfInBounds_toArray, List.set_cons_zero, List.set_cons_succ]
              refine wpAnyH_ready (rs := [7]) (by kernel_rfl) (by simp) ?_
              refine AllReadyH.cons (o := { dst := some 39, op := Op.call { callee := Callee.value (Operand.func 47), args := #[Operand.tmp 33, Operand.tmp 34, Operand.tmp 36, Operand.tmp 37, Operand.tmp 38], argTypes := #[3, 3, 3, 3, 23] }, type := 23, pos := "log.go:32", after := #[{ on := 1, ground := Ground.data }, { on := 2, ground := Ground.data }, { on := 4, ground := Ground.data }, { on := 5, ground := Ground.data }, { on := 6, ground := Ground.data }], guard := none }) rfl (fun K hK => ?_) AllReadyH.nil
              go_simp
              refine (HSEC.out _ (RBX.out _ (RB.own hHeld.ow))).mono ?_
              rintro e w4 ⟨v4, rfl, ho4, hb4⟩
              have hfb4 := FB.own ho4
              rw [HP64.out] at ho4
              obtain ⟨A4, c4, rfl, _⟩ := own_shape ho4
              have HST4 := Lib.hid (HSTD.out.below hb4)
              have hA := HST4.out.bs.cell
              have HF4 := Lib.hid (hfb4.base_ (base' := w.heap.size) HSTD.out.pk.bl.size)
              have HKO4 := Lib.hid (KeepsOthers.of_grownBy (grown_none hb4) (fun _ _ h => (by cases h)))
              try (go_wp2_with fail)
              have hHeld' := hHeld.below hb4
              refine hK.out _ _ ?_ (fun _ => ?_)
              · exact hHeld'
              clear hK K hHeld
              have hHeld := hHeld'
              clear hHeld'
              try simp only [Act.put, List.setIfInBounds_toArray, List.set_cons_zero, List.set_cons_succ]
              refine wpAnyH_ready (rs := [8]) (by kernel_rfl) (by simp) ?_
              refine AllReadyH.cons (o := { dst := some 40, op := Op.buildSlice 29 1 #[(0, Operand.tmp 39)], type := 29, pos := "log.go:32", after := #[{ on := 7, ground := Ground.data }], guard := none }) rfl (fun K hK => ?_) AllReadyH.nil
              go_simp
              have hb6 := (Below.refl w4.heap.size w4).alloc (Nat.le_refl _) (Obj.cells #[.slice A4 64 c4] 23)
              have hA := (HST4.out.below hb6).bs.cell
              try (go_wp2_with fail)
              have hHeld' := hHeld.below hb6
              refine hK.out _ _ ?_ (fun _ => ?_)
              · exact hHeld'
              clear hK K hHeld
              have hHeld := hHeld'
              clear hHeld'
              try simp only [Act.put, List.setIfInBounds_toArray, List.set_cons_zero, List.set_cons_succ]
              refine wpAnyH_ready (rs := [9]) (by kernel_rfl) (by simp) ?_
              refine AllReadyH.cons (o := { dst := some 41, op := Op.call { callee := Callee.builtin Builtin.append, args := #[Operand.tmp 32, Operand.tmp 40], argTypes := #[29, 29] }, type := 29, pos := "log.go:32", after := #[{ on := 0, ground := Ground.data }, { on := 8, ground := Ground.data }, { on := 7, ground := Ground.chain }], guard := none }) rfl (fun K hK => ?_) AllReadyH.nil
              obtain ⟨us, hus, ho, hf⟩ := HST4.out.op
              have HUL := Lib.hid (show us.length = kN by have h := congrArg List.length hus; rw [List.length_map] at h; rw [h]; exact HLN.out)
              have hoA := own_below ho hb6
              have hss := HST4.out.pk.bl.size
              refine step_own3 rfl (.tmp 32) (.tmp 40) 29 29 rfl w.heap.size 23 (.slice none 0 0) 1 24 Try.underlying29 info23 rfl rfl hoA rfl (src_one _ Try.underlying29 23 _ rfl) ?_ ?_ ?_ ?_
              · have := HUL.out; unfold maxLen; omega
              · have := HUL.out; omega
              · simp; omega
              intro v5 w5 ho5 hg5 hv5
              obtain ⟨g5, c5, rfl⟩ := ownsRow_succ ho5
              obtain ⟨hbx, hpk5, hst5, hko5⟩ := HST4.out.push hus ho hf HF4.out ho5 hg5 hv5
              have hc5 := hbx.cell
              have hf5 := hbx.frozen
              have HST5 := Lib.hid hst5
              have HKO5 := Lib.hid hko5
              clear hst5 hko5 hus ho hf hoA ho5 hg5 hv5
              have hHeld' := hpk5
              refine hK.out _ _ ?_ (fun _ => ?_)
              · exact hHeld'
              clear hK K hHeld
              have hHeld := hHeld'
              clear hHeld'
              try simp only [Act.put, List.setIfInBounds_toArray, List.set_cons_zero, List.set_cons_succ]
              refine wpAnyH_ready (rs := [10]) (by kernel_rfl) (by simp) ?_
              refine AllReadyH.cons (o := { dst := none, op := Op.store 29 (Operand.tmp 10) (Operand.tmp 41), type := 0, pos := "log.go:32", after := #[{ on := 9, ground := Ground.data }, { on := 9, ground := Ground.chain }, { on := 0, ground := Ground.phase }, { on := 1, ground := Ground.phase }, { on := 2, ground := Ground.phase }, { on := 3, ground := Ground.phase }, { on := 4, ground := Ground.phase }, { on := 5, ground := Ground.phase }, { on := 6, ground := Ground.phase }, { on := 7, ground := Ground.phase }, { on := 8, ground := Ground.phase }, { on := 9, ground := Ground.phase }], guard := none }) rfl (fun K hK => ?_) AllReadyH.nil
              go_simp
              try (go_wp2_with fail)
              have hHeld' := HST5.out.pk
              refine hK.out _ _ ?_ (fun _ => ?_)
              · exact hHeld'
              clear hK K hHeld
              have hHeld := hHeld'
              clear hHeld'
              try simp only [Act.put, List.setIfInBounds_toArray, List.set_cons_zero, List.set_cons_succ]
              refine wpAnyH_done (by kernel_rfl) ?_ _
              try simp only [Exit.then]
              exact ⟨(HKOD.out.trans (HKO4.out.trans HKO5.out)).from _, fun _ => HST5.out.pk.dc, ⟨_, by rw [List.map_append, List.map_cons, List.map_nil, secX_snoc, HKK.out]; exact HST5.out⟩⟩
            · go_simp
              refine (HSEC.out _ (RBX.out _ (RB.own hHeld.ow))).mono ?_
              rintro e w4 ⟨v4, rfl, ho4, hb4⟩
              have hfb4 := FB.own ho4
              rw [HP64.out] at ho4
              obtain ⟨A4, c4, rfl, _⟩ := own_shape ho4
              have HST4 := Lib.hid (HSTD.out.below hb4)
              have hA := HST4.out.bs.cell
              have HF4 := Lib.hid (hfb4.base_ (base' := w.heap.size) HSTD.out.pk.bl.size)
              have HKO4 := Lib.hid (KeepsOthers.of_grownBy (grown_none hb4) (fun _ _ h => (by cases h)))
              try (go_wp2_with fail)
              have hHeld' := hHeld.below hb4
              refine hK.out _ _ ?_ (fun _ => ?_)
              · exact hHeld'
              clear hK K hHeld
              have hHeld := hHeld'
              clear hHeld'
              try simp only [Act.put, List.setIfInBounds_toArray, List.set_cons_zero, List.set_cons_succ]
              refine wpAnyH_ready (rs := [0, 8]) (by kernel_rfl) (by simp) ?_
              refine AllReadyH.cons (o := { dst := some 32, op := Op.load 29 (Operand.tmp 10), type := 29, pos := "log.go:32", after := #[], guard := none }) rfl (fun K hK => ?_) (AllReadyH.cons (o := { dst := some 40, op := Op.buildSlice 29 1 #[(0, Operand.tmp 39)], type := 29, pos := "log.go:32", after := #[{ on := 7, ground := Ground.data }], guard := none }) rfl (fun K hK => ?_) AllReadyH.nil)
              · go_simp
                try (go_wp2_with fail)
                refine hK.out _ _ ?_ (fun _ => ?_)
                · exact hHeld
                clear hK K
                try simp only [Act.put, List.setIfInBounds_toArray, List.set_cons_zero, List.set_cons_succ]
                refine wpAnyH_ready (rs := [8]) (by kernel_rfl) (by simp) ?_
                refine AllReadyH.cons (o := { dst := some 40, op := Op.buildSlice 29 1 #[(0, Operand.tmp 39)], type := 29, pos := "log.go:32", after := #[{ on := 7, ground := Ground.data }], guard := none }) rfl (fun K hK => ?_) AllReadyH.nil
                go_simp
                have hb6 := (Below.refl w4.heap.size w4).alloc (Nat.le_refl _) (Obj.cells #[.slice A4 64 c4] 23)
                have hA := (HST4.out.below hb6).bs.cell
                try (go_wp2_with fail)
                have hHeld' := hHeld.below hb6
                refine hK.out _ _ ?_ (fun _ => ?_)
                · exact hHeld'
                clear hK K hHeld
                have hHeld := hHeld'
                clear hHeld'
                try simp only [Act.put, List.setIfInBounds_toArray, List.set_cons_zero, List.set_cons_succ]
                refine wpAnyH_ready (rs := [9]) (by kernel_rfl) (by simp) ?_
                refine AllReadyH.cons (o := { dst := some 41, op := Op.call { callee := Callee.builtin Builtin.append, args := #[Operand.tmp 32, Operand.tmp 40], argTypes := #[29, 29] }, type := 29, pos := "log.go:32", after := #[{ on := 0, ground := Ground.data }, { on := 8, ground := Ground.data }, { on := 7, ground := Ground.chain }], guard := none }) rfl (fun K hK => ?_) AllReadyH.nil
                obtain ⟨us, hus, ho, hf⟩ := HST4.out.op
                have HUL := Lib.hid (show us.length = kN by have h := congrArg List.length hus; rw [List.length_map] at h; rw [h]; exact HLN.out)
                have hoA := own_below ho hb6
                have hss := HST4.out.pk.bl.size
                refine step_own3 rfl (.tmp 32) (.tmp 40) 29 29 rfl w.heap.size 23 (.slice none 0 0) 1 24 Try.underlying29 info23 rfl rfl hoA rfl (src_one _ Try.underlying29 23 _ rfl) ?_ ?_ ?_ ?_
                · have := HUL.out; unfold maxLen; omega
                · have := HUL.out; omega
                · simp; omega
                intro v5 w5 ho5 hg5 hv5
                obtain ⟨g5, c5, rfl⟩ := ownsRow_succ ho5
                obtain ⟨hbx, hpk5, hst5, hko5⟩ := HST4.out.push hus ho hf HF4.out ho5 hg5 hv5
                have hc5 := hbx.cell
                have hf5 := hbx.frozen
                have HST5 := Lib.hid hst5
                have HKO5 := Lib.hid hko5
                clear hst5 hko5 hus ho hf hoA ho5 hg5 hv5
                have hHeld' := hpk5
                refine hK.out _ _ ?_ (fun _ => ?_)
                · exact hHeld'
                clear hK K hHeld
                have hHeld := hHeld'
                clear hHeld'
                try simp only [Act.put, List.setIfInBounds_toArray, List.set_cons_zero, List.set_cons_succ]
                refine wpAnyH_ready (rs := [10]) (by kernel_rfl) (by simp) ?_
                refine AllReadyH.cons (o := { dst := none, op := Op.store 29 (Operand.tmp 10) (Operand.tmp 41), type := 0, pos := "log.go:32", after := #[{ on := 9, ground := Ground.data }, { on := 9, ground := Ground.chain }, { on := 0, ground := Ground.phase }, { on := 1, ground := Ground.phase }, { on := 2, ground := Ground.phase }, { on := 3, ground := Ground.phase }, { on := 4, ground := Ground.phase }, { on := 5, ground := Ground.phase }, { on := 6, ground := Ground.phase }, { on := 7, ground := Ground.phase }, { on := 8, ground := Ground.phase }, { on := 9, ground := Ground.phase }], guard := none }) rfl (fun K hK => ?_) AllReadyH.nil
                go_simp
                try (go_wp2_with fail)
                have hHeld' := HST5.out.pk
                refine hK.out _ _ ?_ (fun _ => ?_)
                · exact hHeld'
                clear hK K hHeld
                have hHeld := hHeld'
                clear hHeld'
                try simp only [Act.put, List.setIfInBounds_toArray, List.set_cons_zero, List.set_cons_succ]
                refine wpAnyH_done (by kernel_rfl) ?_ _
                try simp only [Exit.then]
                exact ⟨(HKOD.out.trans (HKO4.out.trans HKO5.out)).from _, fun _ => HST5.out.pk.dc, ⟨_, by rw [List.map_append, List.map_cons, List.map_nil, secX_snoc, HKK.out]; exact HST5.out⟩⟩
              · go_simp
                have hb6 := (Below.refl w4.heap.size w4).alloc (Nat.le_refl _) (Obj.cells #[.slice A4 64 c4] 23)
                have hA := (HST4.out.below hb6).bs.cell
                try (go_wp2_with fail)
                have hHeld' := hHeld.below hb6
                refine hK.out _ _ ?_ (fun _ => ?_)
                · exact hHeld'
                clear hK K hHeld
                have hHeld := hHeld'
                clear hHeld'
                try simp only [Act.put, List.setIfInBounds_toArray, List.set_cons_zero, List.set_cons_succ]
                refine wpAnyH_ready (rs := [0]) (by kernel_rfl) (by simp) ?_
                refine AllReadyH.cons (o := { dst := some 32, op := Op.load 29 (Operand.tmp 10), type := 29, pos := "log.go:32", after := #[], guard := none }) rfl (fun K hK => ?_) AllReadyH.nil
                go_simp
                try (go_wp2_with fail)
                refine hK.out _ _ ?_ (fun _ => ?_)
                · exact hHeld
                clear hK K
                try simp only [Act.put, List.setIfInBounds_toArray, List.set_cons_zero, List.set_cons_succ]
                refine wpAnyH_ready (rs := [9]) (by kernel_rfl) (by simp) ?_
                refine AllReadyH.cons (o := { dst := some 41, op := Op.call { callee := Callee.builtin Builtin.append, args := #[Operand.tmp 32, Operand.tmp 40], argTypes := #[29, 29] }, type := 29, pos := "log.go:32", after := #[{ on := 0, ground := Ground.data }, { on := 8, ground := Ground.data }, { on := 7, ground := Ground.chain }], guard := none }) rfl (fun K hK => ?_) AllReadyH.nil
                obtain ⟨us, hus, ho, hf⟩ := HST4.out.op
                have HUL := Lib.hid (show us.length = kN by have h := congrArg List.length hus; rw [List.length_map] at h; rw [h]; exact HLN.out)
                have hoA := own_below ho hb6
                have hss := HST4.out.pk.bl.size
                refine step_own3 rfl (.tmp 32) (.tmp 40) 29 29 rfl w.heap.size 23 (.slice none 0 0) 1 24 Try.underlying29 info23 rfl rfl hoA rfl (src_one _ Try.underlying29 23 _ rfl) ?_ ?_ ?_ ?_
                · have := HUL.out; unfold maxLen; omega
                · have := HUL.out; omega
                · simp; omega
                intro v5 w5 ho5 hg5 hv5
                obtain ⟨g5, c5, rfl⟩ := ownsRow_succ ho5
                obtain ⟨hbx, hpk5, hst5, hko5⟩ := HST4.out.push hus ho hf HF4.out ho5 hg5 hv5
                have hc5 := hbx.cell
                have hf5 := hbx.frozen
                have HST5 := Lib.hid hst5
                have HKO5 := Lib.hid hko5
                clear hst5 hko5 hus ho hf hoA ho5 hg5 hv5
                have hHeld' := hpk5
                refine hK.out _ _ ?_ (fun _ => ?_)
                · exact hHeld'
                clear hK K hHeld
                have hHeld := hHeld'
                clear hHeld'
                try simp only [Act.put, List.setIfInBounds_toArray, List.set_cons_zero, List.set_cons_succ]
                refine wpAnyH_ready (rs := [10]) (by kernel_rfl) (by simp) ?_
                refine AllReadyH.cons (o := { dst := none, op := Op.store 29 (Operand.tmp 10) (Operand.tmp 41), type := 0, pos := "log.go:32", after := #[{ on := 9, ground := Ground.data }, { on := 9, ground := Ground.chain }, { on := 0, ground := Ground.phase }, { on := 1, ground := Ground.phase }, { on := 2, ground := Ground.phase }, { on := 3, ground := Ground.phase }, { on := 4, ground := Ground.phase }, { on := 5, ground := Ground.phase }, { on := 6, ground := Ground.phase }, { on := 7, ground := Ground.phase }, { on := 8, ground := Ground.phase }, { on := 9, ground := Ground.phase }], guard := none }) rfl (fun K hK => ?_) AllReadyH.nil
                go_simp
                try (go_wp2_with fail)
                have hHeld' := HST5.out.pk
                refine hK.out _ _ ?_ (fun _ => ?_)
                · exact hHeld'
                clear hK K hHeld
                have hHeld := hHeld'
                clear hHeld'
                try simp only [Act.put, List.setIfInBounds_toArray, List.set_cons_zero, List.set_cons_succ]
                refine wpAnyH_done (by kernel_rfl) ?_ _
                try simp only [Exit.then]
                exact ⟨(HKOD.out.trans (HKO4.out.trans HKO5.out)).from _, fun _ => HST5.out.pk.dc, ⟨_, by rw [List.map_append, List.map_cons, List.map_nil, secX_snoc, HKK.out]; exact HST5.out⟩⟩
    · have d1 : decide (0 ≤ epoch ∧ epoch ≤ 1073741824) = true := by simp [h1]
      have d2 : decide (0 ≤ num ∧ num ≤ 1073741824) = false := by rw [decide_eq_false_iff_not]; exact h2
      have HP2 := Lib.hid (show R = ([], false) by rw [hP, if_pos (by omega)])
      clear hP
      gi_wp2_with (first | (gi_at_call 44; refine (callsIn_wide.2 (counts_any _ _)).mono ?_; rintro e w2 ⟨rfl, rfl⟩) | (refine ⟨(show Fence.wide.fn _ from trivial), ?_⟩))
      exact ⟨_, leaveP rfl rfl, GivesPt.none HP2.out HB2.out⟩
  · have d1 : decide (0 ≤ epoch ∧ epoch ≤ 1073741824) = false := by rw [decide_eq_false_iff_not]; exact h1
    have HP2 := Lib.hid (show R = ([], false) by rw [hP, if_pos (by omega)])
    clear hP
    gi_wp2_with (first | (gi_at_call 44; refine (callsIn_wide.2 (counts_any _ _)).mono ?_; rintro e w2 ⟨rfl, rfl⟩) | (refine ⟨(show Fence.wide.fn _ from trivial), ?_⟩))
    exact ⟨_, leaveP rfl rfl, GivesPt.none HP2.out HB2.out⟩
end Go.Proofs.Ytomkbgghljcbfaa
