/-
 The contract of the program's Parts.; Sources of appends: the head and the tail of changes of the call's own. And changes that are joined of them.; The contracts of slices.Grow and slices.Concat of changes.; The contract of slices.Collect over the chunks of bytes: the pieces, in a row of the call's own.; The contracts of the program's told, piece and frame.; The contract of the program's frame.; The contract of the program's Read.
-/
import Derived.OrdersHeld
import Derived.Test.YtmbkaedhllfoeaaKVF
import Derived.Test.YtmbkaedhllfoeaaKVI
import Derived.Test.YtmbkaedhllfoeaaKVJ
import Derived.Test.YtmbkaedhllfoeaaKVBB
import Derived.Test.YtmbkaedhllfoeaaKVBD
import Derived.Test.YtmbkaedhllfoeaaKVBE
set_option linter.unusedVariables false
namespace Go.Proofs.Ytmbkaedhllfoeaa
open Go.RowKit Go.Rst Go.Crc Go.Shelf
attribute [local go_sem] Oper.semAt_some
def secX (ep n of : Nat) (ps : List (List UInt8)) : List (List UInt8) := ps.zipIdx.map fun x => partL ep n x.2 of x.1
theorem secX_snoc (ep n of : Nat) (ps : List (List UInt8)) (p : List UInt8) : secX ep n of (ps ++ [p]) = secX ep n of ps ++ [partL ep n ps.length of p] := by
 unfold secX
 rw [List.zipIdx_append, List.map_append]
 simp
theorem secX_len (ep n of : Nat) (ps : List (List UInt8)) : (secX ep n of ps).length = ps.length := by simp [secX]
theorem secX_chunks (ep n : Nat) (bl : List UInt8) : secX ep n (ofL bl) (chunkL bl) = secL ep n bl (ofL bl) := by
 unfold chunkL
 have : ∀ k, secX ep n (ofL bl) ((List.range k).map (pcL bl)) = secL ep n bl k := by
  intro k
  induction k with
  | zero => rfl
  | succ k ih => rw [List.range_succ, List.map_append, List.map_cons, List.map_nil, secX_snoc, ih, secL_succ, List.length_map, List.length_range]
 exact this _
theorem leaveP {W : World} {tmps : Array Value} {a b : Value} (h2 : tmps.getD 6 undef = a) (h3 : tmps.getD 7 undef = b) : (results Try.f10 tmps).run Try.prog W = .ok (.tuple #[a, b]) W := by
 subst h2
 subst h3
 exact results_tmp2 rfl _ _ _
theorem rb_kept {A B : World} {row : Option Nat} {v : Value} {l : List UInt8} (h : RB A v l) (hg : A.grownBy B row) (hr : ∀ r, row = some r → ∃ o : Obj, A.heap[r]? = some o ∧ o.isCells = false) : RB B v l := by
 obtain ⟨A', c, rfl, h1, h2, h3⟩ := h
 refine ⟨A', c, rfl, h1, h2, h3.imp id fun h => ?_⟩
 obtain ⟨b, off, rfl, hb, hc⟩ := h
 exact ⟨b, off, rfl, Nat.lt_of_lt_of_le hb hg.size, fun j hj => cell_kept (hc j hj) hg hr⟩
theorem rc_below {w w' : World} {B : Nat} {v : Value} {rs : List Chg} (h : RC w v rs) (hb : Below B w w') (hB : w.heap.size ≤ B) : RC w' v rs := by
 obtain ⟨A, c, rfl, h1, h2, h3⟩ := h
 refine ⟨A, c, rfl, h1, h2, h3.imp id fun h => ?_⟩
 obtain ⟨b, off, rfl, hb0, hc⟩ := h
 refine ⟨b, off, rfl, Nat.lt_of_lt_of_le hb0 hb.size, fun j hj => ?_⟩
 obtain ⟨a1, ⟨u, a2, a3⟩, a4⟩ := hc j hj
 exact ⟨(hb.cell (p := ⟨b, off + j * 3, none⟩) (by show b < B; omega)).trans a1, ⟨u, (hb.cell (p := ⟨b, off + j * 3 + 1, none⟩) (by show b < B; omega)).trans a2, a3.below (hb.mono hB)⟩, (hb.cell (p := ⟨b, off + j * 3 + 2, none⟩) (by show b < B; omega)).trans a4⟩
set_option maxRecDepth 100000 in
set_option maxHeartbeats 8000000 in
theorem parts_any (epoch num : Int) (v : Value) (cs : List Chg) (w : World) (hv : RC w v cs) (hbig : (chgsB cs).length ≤ 100000000) (hn : cs.length ≤ 100000000) (hvb : ∀ r ∈ cs, r.2.1.length ≤ 1000000000) :
  Calls Try.prog 10 #[.int .i64 epoch, .int .i64 num, v] w (GivesPt w (partsL epoch num cs)) := by
 have HC := Lib.hid (fun X (h : RC X v cs) => changes_any v cs (by omega) (by omega) hvb X h)
 have HV := Lib.hid hv
 obtain ⟨Av, cv, rfl, hcv1, hcv2, _⟩ := hv
 unfold maxLen at hcv2
 have hP : partsL epoch num cs = if epoch < 0 ∨ 1073741824 < epoch ∨ num < 0 ∨ 1073741824 < num then ([], false)
  else if 200 < ofL (chgsL cs) then ([], false) else (secL epoch.toNat num.toNat (chgsL cs) (ofL (chgsL cs)), true) := rfl
 have hbl : (chgsL cs).length ≤ 100000010 := by
  have := numL_len8 (n := cs.length) (by omega)
  unfold chgsL
  rw [List.length_append]
  omega
 have hbp := chgsL_pos cs
 generalize chgsL cs = bl at *
 generalize partsL epoch num cs = R at *
 clear hvb hbig
 refine (callsIn_wide (n := 3)).1 ?_
 refine callsIn_of_wp_marks Try.func10 rfl trivial ?_ rfl
 simp only [Try.ntmps10, List.size_toArray, List.length_cons, List.length_nil, Nat.reduceAdd, Nat.reduceSub, Array.replicate_succ, Array.replicate_zero, List.push_toArray, List.append_toArray, List.nil_append, List.cons_append]
 have hb2 : Below w.heap.size w ((w.alloc (.cells #[.int .i64 epoch] 3)).alloc (.cells #[.int .i64 num] 3)) := ((Below.refl _ _).alloc (Nat.le_refl _) _).alloc (by simp) _
 have HB2 := Lib.hid hb2
 clear hb2
 by_cases h1 : 0 ≤ epoch ∧ epoch ≤ 1073741824
 ·by_cases h2 : 0 ≤ num ∧ num ≤ 1073741824
  ·have d1 : decide (0 ≤ epoch ∧ epoch ≤ 1073741824) = true := by simp [h1]
   have d2 : decide (0 ≤ num ∧ num ≤ 1073741824) = true := by simp [h2]
   rw [if_neg (by omega)] at hP
   obtain ⟨ep, rfl⟩ := Int.eq_ofNat_of_zero_le h1.1
   obtain ⟨n, rfl⟩ := Int.eq_ofNat_of_zero_le h2.1
   simp only [Int.toNat_natCast] at hP
   obtain ⟨L, hL⟩ : ∃ L, L = bl.length := ⟨_, rfl⟩
   obtain ⟨of, hof⟩ : ∃ of, of = ofL bl := ⟨_, rfl⟩
   rw [← hof] at hP
   have hofd : ((L : Int) + 48) / 49 = of := by rw [hof, hL]; unfold ofL; omega
   have hofd' : ((L : Int) + 48).tdiv 49 = of := by rw [Int.tdiv_eq_ediv_of_nonneg (by omega)]; exact hofd
   have hofd2 : ((L : Int) + 49 - 1) / 49 = of := by rw [show (L : Int) + 49 - 1 = (L : Int) + 48 by omega]; exact hofd
   have hLb : L ≤ 100000010 := by omega
   have HL := Lib.hid hL
   have HOF := Lib.hid hof
   have HP := Lib.hid hP
   have HBP := Lib.hid hbp
   clear hP hL hof hbp hbl
   by_cases hbig : 200 < of
   ·have HP2 := Lib.hid (show R = ([], false) by rw [HP.out, if_pos hbig])
    have hbig' : (200 : Int) < (of : Int) := by omega
    clear HP
    gi_wp2_with (first | (gi_at_call 30; refine (callsIn_wide.2 (counts_any _ _)).mono ?_; rintro e w2 ⟨rfl, rfl⟩) | (gi_at_call 31; refine (callsIn_wide.2 (HC.out _ (rc_below HV.out HB2.out (Nat.le_refl _)))).mono ?_; rintro e w2 ⟨v2, rfl, ho2, hb2⟩; obtain ⟨b, c, rfl⟩ := ownsRow_succ (k := bl.length - 1) (by rw [Nat.sub_add_cancel HBP.out]; exact ho2); rw [Nat.sub_add_cancel HBP.out] at ho2 ⊢; have HO2 := Lib.hid ho2; have HBB := Lib.hid hb2; clear ho2 hb2; rw [← HL.out] at HO2 ⊢) | (gi_at_call 32; refine (chunk_in _ _ _ rfl).mono ?_; rintro e w3 ⟨rfl, rfl⟩) | (refine ⟨(show Fence.wide.fn _ from trivial), ?_⟩))
    have hsz2 : ((w.alloc (.cells #[.int .i64 ep] 3)).alloc (.cells #[.int .i64 n] 3)).heap.size = w.heap.size + 2 := by simp
    have hbw := HB2.out.trans (HBB.out.mono (by rw [hsz2]; omega))
    exact ⟨_, leaveP rfl rfl, GivesPt.none HP2.out (hbw.alloc hbw.size _)⟩
   ·have HP2 := Lib.hid (show R = (secL ep n bl of, true) by rw [HP.out, if_neg hbig])
    have hbig' : ¬ (200 : Int) < (of : Int) := by omega
    clear HP
    gi_wp2_with (first | (gi_at_call 30; refine (callsIn_wide.2 (counts_any _ _)).mono ?_; rintro e w2 ⟨rfl, rfl⟩) | (gi_at_call 31; refine (callsIn_wide.2 (HC.out _ (rc_below HV.out HB2.out (Nat.le_refl _)))).mono ?_; rintro e w2 ⟨v2, rfl, ho2, hb2⟩; obtain ⟨b, c, rfl⟩ := ownsRow_succ (k := bl.length - 1) (by rw [Nat.sub_add_cancel HBP.out]; exact ho2); rw [Nat.sub_add_cancel HBP.out] at ho2 ⊢; have HO2 := Lib.hid ho2; have HBB := Lib.hid hb2; clear ho2 hb2; rw [← HL.out] at HO2 ⊢) | (gi_at_call 32; refine (chunk_in _ _ _ rfl).mono ?_; rintro e w3 ⟨rfl, rfl⟩) | (refine ⟨(show Fence.wide.fn _ from trivial), ?_⟩))
    have hfr0 := HO2.out
    have hsz2 : ((w.alloc (.cells #[.int .i64 ep] 3)).alloc (.cells #[.int .i64 n] 3)).heap.size = w.heap.size + 2 := by simp
    have hbw := HB2.out.trans (HBB.out.mono (by rw [hsz2]; omega))
    obtain ⟨B, hBe⟩ : ∃ B, B = w2.heap.size := ⟨_, rfl⟩
    have hBB : w.heap.size + 2 ≤ B := by rw [hBe, ← hsz2]; exact HBB.out.size
    have b4 : Below w2.heap.size w2 ((((w2.alloc (.cells #[.int .i64 of] 3)).alloc (.cells #[.slice none 0 0] 35)).alloc (.cells #[.slice (some ⟨b, 0, none⟩) L c] 22)).alloc (.cells #[.int .i64 49] 3)) := ((((Below.refl _ _).alloc (Nat.le_refl _) _).alloc (by simp) _).alloc (by simp; omega) _).alloc (by simp; omega) _
    have x0 : Boxed ((w.alloc (.cells #[.int .i64 ep] 3)).alloc (.cells #[.int .i64 n] 3)) w.heap.size 3 (.int .i64 ep) := (Boxed.new w _ _).alloc _
    have x1 : Boxed ((w.alloc (.cells #[.int .i64 ep] 3)).alloc (.cells #[.int .i64 n] 3)) (w.heap.size + 1) 3 (.int .i64 n) := by
     have := Boxed.new (w.alloc (.cells #[.int .i64 ep] 3)) 3 (.int .i64 n)
     rw [World.size_alloc] at this
     exact this
    have x2 := Boxed.new w2 3 (.int .i64 of)
    have x3 := Boxed.new (w2.alloc (.cells #[.int .i64 of] 3)) 35 (.slice none 0 0)
    have x4 := Boxed.new ((w2.alloc (.cells #[.int .i64 of] 3)).alloc (.cells #[.slice none 0 0] 35)) 22 (.slice (some ⟨b, 0, none⟩) L c)
    have x5 := Boxed.new (((w2.alloc (.cells #[.int .i64 of] 3)).alloc (.cells #[.slice none 0 0] 35)).alloc (.cells #[.slice (some ⟨b, 0, none⟩) L c] 22)) 3 (.int .i64 49)
    simp only [World.size_alloc] at x3 x4 x5
    have hq0 : QS w ep n of (.slice (some ⟨b, 0, none⟩) L c) bl B [] (.slice none 0 0) ((((w2.alloc (.cells #[.int .i64 of] 3)).alloc (.cells #[.slice none 0 0] 35)).alloc (.cells #[.slice (some ⟨b, 0, none⟩) L c] 22)).alloc (.cells #[.int .i64 49] 3)) := by
     rw [hBe]
     refine ⟨(x3.alloc _).alloc _, OP.nil_ _ _ _ _, ⟨?_, ?_, ?_, ((x2.alloc _).alloc _).alloc _, x4.alloc _, x5, hbw.trans (b4.mono hbw.size)⟩, hbw.size, fun g hg => by simp [Value.ownBlock] at hg⟩
     ·have h := own_below (own_base hfr0 (base' := w.heap.size) (by rw [hsz2]; omega)) b4
      rw [← HL.out]
      exact h
     ·exact (b4.block _ (by omega)).trans ((HBB.out.block _ (by rw [hsz2]; omega)).trans x0)
     ·exact (b4.block _ (by omega)).trans ((HBB.out.block _ (by rw [hsz2]; omega)).trans x1)
    have hsz0 : ((((w2.alloc (.cells #[.int .i64 of] 3)).alloc (.cells #[.slice none 0 0] 35)).alloc (.cells #[.slice (some ⟨b, 0, none⟩) L c] 22)).alloc (.cells #[.int .i64 49] 3)).heap.size = B + 4 := by rw [hBe]; simp
    rw [← hBe]
    obtain ⟨W0, hW0⟩ : ∃ W0, W0 = ((((w2.alloc (.cells #[.int .i64 of] 3)).alloc (.cells #[.slice none 0 0] 35)).alloc (.cells #[.slice (some ⟨b, 0, none⟩) L c] 22)).alloc (.cells #[.int .i64 49] 3)) := ⟨_, rfl⟩
    rw [← hW0] at hq0 hsz0 ⊢
    clear x0 x1 x2 x3 x4 x5 b4 hW0 hfr0 hbw HO2 HBB hBe
    refine wpIn_rangeFunc_ownG rfl (by decide) (gf := 60) (lb := #[.pointer (some ⟨B + 1 + 1, 0, none⟩), .pointer (some ⟨B + 1 + 1 + 1, 0, none⟩)]) rfl trivial (enters_of Try.func60 (by kernel_rfl) rfl)
     (chunk_stops 2 b 0 c L (B + 1 + 1) bl W0 HL.out hq0.pk.dc (by omega)) (fun h k x => k (h x)) (fun X l o o' hl hlo hc _ hx => ?kb) (Below.refl _ _) (fun _ => rfl)
     (fun pre X => ∃ sv, QS w ep n of (.slice (some ⟨b, 0, none⟩) L c) bl B (secX ep n of (pre.map (·.1.2))) sv X)
     (fun _ _ _ => False)
     ?oi (fun _ _ _ _ _ h _ _ => h) ⟨_, by simpa [secX] using hq0⟩
     (fun x => { tmps := #[.int .i64 ep, .int .i64 n, .slice Av cs.length cv, .pointer (some ⟨w.heap.size, 0, none⟩), .pointer (some ⟨w.heap.size + 1, 0, none⟩), undef, .slice none 0 0, .bool false, .slice (some ⟨b, 0, none⟩) L c, .pointer (some ⟨B, 0, none⟩), .pointer (some ⟨B + 1, 0, none⟩), x.1.1, .int .i64 ep, .bool true, .bool false, .bool false, .int .i64 n, .bool true, .bool false, .bool false, .slice Av cs.length cv, .slice (some ⟨b, 0, none⟩) L c, .slice (some ⟨b, 0, none⟩) L c, .int .i64 L, .int .i64 ((L : Int) + 49), .int .i64 ((L : Int) + 49 - 1), .int .i64 of, .int .i64 of, .bool (decide ((200 : Int) < of)), .slice (some ⟨b, 0, none⟩) L c, .func (.func 60) #[] #[.pointer (some ⟨B + 1 + 1, 0, none⟩), .pointer (some ⟨B + 1 + 1 + 1, 0, none⟩)], x.1.1, undef, undef, undef, undef, undef, undef, undef, undef, undef, undef, undef], defers := [] }) ?assign ?body ?done ?stop
    case kb =>
     have hg := grownBy_putObj' X l o'
     have hk : KX (fun _ _ => True) X (X.putObj l o') := KX.of_grown hg (fun r e => by cases e; exact ⟨o, hlo, hc⟩)
     exact ⟨rb_kept hx.1 hg (fun r e => by cases e; exact ⟨o, hlo, hc⟩), hk.boxed trivial hx.2.1, hk.boxed trivial hx.2.2⟩
    case oi =>
     rintro pre X Y row ⟨sv, h⟩ hg hr
     exact ⟨sv, h.grown hg (fun r e => ⟨by have := (hr r e).1; omega, (hr r e).2⟩)⟩
    case assign =>
     intro l x X K hK
     gi_wp2
     exact hK
    case stop =>
     intro D c pre X hD hS h
     exact h.elim
    case done =>
     rintro D xs X hD hS ⟨sv, hq⟩ hK
     rw [hS, HOF.out, secX_chunks, ← HOF.out] at hq
     have hmk3 : Marks w.heap.size X.heap.size X [{ target := .collected D, args := #[] }] := ⟨⟨D, rfl, by omega, (Array.getElem?_eq_some_iff.1 hK).1, hK, fun d hd => by cases hd⟩, trivial⟩
     obtain ⟨Ac, cc, rfl, _⟩ := hq.op.shape
     have hcb := hq.bs.cell
     rw [secL_length] at hcb hq
     have HQ := Lib.hid hq
     have HMK3 := Lib.hid hmk3
     clear hq hmk3 hS
     gi_wp2
     exact leaves_marks HMK3.out (fun W' hkx hb => ⟨_, leaveP rfl rfl, by rw [HP2.out]; exact ⟨_, rfl, hkx.op (fun _ => trivial) (fun _ => trivial) HQ.out.op, HQ.out.pk.bl.trans hb⟩⟩)
    case body =>
     rintro l pre ⟨⟨xv, p⟩, hxr, hxl⟩ X ⟨sv, hq⟩ hlt
     dsimp only at hxr hxl hlt ⊢
     obtain ⟨Ax, cx, hxv⟩ : ∃ A c, xv = .slice A p.length c := by obtain ⟨A, c, h, _⟩ := hxr X (RB.own hq.pk.ow); exact ⟨A, c, h⟩
     subst hxv
     have hK : (pre.map (·.1.2)).length = pre.length := by rw [List.length_map]
     have hsl := secX_len ep n of (pre.map (·.1.2))
     obtain ⟨kN, hKe⟩ : ∃ kN, kN = pre.length := ⟨_, rfl⟩
     rw [← hKe] at hK hlt
     rw [hK] at hsl
     have HKK := Lib.hid hK
     have HLN := Lib.hid hsl
     have HSEC := Lib.hid (fun Y (hY : RB Y (.slice Ax p.length cx) p) => sector_any ep n kN of _ p (by omega) (by omega) Y hY hxl)
     have HP64 := Lib.hid (@partL_length ep n kN of p hxl)
     have HST := Lib.hid hq
     have hA := hq.bs.cell
     obtain ⟨As, c0, hsv, _, _⟩ := hq.op.shape
     rw [hsl] at hsv
     subst hsv
     have RBX := Lib.hid hxr
     have hK200 : kN ≤ 201 := by have := HOF.out; omega
     clear hq hK hsl hKe
     gi_wp2
     have HSTD := Lib.hid (HST.out.below (Below.refl _ _).drew)
     have hA := HSTD.out.bs.cell
     have HKOD := Lib.hid (KeepsOthers.drew X)
     refine wpIn_region_round (S := PK w ep n of (.slice (some ⟨b, 0, none⟩) L c) bl B) (by kernel_rfl) (by kernel_rfl) (fun a w h => h) HSTD.out.pk (fun hHeld => ?_)
     generalize X.drew = wd at *
     refine wpAnyH_take (i := 1) (oi := { dst := some 33, op := Op.load 3 (Operand.tmp 3), type := 3, pos := "log.go:32", after := #[], guard := none }) (v := ?_) rfl (by kernel_rfl) (by kernel_rfl) (by kernel_rfl) (fun _ _ _ h => h.elim) (Or.inl ⟨by rfl, ?_⟩) (by assumption) ?_
     rotate_left
     ·intro X hSw; have hq := hSw.be.cell; go_simp; try (with_reducible rfl)
     try simp only [Act.put, List.setIfInBounds_toArray, List.set_cons_zero, List.set_cons_succ]
     refine wpAnyH_take (i := 2) (oi := { dst := some 34, op := Op.load 3 (Operand.tmp 4), type := 3, pos := "log.go:32", after := #[], guard := none }) (v := ?_) rfl (by kernel_rfl) (by kernel_rfl) (by kernel_rfl) (fun _ _ _ h => h.elim) (Or.inl ⟨by rfl, ?_⟩) (by assumption) ?_
     rotate_left
     ·intro X hSw; have hq := hSw.bn.cell; go_simp; try (with_reducible rfl)
     try simp only [Act.put, List.setIfInBounds_toArray, List.set_cons_zero, List.set_cons_succ]
     refine wpAnyH_take (i := 5) (oi := { dst := some 37, op := Op.load 3 (Operand.tmp 9), type := 3, pos := "log.go:32", after := #[], guard := none }) (v := ?_) rfl (by kernel_rfl) (by kernel_rfl) (by kernel_rfl) (fun _ _ _ h => h.elim) (Or.inl ⟨by rfl, ?_⟩) (by assumption) ?_
     rotate_left
     ·intro X hSw; have hq := hSw.bc.cell; go_simp; try (with_reducible rfl)
     try simp only [Act.put, List.setIfInBounds_toArray, List.set_cons_zero, List.set_cons_succ]
     refine wpAnyH_take (i := 6) (oi := { dst := some 38, op := Op.move (Operand.tmp 11), type := 22, pos := "log.go:32", after := #[], guard := none }) (v := ?_) rfl (by kernel_rfl) (by kernel_rfl) (by kernel_rfl) (fun _ _ _ h => h.elim) (Or.inl ⟨by rfl, ?_⟩) (by assumption) ?_
     rotate_left
     ·intro X hSw; go_simp; try (with_reducible rfl)
     try simp only [Act.put, List.setIfInBounds_toArray, List.set_cons_zero, List.set_cons_succ]
     refine wpAnyH_ready (rs := [0, 3]) (by kernel_rfl) (by simp) ?_
     refine AllReadyH.cons (o := { dst := some 32, op := Op.load 35 (Operand.tmp 10), type := 35, pos := "log.go:32", after := #[], guard := none }) rfl (fun K hK => ?_) (AllReadyH.cons (o := { dst := some 35, op := Op.load 35 (Operand.tmp 10), type := 35, pos := "log.go:32", after := #[], guard := none }) rfl (fun K hK => ?_) AllReadyH.nil)
     ·go_simp
      try (go_wp2_with fail)
      refine hK.out _ _ ?_ (fun _ => ?_)
      ·exact hHeld
      clear hK K
      try simp only [Act.put, List.setIfInBounds_toArray, List.set_cons_zero, List.set_cons_succ]
      refine wpAnyH_ready (rs := [3]) (by kernel_rfl) (by simp) ?_
      refine AllReadyH.cons (o := { dst := some 35, op := Op.load 35 (Operand.tmp 10), type := 35, pos := "log.go:32", after := #[], guard := none }) rfl (fun K hK => ?_) AllReadyH.nil
      go_simp
      try (go_wp2_with fail)
      refine hK.out _ _ ?_ (fun _ => ?_)
      ·exact hHeld
      clear hK K
      try simp only [Act.put, List.setIfInBounds_toArray, List.set_cons_zero, List.set_cons_succ]
      refine wpAnyH_take (i := 4) (oi := { dst := some 36, op := Op.call { callee := Callee.builtin Builtin.len, args := #[Operand.tmp 35], argTypes := #[35] }, type := 3, pos := "log.go:32", after := #[{ on := 3, ground := Ground.data }], guard := none }) (v := ?_) rfl (by kernel_rfl) (by kernel_rfl) (by kernel_rfl) (fun _ _ _ h => h.elim) (Or.inl ⟨by rfl, ?_⟩) (by assumption) ?_
      rotate_left
      ·intro X hSw; go_simp; try (with_reducible rfl)
      try simp only [Act.put, List.setIfInBounds_toArray, List.set_cons_zero, List.set_cons_succ]
      refine wpAnyH_ready (rs := [7]) (by kernel_rfl) (by simp) ?_
      refine AllReadyH.cons (o := { dst := some 39, op := Op.call { callee := Callee.value (Operand.func 33), args := #[Operand.tmp 33, Operand.tmp 34, Operand.tmp 36, Operand.tmp 37, Operand.tmp 38], argTypes := #[3, 3, 3, 3, 22] }, type := 22, pos := "log.go:32", after := #[{ on := 1, ground := Ground.data }, { on := 2, ground := Ground.data }, { on := 4, ground := Ground.data }, { on := 5, ground := Ground.data }, { on := 6, ground := Ground.data }], guard := none }) rfl (fun K hK => ?_) AllReadyH.nil
      go_simp
      refine (HSEC.out _ (RBX.out _ (RB.own hHeld.ow))).mono ?_
      rintro e w4 ⟨v4, rfl, ho4, hb4⟩
      have hfb4 := FB.own ho4
      rw [HP64.out] at ho4
      obtain ⟨A4, c4, rfl, _⟩ := own_shape ho4
      have HST4 := Lib.hid (HSTD.out.below hb4)
      have hA := HST4.out.bs.cell
      have HF4 := Lib.hid (hfb4.base_ (base' := w.heap.size) HSTD.out.pk.bl.size)
      have HKO4 := Lib.hid (KeepsOthers.of_grownBy (grown_none hb4) (fun _ _ h => (by cases h)))
      try (go_wp2_with fail)
      have hHeld' := hHeld.below hb4
      refine hK.out _ _ ?_ (fun _ => ?_)
      ·exact hHeld'
      clear hK K hHeld
      have hHeld := hHeld'
      clear hHeld'
      try simp only [Act.put, List.setIfInBounds_toArray, List.set_cons_zero, List.set_cons_succ]
      refine wpAnyH_ready (rs := [8]) (by kernel_rfl) (by simp) ?_
      refine AllReadyH.cons (o := { dst := some 40, op := Op.buildSlice 35 1 #[(0, Operand.tmp 39)], type := 35, pos := "log.go:32", after := #[{ on := 7, ground := Ground.data }], guard := none }) rfl (fun K hK => ?_) AllReadyH.nil
      go_simp
      have hb6 := (Below.refl w4.heap.size w4).alloc (Nat.le_refl _) (Obj.cells #[.slice A4 64 c4] 22)
      have hA := (HST4.out.below hb6).bs.cell
      try (go_wp2_with fail)
      have hHeld' := hHeld.below hb6
      refine hK.out _ _ ?_ (fun _ => ?_)
      ·exact hHeld'
      clear hK K hHeld
      have hHeld := hHeld'
      clear hHeld'
      try simp only [Act.put, List.setIfInBounds_toArray, List.set_cons_zero, List.set_cons_succ]
      refine wpAnyH_ready (rs := [9]) (by kernel_rfl) (by simp) ?_
      refine AllReadyH.cons (o := { dst := some 41, op := Op.call { callee := Callee.builtin Builtin.append, args := #[Operand.tmp 32, Operand.tmp 40], argTypes := #[35, 35] }, type := 35, pos := "log.go:32", after := #[{ on := 0, ground := Ground.data }, { on := 8, ground := Ground.data }, { on := 7, ground := Ground.chain }], guard := none }) rfl (fun K hK => ?_) AllReadyH.nil
      obtain ⟨us, hus, ho, hf⟩ := HST4.out.op
      have HUL := Lib.hid (show us.length = kN by have h := congrArg List.length hus; rw [List.length_map] at h; rw [h]; exact HLN.out)
      have hoA := own_below ho hb6
      have hss := HST4.out.pk.bl.size
      refine step_own3 rfl (.tmp 32) (.tmp 40) 35 35 rfl w.heap.size 22 (.slice none 0 0) 1 24 Try.underlying35 info22 rfl rfl hoA rfl (src_one _ Try.underlying35 22 _ rfl) ?_ ?_ ?_ ?_
      ·have := HUL.out; unfold maxLen; omega
      ·have := HUL.out; omega
      ·simp; omega
      intro v5 w5 ho5 hg5 hv5
      obtain ⟨g5, c5, rfl⟩ := ownsRow_succ ho5
      obtain ⟨hbx, hpk5, hst5, hko5⟩ := HST4.out.push hus ho hf HF4.out ho5 hg5 hv5
      have hc5 := hbx.cell
      have hf5 := hbx.frozen
      have HST5 := Lib.hid hst5
      have HKO5 := Lib.hid hko5
      clear hst5 hko5 hus ho hf hoA ho5 hg5 hv5
      have hHeld' := hpk5
      refine hK.out _ _ ?_ (fun _ => ?_)
      ·exact hHeld'
      clear hK K hHeld
      have hHeld := hHeld'
      clear hHeld'
      try simp only [Act.put, List.setIfInBounds_toArray, List.set_cons_zero, List.set_cons_succ]
      refine wpAnyH_ready (rs := [10]) (by kernel_rfl) (by simp) ?_
      refine AllReadyH.cons (o := { dst := none, op := Op.store 35 (Operand.tmp 10) (Operand.tmp 41), type := 0, pos := "log.go:32", after := #[{ on := 9, ground := Ground.data }, { on := 9, ground := Ground.chain }, { on := 0, ground := Ground.phase }, { on := 1, ground := Ground.phase }, { on := 2, ground := Ground.phase }, { on := 3, ground := Ground.phase }, { on := 4, ground := Ground.phase }, { on := 5, ground := Ground.phase }, { on := 6, ground := Ground.phase }, { on := 7, ground := Ground.phase }, { on := 8, ground := Ground.phase }, { on := 9, ground := Ground.phase }], guard := none }) rfl (fun K hK => ?_) AllReadyH.nil
      go_simp
      try (go_wp2_with fail)
      have hHeld' := HST5.out.pk
      refine hK.out _ _ ?_ (fun _ => ?_)
      ·exact hHeld'
      clear hK K hHeld
      have hHeld := hHeld'
      clear hHeld'
      try simp only [Act.put, List.setIfInBounds_toArray, List.set_cons_zero, List.set_cons_succ]
      refine wpAnyH_done (by kernel_rfl) ?_ _
      try simp only [Exit.then]
      exact ⟨(HKOD.out.trans (HKO4.out.trans HKO5.out)).from _, fun _ => HST5.out.pk.dc, ⟨_, by rw [List.map_append, List.map_cons, List.map_nil, secX_snoc, HKK.out]; exact HST5.out⟩⟩
     ·go_simp
      try (go_wp2_with fail)
      refine hK.out _ _ ?_ (fun _ => ?_)
      ·exact hHeld
      clear hK K
      try simp only [Act.put, List.setIfInBounds_toArray, List.set_cons_zero, List.set_cons_succ]
      refine wpAnyH_take (i := 4) (oi := { dst := some 36, op := Op.call { callee := Callee.builtin Builtin.len, args := #[Operand.tmp 35], argTypes := #[35] }, type := 3, pos := "log.go:32", after := #[{ on := 3, ground := Ground.data }], guard := none }) (v := ?_) rfl (by kernel_rfl) (by kernel_rfl) (by kernel_rfl) (fun _ _ _ h => h.elim) (Or.inl ⟨by rfl, ?_⟩) (by assumption) ?_
      rotate_left
      ·intro X hSw; go_simp; try (with_reducible rfl)
      try simp only [Act.put, List.setIfInBounds_toArray, List.set_cons_zero, List.set_cons_succ]
      refine wpAnyH_ready (rs := [0, 7]) (by kernel_rfl) (by simp) ?_
      refine AllReadyH.cons (o := { dst := some 32, op := Op.load 35 (Operand.tmp 10), type := 35, pos := "log.go:32", after := #[], guard := none }) rfl (fun K hK => ?_) (AllReadyH.cons (o := { dst := some 39, op := Op.call { callee := Callee.value (Operand.func 33), args := #[Operand.tmp 33, Operand.tmp 34, Operand.tmp 36, Operand.tmp 37, Operand.tmp 38], argTypes := #[3, 3, 3, 3, 22] }, type := 22, pos := "log.go:32", after := #[{ on := 1, ground := Ground.data }, { on := 2, ground := Ground.data }, { on := 4, ground := Ground.data }, { on := 5, ground := Ground.data }, { on := 6, ground := Ground.data }], guard := none }) rfl (fun K hK => ?_) AllReadyH.nil)
      ·go_simp
       try (go_wp2_with fail)
       refine hK.out _ _ ?_ (fun _ => ?_)
       ·exact hHeld
       clear hK K
       try simp only [Act.put, List.setIfInBounds_toArray, List.set_cons_zero, List.set_cons_succ]
       refine wpAnyH_ready (rs := [7]) (by kernel_rfl) (by simp) ?_
       refine AllReadyH.cons (o := { dst := some 39, op := Op.call { callee := Callee.value (Operand.func 33), args := #[Operand.tmp 33, Operand.tmp 34, Operand.tmp 36, Operand.tmp 37, Operand.tmp 38], argTypes := #[3, 3, 3, 3, 22] }, type := 22, pos := "log.go:32", after := #[{ on := 1, ground := Ground.data }, { on := 2, ground := Ground.data }, { on := 4, ground := Ground.data }, { on := 5, ground := Ground.data }, { on := 6, ground := Ground.data }], guard := none }) rfl (fun K hK => ?_) AllReadyH.nil
       go_simp
       refine (HSEC.out _ (RBX.out _ (RB.own hHeld.ow))).mono ?_
       rintro e w4 ⟨v4, rfl, ho4, hb4⟩
       have hfb4 := FB.own ho4
       rw [HP64.out] at ho4
       obtain ⟨A4, c4, rfl, _⟩ := own_shape ho4
       have HST4 := Lib.hid (HSTD.out.below hb4)
       have hA := HST4.out.bs.cell
       have HF4 := Lib.hid (hfb4.base_ (base' := w.heap.size) HSTD.out.pk.bl.size)
       have HKO4 := Lib.hid (KeepsOthers.of_grownBy (grown_none hb4) (fun _ _ h => (by cases h)))
       try (go_wp2_with fail)
       have hHeld' := hHeld.below hb4
       refine hK.out _ _ ?_ (fun _ => ?_)
       ·exact hHeld'
       clear hK K hHeld
       have hHeld := hHeld'
       clear hHeld'
       try simp only [Act.put, List.setIfInBounds_toArray, List.set_cons_zero, List.set_cons_succ]
       refine wpAnyH_ready (rs := [8]) (by kernel_rfl) (by simp) ?_
       refine AllReadyH.cons (o := { dst := some 40, op := Op.buildSlice 35 1 #[(0, Operand.tmp 39)], type := 35, pos := "log.go:32", after := #[{ on := 7, ground := Ground.data }], guard := none }) rfl (fun K hK => ?_) AllReadyH.nil
       go_simp
       have hb6 := (Below.refl w4.heap.size w4).alloc (Nat.le_refl _) (Obj.cells #[.slice A4 64 c4] 22)
       have hA := (HST4.out.below hb6).bs.cell
       try (go_wp2_with fail)
       have hHeld' := hHeld.below hb6
       refine hK.out _ _ ?_ (fun _ => ?_)
       ·exact hHeld'
       clear hK K hHeld
       have hHeld := hHeld'
       clear hHeld'
       try simp only [Act.put, List.setIfInBounds_toArray, List.set_cons_zero, List.set_cons_succ]
       refine wpAnyH_ready (rs := [9]) (by kernel_rfl) (by simp) ?_
       refine AllReadyH.cons (o := { dst := some 41, op := Op.call { callee := Callee.builtin Builtin.append, args := #[Operand.tmp 32, Operand.tmp 40], argTypes := #[35, 35] }, type := 35, pos := "log.go:32", after := #[{ on := 0, ground := Ground.data }, { on := 8, ground := Ground.data }, { on := 7, ground := Ground.chain }], guard := none }) rfl (fun K hK => ?_) AllReadyH.nil
       obtain ⟨us, hus, ho, hf⟩ := HST4.out.op
       have HUL := Lib.hid (show us.length = kN by have h := congrArg List.length hus; rw [List.length_map] at h; rw [h]; exact HLN.out)
       have hoA := own_below ho hb6
       have hss := HST4.out.pk.bl.size
       refine step_own3 rfl (.tmp 32) (.tmp 40) 35 35 rfl w.heap.size 22 (.slice none 0 0) 1 24 Try.underlying35 info22 rfl rfl hoA rfl (src_one _ Try.underlying35 22 _ rfl) ?_ ?_ ?_ ?_
       ·have := HUL.out; unfold maxLen; omega
       ·have := HUL.out; omega
       ·simp; omega
       intro v5 w5 ho5 hg5 hv5
       obtain ⟨g5, c5, rfl⟩ := ownsRow_succ ho5
       obtain ⟨hbx, hpk5, hst5, hko5⟩ := HST4.out.push hus ho hf HF4.out ho5 hg5 hv5
       have hc5 := hbx.cell
       have hf5 := hbx.frozen
       have HST5 := Lib.hid hst5
       have HKO5 := Lib.hid hko5
       clear hst5 hko5 hus ho hf hoA ho5 hg5 hv5
       have hHeld' := hpk5
       refine hK.out _ _ ?_ (fun _ => ?_)
       ·exact hHeld'
       clear hK K hHeld
       have hHeld := hHeld'
       clear hHeld'
       try simp only [Act.put, List.setIfInBounds_toArray, List.set_cons_zero, List.set_cons_succ]
       refine wpAnyH_ready (rs := [10]) (by kernel_rfl) (by simp) ?_
       refine AllReadyH.cons (o := { dst := none, op := Op.store 35 (Operand.tmp 10) (Operand.tmp 41), type := 0, pos := "log.go:32", after := #[{ on := 9, ground := Ground.data }, { on := 9, ground := Ground.chain }, { on := 0, ground := Ground.phase }, { on := 1, ground := Ground.phase }, { on := 2, ground := Ground.phase }, { on := 3, ground := Ground.phase }, { on := 4, ground := Ground.phase }, { on := 5, ground := Ground.phase }, { on := 6, ground := Ground.phase }, { on := 7, ground := Ground.phase }, { on := 8, ground := Ground.phase }, { on := 9, ground := Ground.phase }], guard := none }) rfl (fun K hK => ?_) AllReadyH.nil
       go_simp
       try (go_wp2_with fail)
       have hHeld' := HST5.out.pk
       refine hK.out _ _ ?_ (fun _ => ?_)
       ·exact hHeld'
       clear hK K hHeld
       have hHeld := hHeld'
       clear hHeld'
       try simp only [Act.put, List.setIfInBounds_toArray, List.set_cons_zero, List.set_cons_succ]
       refine wpAnyH_done (by kernel_rfl) ?_ _
       try simp only [Exit.then]
       exact ⟨(HKOD.out.trans (HKO4.out.trans HKO5.out)).from _, fun _ => HST5.out.pk.dc, ⟨_, by rw [List.map_append, List.map_cons, List.map_nil, secX_snoc, HKK.out]; exact HST5.out⟩⟩
      ·go_simp
       refine (HSEC.out _ (RBX.out _ (RB.own hHeld.ow))).mono ?_
       rintro e w4 ⟨v4, rfl, ho4, hb4⟩
       have hfb4 := FB.own ho4
       rw [HP64.out] at ho4
       obtain ⟨A4, c4, rfl, _⟩ := own_shape ho4
       have HST4 := Lib.hid (HSTD.out.below hb4)
       have hA := HST4.out.bs.cell
       have HF4 := Lib.hid (hfb4.base_ (base' := w.heap.size) HSTD.out.pk.bl.size)
       have HKO4 := Lib.hid (KeepsOthers.of_grownBy (grown_none hb4) (fun _ _ h => (by cases h)))
       try (go_wp2_with fail)
       have hHeld' := hHeld.below hb4
       refine hK.out _ _ ?_ (fun _ => ?_)
       ·exact hHeld'
       clear hK K hHeld
       have hHeld := hHeld'
       clear hHeld'
       try simp only [Act.put, List.setIfInBounds_toArray, List.set_cons_zero, List.set_cons_succ]
       refine wpAnyH_ready (rs := [0, 8]) (by kernel_rfl) (by simp) ?_
       refine AllReadyH.cons (o := { dst := some 32, op := Op.load 35 (Operand.tmp 10), type := 35, pos := "log.go:32", after := #[], guard := none }) rfl (fun K hK => ?_) (AllReadyH.cons (o := { dst := some 40, op := Op.buildSlice 35 1 #[(0, Operand.tmp 39)], type := 35, pos := "log.go:32", after := #[{ on := 7, ground := Ground.data }], guard := none }) rfl (fun K hK => ?_) AllReadyH.nil)
       ·go_simp
        try (go_wp2_with fail)
        refine hK.out _ _ ?_ (fun _ => ?_)
        ·exact hHeld
        clear hK K
        try simp only [Act.put, List.setIfInBounds_toArray, List.set_cons_zero, List.set_cons_succ]
        refine wpAnyH_ready (rs := [8]) (by kernel_rfl) (by simp) ?_
        refine AllReadyH.cons (o := { dst := some 40, op := Op.buildSlice 35 1 #[(0, Operand.tmp 39)], type := 35, pos := "log.go:32", after := #[{ on := 7, ground := Ground.data }], guard := none }) rfl (fun K hK => ?_) AllReadyH.nil
        go_simp
        have hb6 := (Below.refl w4.heap.size w4).alloc (Nat.le_refl _) (Obj.cells #[.slice A4 64 c4] 22)
        have hA := (HST4.out.below hb6).bs.cell
        try (go_wp2_with fail)
        have hHeld' := hHeld.below hb6
        refine hK.out _ _ ?_ (fun _ => ?_)
        ·exact hHeld'
        clear hK K hHeld
        have hHeld := hHeld'
        clear hHeld'
        try simp only [Act.put, List.setIfInBounds_toArray, List.set_cons_zero, List.set_cons_succ]
        refine wpAnyH_ready (rs := [9]) (by kernel_rfl) (by simp) ?_
        refine AllReadyH.cons (o := { dst := some 41, op := Op.call { callee := Callee.builtin Builtin.append, args := #[Operand.tmp 32, Operand.tmp 40], argTypes := #[35, 35] }, type := 35, pos := "log.go:32", after := #[{ on := 0, ground := Ground.data }, { on := 8, ground := Ground.data }, { on := 7, ground := Ground.chain }], guard := none }) rfl (fun K hK => ?_) AllReadyH.nil
        obtain ⟨us, hus, ho, hf⟩ := HST4.out.op
        have HUL := Lib.hid (show us.length = kN by have h := congrArg List.length hus; rw [List.length_map] at h; rw [h]; exact HLN.out)
        have hoA := own_below ho hb6
        have hss := HST4.out.pk.bl.size
        refine step_own3 rfl (.tmp 32) (.tmp 40) 35 35 rfl w.heap.size 22 (.slice none 0 0) 1 24 Try.underlying35 info22 rfl rfl hoA rfl (src_one _ Try.underlying35 22 _ rfl) ?_ ?_ ?_ ?_
        ·have := HUL.out; unfold maxLen; omega
        ·have := HUL.out; omega
        ·simp; omega
        intro v5 w5 ho5 hg5 hv5
        obtain ⟨g5, c5, rfl⟩ := ownsRow_succ ho5
        obtain ⟨hbx, hpk5, hst5, hko5⟩ := HST4.out.push hus ho hf HF4.out ho5 hg5 hv5
        have hc5 := hbx.cell
        have hf5 := hbx.frozen
        have HST5 := Lib.hid hst5
        have HKO5 := Lib.hid hko5
        clear hst5 hko5 hus ho hf hoA ho5 hg5 hv5
        have hHeld' := hpk5
        refine hK.out _ _ ?_ (fun _ => ?_)
        ·exact hHeld'
        clear hK K hHeld
        have hHeld := hHeld'
        clear hHeld'
        try simp only [Act.put, List.setIfInBounds_toArray, List.set_cons_zero, List.set_cons_succ]
        refine wpAnyH_ready (rs := [10]) (by kernel_rfl) (by simp) ?_
        refine AllReadyH.cons (o := { dst := none, op := Op.store 35 (Operand.tmp 10) (Operand.tmp 41), type := 0, pos := "log.go:32", after := #[{ on := 9, ground := Ground.data }, { on := 9, ground := Ground.chain }, { on := 0, ground := Ground.phase }, { on := 1, ground := Ground.phase }, { on := 2, ground := Ground.phase }, { on := 3, ground := Ground.phase }, { on := 4, ground := Ground.phase }, { on := 5, ground := Ground.phase }, { on := 6, ground := Ground.phase }, { on := 7, ground := Ground.phase }, { on := 8, ground := Ground.phase }, { on := 9, ground := Ground.phase }], guard := none }) rfl (fun K hK => ?_) AllReadyH.nil
        go_simp
        try (go_wp2_with fail)
        have hHeld' := HST5.out.pk
        refine hK.out _ _ ?_ (fun _ => ?_)
        ·exact hHeld'
        clear hK K hHeld
        have hHeld := hHeld'
        clear hHeld'
        try simp only [Act.put, List.setIfInBounds_toArray, List.set_cons_zero, List.set_cons_succ]
        refine wpAnyH_done (by kernel_rfl) ?_ _
        try simp only [Exit.then]
        exact ⟨(HKOD.out.trans (HKO4.out.trans HKO5.out)).from _, fun _ => HST5.out.pk.dc, ⟨_, by rw [List.map_append, List.map_cons, List.map_nil, secX_snoc, HKK.out]; exact HST5.out⟩⟩
       ·go_simp
        have hb6 := (Below.refl w4.heap.size w4).alloc (Nat.le_refl _) (Obj.cells #[.slice A4 64 c4] 22)
        have hA := (HST4.out.below hb6).bs.cell
        try (go_wp2_with fail)
        have hHeld' := hHeld.below hb6
        refine hK.out _ _ ?_ (fun _ => ?_)
        ·exact hHeld'
        clear hK K hHeld
        have hHeld := hHeld'
        clear hHeld'
        try simp only [Act.put, List.setIfInBounds_toArray, List.set_cons_zero, List.set_cons_succ]
        refine wpAnyH_ready (rs := [0]) (by kernel_rfl) (by simp) ?_
        refine AllReadyH.cons (o := { dst := some 32, op := Op.load 35 (Operand.tmp 10), type := 35, pos := "log.go:32", after := #[], guard := none }) rfl (fun K hK => ?_) AllReadyH.nil
        go_simp
        try (go_wp2_with fail)
        refine hK.out _ _ ?_ (fun _ => ?_)
        ·exact hHeld
        clear hK K
        try simp only [Act.put, List.setIfInBounds_toArray, List.set_cons_zero, List.set_cons_succ]
        refine wpAnyH_ready (rs := [9]) (by kernel_rfl) (by simp) ?_
        refine AllReadyH.cons (o := { dst := some 41, op := Op.call { callee := Callee.builtin Builtin.append, args := #[Operand.tmp 32, Operand.tmp 40], argTypes := #[35, 35] }, type := 35, pos := "log.go:32", after := #[{ on := 0, ground := Ground.data }, { on := 8, ground := Ground.data }, { on := 7, ground := Ground.chain }], guard := none }) rfl (fun K hK => ?_) AllReadyH.nil
        obtain ⟨us, hus, ho, hf⟩ := HST4.out.op
        have HUL := Lib.hid (show us.length = kN by have h := congrArg List.length hus; rw [List.length_map] at h; rw [h]; exact HLN.out)
        have hoA := own_below ho hb6
        have hss := HST4.out.pk.bl.size
        refine step_own3 rfl (.tmp 32) (.tmp 40) 35 35 rfl w.heap.size 22 (.slice none 0 0) 1 24 Try.underlying35 info22 rfl rfl hoA rfl (src_one _ Try.underlying35 22 _ rfl) ?_ ?_ ?_ ?_
        ·have := HUL.out; unfold maxLen; omega
        ·have := HUL.out; omega
        ·simp; omega
        intro v5 w5 ho5 hg5 hv5
        obtain ⟨g5, c5, rfl⟩ := ownsRow_succ ho5
        obtain ⟨hbx, hpk5, hst5, hko5⟩ := HST4.out.push hus ho hf HF4.out ho5 hg5 hv5
        have hc5 := hbx.cell
        have hf5 := hbx.frozen
        have HST5 := Lib.hid hst5
        have HKO5 := Lib.hid hko5
        clear hst5 hko5 hus ho hf hoA ho5 hg5 hv5
        have hHeld' := hpk5
        refine hK.out _ _ ?_ (fun _ => ?_)
        ·exact hHeld'
        clear hK K hHeld
        have hHeld := hHeld'
        clear hHeld'
        try simp only [Act.put, List.setIfInBounds_toArray, List.set_cons_zero, List.set_cons_succ]
        refine wpAnyH_ready (rs := [10]) (by kernel_rfl) (by simp) ?_
        refine AllReadyH.cons (o := { dst := none, op := Op.store 35 (Operand.tmp 10) (Operand.tmp 41), type := 0, pos := "log.go:32", after := #[{ on := 9, ground := Ground.data }, { on := 9, ground := Ground.chain }, { on := 0, ground := Ground.phase }, { on := 1, ground := Ground.phase }, { on := 2, ground := Ground.phase }, { on := 3, ground := Ground.phase }, { on := 4, ground := Ground.phase }, { on := 5, ground := Ground.phase }, { on := 6, ground := Ground.phase }, { on := 7, ground := Ground.phase }, { on := 8, ground := Ground.phase }, { on := 9, ground := Ground.phase }], guard := none }) rfl (fun K hK => ?_) AllReadyH.nil
        go_simp
        try (go_wp2_with fail)
        have hHeld' := HST5.out.pk
        refine hK.out _ _ ?_ (fun _ => ?_)
        ·exact hHeld'
        clear hK K hHeld
        have hHeld := hHeld'
        clear hHeld'
        try simp only [Act.put, List.setIfInBounds_toArray, List.set_cons_zero, List.set_cons_succ]
        refine wpAnyH_done (by kernel_rfl) ?_ _
        try simp only [Exit.then]
        exact ⟨(HKOD.out.trans (HKO4.out.trans HKO5.out)).from _, fun _ => HST5.out.pk.dc, ⟨_, by rw [List.map_append, List.map_cons, List.map_nil, secX_snoc, HKK.out]; exact HST5.out⟩⟩
  ·have d1 : decide (0 ≤ epoch ∧ epoch ≤ 1073741824) = true := by simp [h1]
   have d2 : decide (0 ≤ num ∧ num ≤ 1073741824) = false := by rw [decide_eq_false_iff_not]; exact h2
   have HP2 := Lib.hid (show R = ([], false) by rw [hP, if_pos (by omega)])
   clear hP
   gi_wp2_with (first | (gi_at_call 30; refine (callsIn_wide.2 (counts_any _ _)).mono ?_; rintro e w2 ⟨rfl, rfl⟩) | (refine ⟨(show Fence.wide.fn _ from trivial), ?_⟩))
   exact ⟨_, leaveP rfl rfl, GivesPt.none HP2.out HB2.out⟩
 ·have d1 : decide (0 ≤ epoch ∧ epoch ≤ 1073741824) = false := by rw [decide_eq_false_iff_not]; exact h1
  have HP2 := Lib.hid (show R = ([], false) by rw [hP, if_pos (by omega)])
  clear hP
  gi_wp2_with (first | (gi_at_call 30; refine (callsIn_wide.2 (counts_any _ _)).mono ?_; rintro e w2 ⟨rfl, rfl⟩) | (refine ⟨(show Fence.wide.fn _ from trivial), ?_⟩))
  exact ⟨_, leaveP rfl rfl, GivesPt.none HP2.out HB2.out⟩
end Go.Proofs.Ytmbkaedhllfoeaa
namespace Go.Proofs.Ytmbkaedhllfoeaa
open Go.RowKit Go.Rst Go.Pg Go.Crc
theorem chCells_len : ∀ us : List (Chg × Value), (chCells us).length = us.length * 3
 | [] => rfl
 | x :: us => by
  have ih := chCells_len us
  have e : chCells (x :: us) = .string x.1.1 :: x.2 :: .bool x.1.2.2 :: chCells us := by simp [chCells]
  rw [e]
  simp only [List.length_cons]
  omega
section
variable {w : World} {base base' : Nat} {A : Option Addr} {n c : Nat} {us : List (Chg × Value)}
theorem chCells_one (hf : ∀ x ∈ us, FB 5 w base' x.2 x.1.2.1) : ∀ u ∈ chCells us, u.oneCell' = true := by
 intro u hu
 unfold chCells at hu
 obtain ⟨y, hy, hx⟩ := List.mem_flatMap.1 hu
 simp only [List.mem_cons, List.not_mem_nil, or_false] at hx
 rcases hx with rfl | rfl | rfl
 ·rfl
 ·exact fb_one (hf y hy)
 ·rfl
theorem chCells_take : ∀ (us : List (Chg × Value)) (i : Nat), chCells (us.take i) = (chCells us).take (i * 3)
 | [], i => by simp [chCells]
 | x :: us, 0 => by simp [chCells]
 | x :: us, i + 1 => by
  have ih := chCells_take us i
  have e : ∀ l, chCells (x :: l) = .string x.1.1 :: x.2 :: .bool x.1.2.2 :: chCells l := fun l => by simp [chCells]
  rw [List.take_succ_cons, e, e, show (i + 1) * 3 = i * 3 + 1 + 1 + 1 by omega, List.take_succ_cons, List.take_succ_cons, List.take_succ_cons, ih]
theorem oc_take (ho : w.ownsRow base 33 3 (.slice A n c) us.length (chCells us)) (hf : ∀ x ∈ us, FB 5 w base' x.2 x.1.2.1) {i : Nat} (hi : i ≤ us.length) :
  Src Try.prog 3 34 (.slice A i c) i (chCells (us.take i)) w := by
 have hl : (chCells (us.take i)).length = i * 3 := by rw [chCells_len, List.length_take]; congr 1; omega
 have h1 : ∀ u ∈ chCells (us.take i), u.oneCell' = true := fun u hu => chCells_one hf u (by rw [chCells_take] at hu; exact List.mem_of_mem_take hu)
 rcases ho.2 with ⟨he, h0⟩ | ⟨g, cap, cur, he, hb, hg, hnc, hcm, hcs, ht⟩
 ·injection he with e1 e2 e3
  subst e1
  have : i = 0 := by omega
  subst this
  rw [List.take_zero]
  exact Src.ofNil _ Try.underlying34 c
 ·have hcell := ho.cells (g := g) (by rw [he]; rfl)
  injection he with e1 e2 e3
  subst e1
  refine Src.ofSlice _ Try.underlying34 ⟨g, 0, none⟩ _ _ _ hl (fun j x hj => hcell j x ?_) h1
  rw [chCells_take, List.getElem?_take] at hj
  split at hj
  ·exact hj
  ·cases hj
end
end Go.Proofs.Ytmbkaedhllfoeaa
namespace Go.Proofs.Ytmbkaedhllfoeaa
open Go.RowKit Go.Rst Go.Crc
set_option maxRecDepth 100000 in
set_option maxHeartbeats 400000 in
theorem growC_zero (w : World) : Calls Try.prog 57 #[.slice none 0 0, .int .i64 0] w fun e w' => e = .returned (.slice none 0 0) ∧ w = w' := by
 go_enter Try.func57, Try.ntmps57
 go_wp2
 go_ret
 exact ⟨rfl, rfl⟩
def RoomC (w : World) (e : Ending) (w' : World) : Prop := ∃ v, e = .returned v ∧ w'.ownsRow w.heap.size 33 3 v 0 [] ∧ Below w.heap.size w w'
theorem roomC_new {w : World} {c : Nat} {cs : Array Value} (hm : c ≤ maxLen) (hs : cs.size = c * 3) :
  RoomC w (.returned (.slice (some ⟨w.heap.size, 0, none⟩) 0 c)) (w.drew.alloc (.cells cs 33)) :=
 ⟨_, rfl, ⟨by simp, .inr ⟨w.heap.size, c, cs, rfl, Nat.le_refl _, heap_alloc_new w.drew _, Nat.zero_le _, hm, hs, by simp⟩⟩, (Below.refl _ _).drew.alloc (Nat.le_refl _) _⟩
set_option maxRecDepth 100000 in
set_option maxHeartbeats 400000 in
theorem growC_pos (n : Nat) (h0 : 0 < n) (hn : n ≤ 2000000) (w : World) : Calls Try.prog 57 #[.slice none 0 0, .int .i64 n] w (RoomC w) := by
 obtain ⟨i, hi, hz, hsz, hb⟩ := info_parts info33
 obtain ⟨t, ht⟩ : ∃ t : TypeId, t = 33 := ⟨_, rfl⟩
 have hcap : n ≤ grownCap w n 0 33 := grownCap_ge w n 0 _
 have hcm : grownCap w n 0 33 ≤ maxLen := grownCap_le_maxLen w n 0 _ (by unfold maxLen; omega)
 have hrun : ∀ ty, (Builtin.append_ #[34, 3] ty #[.slice none 0 0, .int .i64 n]).run Try.prog w =
   .ok (.slice (some ⟨w.heap.size, 0, none⟩) n (grownCap w n 0 33)) (w.drew.alloc (.cells ((#[] : Array Value) ++ Builtin.zeroCells (Value.cells (.agg #[.string ⟨#[]⟩, .slice none 0 0, .bool false])) n ++ Builtin.zeroCells (Value.cells (.agg #[.string ⟨#[]⟩, .slice none 0 0, .bool false])) (grownCap w n 0 33 - n)) 33)) := fun ty => by
  have h := Lib.run_append_grow_zeros (P := Try.prog) w 34 3 ty 33 i (.agg #[.string ⟨#[]⟩, .slice none 0 0, .bool false]) .i64 .i64 Try.underlying34 Try.underlying3 hi hz none 0 0 [] (by rw [hsz]; exact run_firstCells_none w.drew 3 0 0 0) n h0 (by rw [hsz]; decide) (by omega) (by omega) (by rw [hb]; omega)
   (growslice_fits (by omega) (by rw [hb]; omega))
  simpa using h
 have hsize : ((#[] : Array Value) ++ Builtin.zeroCells (Value.cells (.agg #[.string ⟨#[]⟩, .slice none 0 0, .bool false])) n ++ Builtin.zeroCells (Value.cells (.agg #[.string ⟨#[]⟩, .slice none 0 0, .bool false])) (grownCap w n 0 33 - n)).size = grownCap w n 0 33 * 3 := by
  simp only [Array.size_append, size_zeroCells]
  simp [Value.cells]
  omega
 generalize ((#[] : Array Value) ++ Builtin.zeroCells (Value.cells (.agg #[.string ⟨#[]⟩, .slice none 0 0, .bool false])) n ++ Builtin.zeroCells (Value.cells (.agg #[.string ⟨#[]⟩, .slice none 0 0, .bool false])) (grownCap w n 0 33 - n)) = cs at *
 generalize grownCap w n 0 33 = c at *
 have hend := roomC_new (w := w) hcm hsize
 have HE := Lib.hid hend
 have hc63 : c ≤ 9223372036854775807 := by unfold maxLen at hcm; omega
 have HR := Lib.hid hrun
 clear hend hcm hsize hrun hi hz hsz hb ht
 go_enter Try.func57, Try.ntmps57
 go_wp2_with (at_builtin; refine Lib.wpList_append_run _ rfl _ _ _ _ rfl _ _ rfl rfl _ _ (HR.out _) ?_)
 go_ret
 exact HE.out
theorem growC_any (n : Nat) (hn : n ≤ 2000000) (w : World) : Calls Try.prog 57 #[.slice none 0 0, .int .i64 n] w (RoomC w) := by
 rcases Nat.eq_zero_or_pos n with h | h
 ·subst h
  refine (growC_zero w).mono ?_
  rintro e w' ⟨rfl, rfl⟩
  exact ⟨_, rfl, World.ownsRow_nil _ _ _ _, Below.refl _ _⟩
 ·exact growC_pos n h hn w
def OC2 (w : World) (base b0 : Nat) (v : Value) (cs : List Chg) : Prop :=
 ∃ us : List (Chg × Value), us.map (·.1) = cs ∧ w.ownsRow base 33 3 v us.length (chCells us) ∧ ∀ x ∈ us, FB 5 w b0 x.2 x.1.2.1
def catC (fs : List (List Chg)) : List Chg := fs.flatten
theorem catC_take {fs : List (List Chg)} {k : Nat} (h : k < fs.length) : catC (fs.take (k + 1)) = catC (fs.take k) ++ fs[k] := by
 unfold catC
 rw [List.take_succ_eq_append_getElem h, List.flatten_append]; simp
theorem catC_le (fs : List (List Chg)) (k : Nat) : (catC (fs.take k)).length ≤ (catC fs).length := by
 unfold catC
 conv => rhs; rw [← List.take_append_drop k fs]
 rw [List.flatten_append, List.length_append]; omega
theorem of_at {w : World} {base : Nat} {v : Value} {fs : List (List Chg)} (h : OF w base v fs) {k : Nat} (hk : k < fs.length) :
  ∃ g u, v.ownBlock = some g ∧ g < w.heap.size ∧ (∃ c, v = .slice (some ⟨g, 0, none⟩) fs.length c) ∧ w.cell? ⟨g, 0 + k, none⟩ = some u ∧ OC 5 33 w base u fs[k] := by
 obtain ⟨us, rfl, ho, hf⟩ := h
 rw [List.length_map] at hk
 rcases ho.2 with ⟨_, h0⟩ | ⟨g, cap, cur, rfl, hb, hg, _⟩
 ·omega
 ·have hc := ho.cells (g := g) rfl k us[k].2 (by simp [hk])
  rw [Addr.add_lit] at hc
  exact ⟨g, us[k].2, rfl, (Array.getElem?_eq_some_iff.1 hg).1, ⟨cap, by rw [List.length_map]⟩, hc, by simpa using hf us[k] (List.getElem_mem hk)⟩
set_option maxRecDepth 100000 in
set_option maxHeartbeats 1000000 in
theorem concatC_any (v : Value) (fs : List (List Chg)) (w : World) (b0 : Nat) (hb0 : b0 ≤ w.heap.size) (hv : OF w b0 v fs) (hl : (catC fs).length ≤ 1000000) (hfl : fs.length ≤ 1000000) :
  Calls Try.prog 28 #[v] w fun e w' => ∃ v', e = .returned v' ∧ OC2 w' w.heap.size b0 v' (catC fs) ∧ Below w.heap.size w w' := by
 have HV := Lib.hid hv
 obtain ⟨A, c, rfl, hlc, hcm, _⟩ := hv.rf
 have hc63 : (c : Int) ≤ 9223372036854775807 := by unfold maxLen at hcm; omega
 clear hv
 go_enter Try.func28, Try.ntmps28
 go_wp2
 go_loop [3, 11] (fun n i => ∃ k : Nat, k ≤ fs.length ∧ i = .int .i64 k ∧ n = .int .i64 ((catC (fs.take k)).length : Nat)) (fun _ i => fs.length - (intOf i).toNat)
 case atStart => exact ⟨0, Nat.zero_le _, rfl, rfl⟩
 case round =>
  obtain ⟨k, hk, rfl, rfl⟩ := hrel
  by_cases hlt : k < fs.length
  ·obtain ⟨g, u, _, hg, ⟨c', hve⟩, hc, hoc⟩ := of_at HV.out hlt
   injection hve with hve _ hce
   subst hve
   subst hce
   have ht := congrArg List.length (catC_take hlt)
   rw [List.length_append] at ht
   have hle := catC_le fs (k + 1)
   rw [ht] at hle
   obtain ⟨Au, cu, hue, _⟩ := hoc.rc
   subst hue
   obtain ⟨n, hn⟩ : ∃ n, n = (catC (fs.take k)).length := ⟨_, rfl⟩
   obtain ⟨m, hm⟩ : ∃ m, m = fs[k].length := ⟨_, rfl⟩
   rw [← hn] at ht hle
   rw [← hm] at ht hle hc
   rw [← hn]
   have HT := Lib.hid ht
   clear hn hm
   simp only [Nat.zero_add] at hc
   clear ht hoc
   go_wp2
   go_round
   case rel => exact ⟨k + 1, by omega, by go_num, by rw [HT.out]; go_num⟩
   case measure => simp [intOf]; omega
  ·have e : k = fs.length := by omega
   rw [e, List.take_length]
   have hn : (catC fs).length ≤ 2000000 := by omega
   have HE := Lib.hid e
   clear e
   go_wp2_with fail
   refine (growC_any _ hn _).mono ?_
   rintro e w1 ⟨v1, rfl, hown, hbel⟩
   have HO := Lib.hid hown
   have HB := Lib.hid hbel
   clear hown hbel
   go_wp2
   go_loopw [6, 27] (fun b i wr => ∃ k : Nat, k ≤ fs.length ∧ i = .int .i64 k ∧ OC2 wr w.heap.size b0 b (catC (fs.take k)) ∧ Below w.heap.size w wr) (fun _ i _ => fs.length - (intOf i).toNat)
   case atStart => exact ⟨0, Nat.zero_le _, rfl, ⟨[], rfl, HO.out, fun _ h => by cases h⟩, HB.out⟩
   case round =>
    clear HO HB
    obtain ⟨k, hk, rfl, hoc2, hbel⟩ := hrel
    by_cases hlt : k < fs.length
    ·obtain ⟨g, u, _, hg, ⟨c', hve⟩, hc, hoc⟩ := of_at HV.out hlt
     injection hve with hve _ hce
     subst hve
     subst hce
     have hc' := (hbel.cell (p := ⟨g, 0 + k, none⟩) hg).trans hc
     have hocr := hoc.below hbel
     obtain ⟨ws, hws, how, hwf⟩ := hocr
     obtain ⟨us, hus, ho, hf⟩ := hoc2
     have ht := catC_take hlt
     have hle := catC_le fs (k + 1)
     rw [ht, List.length_append] at hle
     have hul : us.length = (catC (fs.take k)).length := by rw [← hus, List.length_map]
     have hwl : ws.length = fs[k].length := by rw [← hws, List.length_map]
     obtain ⟨Au, cu, hue, _⟩ := own_shape how
     subst hue
     have hsrc := oc_take how hwf (i := ws.length) (Nat.le_refl _)
     rw [List.take_length] at hsrc
     have HT := Lib.hid (show catC (fs.take (k + 1)) = us.map (·.1) ++ ws.map (·.1) by rw [ht, hus, hws])
     have HO := Lib.hid ho
     have HF := Lib.hid hf
     have HWF := Lib.hid hwf
     have HSRC := Lib.hid hsrc
     have HB := Lib.hid hbel
     have hum : us.length + ws.length ≤ 1000000 := by omega
     simp only [Nat.zero_add] at hc'
     clear ht hle hul hwl hbel hc hoc how hwf ho hf hsrc HE hus hws
     go_wp2_with (at_builtin; refine wpList_own rfl (.tmp 31) (.tmp 32) 34 34 rfl w.heap.size 33 (.agg #[.string ⟨#[]⟩, .slice none 0 0, .bool false]) 3 48 Try.underlying34 info33 rfl rfl HO.out rfl HSRC.out HB.out (Nat.le_refl _) ?_ ?_ ?_ ?_)
     ·unfold maxLen; omega
     ·omega
     ·exact HB.out.size
     ·intro v2 w2 hown2 hbel2 hg2
      have HNEW := Lib.hid (show OC2 w2 w.heap.size b0 v2 (catC (fs.take (k + 1))) from ⟨us ++ ws, by rw [HT.out, List.map_append], by rw [chCells_append, List.length_append]; exact hown2, fun x hx => by
       rcases List.mem_append.1 hx with hx | hx
       ·exact (HF.out x hx).grown HO.out (by decide) hg2
       ·exact (HWF.out x hx).grown HO.out (by decide) hg2⟩)
      have HB2 := Lib.hid hbel2
      clear hown2 hbel2 hg2
      go_wp2
      go_roundw
      case rel => exact ⟨k + 1, by omega, by go_num, HNEW.out, HB2.out⟩
      case measure => simp [intOf]; omega
    ·have e : k = fs.length := by omega
     rw [e, List.take_length] at hoc2
     have HO := Lib.hid hoc2
     have HB := Lib.hid hbel
     clear hoc2 hbel e HE
     go_wp2
     go_ret
     exact ⟨_, rfl, HO.out, HB.out⟩
end Go.Proofs.Ytmbkaedhllfoeaa
namespace Go.Proofs.Ytmbkaedhllfoeaa
open Go.RowKit Go.Rst Go.Crc Go.Shelf
attribute [local go_sem] Oper.semAt_some
structure CQ (w : World) (us : List (Value × List UInt8)) (sv : Value) (X : World) : Prop where
 bs : Boxed X w.heap.size 35 sv
 ow : X.ownsRow w.heap.size 22 1 sv us.length (us.map (·.1))
 be : Below w.heap.size w X
theorem CQ.grown {w X Y : World} {us : List (Value × List UInt8)} {sv : Value} {row : Option Nat} (h : CQ w us sv X) (hg : X.grownBy Y row) (hr : ∀ r, row = some r → w.heap.size ≤ r ∧ ∃ o : Obj, X.heap[r]? = some o ∧ o.isCells = false) : CQ w us sv Y := by
 have hk : KX (fun _ _ => True) X Y := KX.of_grown hg (fun r e => (hr r e).2)
 exact ⟨hk.boxed trivial h.bs, hk.own h.ow (fun _ _ => trivial), h.be.trans ((Below.refl _ _).grown hg h.be.size (fun r e => (hr r e).1))⟩
def GivesCk (w : World) (bv : Value) (bl : List UInt8) (ps : List (List UInt8)) (e : Ending) (w' : World) : Prop :=
 ∃ (sv : Value) (us : List (Value × List UInt8)), e = .returned sv ∧ us.map (·.2) = ps ∧ w'.ownsRow w.heap.size 22 1 sv us.length (us.map (·.1)) ∧ (∀ x ∈ us, (∀ X, RB X bv bl → RB X x.1 x.2) ∧ x.1.ownBlock = bv.ownBlock) ∧ Below w.heap.size w w'
theorem leaveC {W : World} {tmps : Array Value} {v : Value} (h : tmps.getD 4 undef = v) : (results Try.f68 tmps).run Try.prog W = .ok v W := by
 subst h
 exact results_tmp rfl _ _ _
set_option maxRecDepth 100000 in
set_option maxHeartbeats 4000000 in
theorem appseq_64 (b off c L B : Nat) (bl : List UInt8) (w : World) (hL : L = bl.length) (hD : DC64 (.slice (some ⟨b, off, none⟩) L c) bl B w) (hl : L ≤ 1000000) :
  Calls Try.prog 68 #[.slice none 0 0, .func (.func 60) #[] #[.pointer (some ⟨B, 0, none⟩), .pointer (some ⟨B + 1, 0, none⟩)]] w (GivesCk w (.slice (some ⟨b, off, none⟩) L c) bl (chunkL64 bl)) := by
 obtain ⟨iU, hi, hz0, hz1, hz2⟩ := info_parts info22
 refine (callsIn_wide (n := 3)).1 ?_
 refine callsIn_of_wp_marks Try.func68 rfl trivial ?_ rfl
 simp only [Try.ntmps68, List.size_toArray, List.length_cons, List.length_nil, Nat.reduceAdd, Nat.reduceSub, Array.replicate_succ, Array.replicate_zero, List.push_toArray, List.append_toArray, List.nil_append, List.cons_append]
 have HL := Lib.hid hL
 have HD := Lib.hid hD
 have hof : of64 bl ≤ 1000000 := by unfold of64; omega
 have HOF := Lib.hid hof
 clear hL hD hof
 gi_wp2
 have hbe : Below w.heap.size w (w.alloc (.cells #[.slice none 0 0] 35)) := (Below.refl _ _).alloc (Nat.le_refl _) _
 have hq0 : CQ w [] (.slice none 0 0) (w.alloc (.cells #[.slice none 0 0] 35)) := ⟨Boxed.new w _ _, World.ownsRow_nil _ _ _ _, hbe⟩
 have hsz0 : (w.alloc (.cells #[.slice none 0 0] 35)).heap.size = w.heap.size + 1 := by simp
 obtain ⟨W0, hW0⟩ : ∃ W0, W0 = w.alloc (.cells #[.slice none 0 0] 35) := ⟨_, rfl⟩
 rw [← hW0] at hq0 hsz0 hbe ⊢
 have hD0 : DC64 (.slice (some ⟨b, off, none⟩) L c) bl B W0 := ⟨HD.out.1.below hbe, (hbe.block _ HD.out.2.1.lt).trans HD.out.2.1, (hbe.block _ HD.out.2.2.lt).trans HD.out.2.2⟩
 clear hW0
 refine wpIn_rangeFunc_ownG rfl (by decide) (gf := 60) (lb := #[.pointer (some ⟨B, 0, none⟩), .pointer (some ⟨B + 1, 0, none⟩)]) rfl trivial (enters_of Try.func60 (by kernel_rfl) rfl)
  (chunk_stops64 2 b off c L B bl W0 HL.out hD0 (by omega)) (fun h k x => k (h x)) (fun X l o o' hl hlo hc _ hx => ?kb) (Below.refl _ _) (fun _ => rfl)
  (fun pre X => ∃ sv, CQ w (pre.map (·.1)) sv X)
  (fun _ _ _ => False)
  ?oi (fun _ _ _ _ _ h _ _ => h) ⟨_, by simpa using hq0⟩
  (fun x => { tmps := #[.slice none 0 0, .func (.func 60) #[] #[.pointer (some ⟨B, 0, none⟩), .pointer (some ⟨B + 1, 0, none⟩)], .pointer (some ⟨w.heap.size, 0, none⟩), undef, .slice none 0 0, x.1.1, .func (.func 60) #[] #[.pointer (some ⟨B, 0, none⟩), .pointer (some ⟨B + 1, 0, none⟩)], x.1.1, undef, undef, undef, undef, undef], defers := [] }) ?assign ?body ?done ?stop
 case kb =>
  have hg := grownBy_putObj' X l o'
  have hk : KX (fun _ _ => True) X (X.putObj l o') := KX.of_grown hg (fun r e => by cases e; exact ⟨o, hlo, hc⟩)
  exact ⟨rb_kept hx.1 hg (fun r e => by cases e; exact ⟨o, hlo, hc⟩), hk.boxed trivial hx.2.1, hk.boxed trivial hx.2.2⟩
 case oi =>
  rintro pre X Y row ⟨sv, h⟩ hg hr
  exact ⟨sv, h.grown hg (fun r e => ⟨by have := (hr r e).1; omega, (hr r e).2⟩)⟩
 case assign =>
  intro l x X K hK
  obtain ⟨Ax, cx, hxv⟩ : ∃ A c, x.1.1 = .slice A x.1.2.length c := by obtain ⟨A, c, h, _⟩ := x.2.1 W0 hD0.1; exact ⟨A, c, h⟩
  rw [hxv] at hK ⊢
  gi_wp2
  exact hK
 case stop =>
  intro D c pre X hD hS h
  exact h.elim
 case done =>
  rintro D xs X hDD hS ⟨sv, hq⟩ hK
  have hmk3 : Marks w.heap.size X.heap.size X [{ target := .collected D, args := #[] }] := ⟨⟨D, rfl, by omega, (Array.getElem?_eq_some_iff.1 hK).1, hK, fun d hd => by cases hd⟩, trivial⟩
  have hcb := hq.bs.cell
  obtain ⟨Ac, cc, rfl, _⟩ := own_shape hq.ow
  have hlq : (xs.map (·.1)).length = xs.length := List.length_map _
  have how := hq.ow
  have hqb := hq.be
  rw [hlq] at hcb how
  have HOW := Lib.hid how
  have HQB := Lib.hid hqb
  have HLQ := Lib.hid hlq
  clear how hqb hlq
  have HMK3 := Lib.hid hmk3
  have HS := Lib.hid hS
  clear hq hmk3 hS hD0
  gi_wp2
  exact leaves_marks HMK3.out (fun W' hkx hb => ⟨_, leaveC rfl, _, xs.map (·.1), rfl, by rw [List.map_map]; exact HS.out, hkx.own (by have h := HOW.out; rw [← HLQ.out] at h; rw [HLQ.out] at h ⊢; exact h) (fun _ _ => trivial), fun y hy => by
   obtain ⟨x, _, rfl⟩ := List.mem_map.1 hy
   exact ⟨x.2.1, x.2.2.2⟩, HQB.out.trans hb⟩)
 case body =>
  rintro l pre x X ⟨sv, hq⟩ hlt
  obtain ⟨Ax, cx, hxv⟩ : ∃ A c, x.1.1 = .slice A x.1.2.length c := by obtain ⟨A, c, h, _⟩ := x.2.1 W0 hD0.1; exact ⟨A, c, h⟩
  have hcb := hq.bs.cell
  have hfz := hq.bs.frozen
  obtain ⟨As, cs, rfl, _⟩ := own_shape hq.ow
  have hlen : (pre.map (·.1)).length = pre.length := by rw [List.length_map]
  have HLN := Lib.hid hlen
  have how := hq.ow
  have hbs := hq.bs
  have hbel := hq.be
  rw [hlen] at how hcb hbs
  have HOW := Lib.hid how
  have HBS := Lib.hid hbs
  have HBE := Lib.hid hbel
  have HXV := Lib.hid hxv
  have HI := Lib.hid hi
  have HZ0 := Lib.hid hz0
  have HZ1 := Lib.hid hz1
  have HZ2 := Lib.hid hz2
  have HLT := Lib.hid (show pre.length ≤ 1000000 by have := HOF.out; omega)
  have hsz := hq.be.size
  clear how hbs hbel hq hlen hi hz0 hz1 hz2 hlt hD0
  rw [hxv]
  clear hxv
  gi_wp2_with (gi_at_builtin; refine wpListIn_append_own _ rfl _ _ 35 rfl w.heap.size 22 iU (.slice none 0 0) 1 24 Try.underlying35 HI.out HZ0.out HZ1.out HZ2.out rfl (by decide) _ _ _ rfl (HOW.out.alloc _) ⟨X.heap.size, 0, none⟩ 1 1 [.slice Ax x.1.2.length cx] rfl rfl (cell_one_new _ _ _) (by simp [Value.oneCell']) (by have := HLT.out; have := HLN.out; unfold maxLen; omega) (by have := HLT.out; have := HLN.out; omega) (by simp; omega) ?_; intro v8 w8 ho8 hg8 _; obtain ⟨hb1, hb2, hr, hko, hbel⟩ := HBS.out.appended (by decide) HOW.out hsz (Nat.le_refl _) ho8 hg8; have hc1 := hb1.cell; have hf1 := hb1.frozen; obtain ⟨g8, c8, rfl⟩ := ownsRow_succ ho8; have HB2 := Lib.hid hb2; have HR := Lib.hid hr; have HKO := Lib.hid hko; have HBE2 := Lib.hid (HBE.out.trans hbel); clear hb1 hb2 hr hko hbel ho8 hg8)
  exact ⟨HKO.out.from _, fun _ => ⟨HD.out.1.below HBE2.out, (HBE2.out.block _ HD.out.2.1.lt).trans HD.out.2.1, (HBE2.out.block _ HD.out.2.2.lt).trans HD.out.2.2⟩, ⟨_, HB2.out, by
   have h := HR.out
   rw [List.map_append, List.length_append, List.map_append]
   simp only [List.map_cons, List.map_nil, List.length_singleton]
   rw [HLN.out, HXV.out]
   exact h, HBE2.out⟩⟩
set_option maxRecDepth 100000 in
set_option maxHeartbeats 4000000 in
theorem appseq_256 (b off c L B : Nat) (bl : List UInt8) (w : World) (hL : L = bl.length) (hD : DC256 (.slice (some ⟨b, off, none⟩) L c) bl B w) (hl : L ≤ 1000000) :
  Calls Try.prog 68 #[.slice none 0 0, .func (.func 60) #[] #[.pointer (some ⟨B, 0, none⟩), .pointer (some ⟨B + 1, 0, none⟩)]] w (GivesCk w (.slice (some ⟨b, off, none⟩) L c) bl (chunkL256 bl)) := by
 obtain ⟨iU, hi, hz0, hz1, hz2⟩ := info_parts info22
 refine (callsIn_wide (n := 3)).1 ?_
 refine callsIn_of_wp_marks Try.func68 rfl trivial ?_ rfl
 simp only [Try.ntmps68, List.size_toArray, List.length_cons, List.length_nil, Nat.reduceAdd, Nat.reduceSub, Array.replicate_succ, Array.replicate_zero, List.push_toArray, List.append_toArray, List.nil_append, List.cons_append]
 have HL := Lib.hid hL
 have HD := Lib.hid hD
 have hof : of256 bl ≤ 1000000 := by unfold of256; omega
 have HOF := Lib.hid hof
 clear hL hD hof
 gi_wp2
 have hbe : Below w.heap.size w (w.alloc (.cells #[.slice none 0 0] 35)) := (Below.refl _ _).alloc (Nat.le_refl _) _
 have hq0 : CQ w [] (.slice none 0 0) (w.alloc (.cells #[.slice none 0 0] 35)) := ⟨Boxed.new w _ _, World.ownsRow_nil _ _ _ _, hbe⟩
 have hsz0 : (w.alloc (.cells #[.slice none 0 0] 35)).heap.size = w.heap.size + 1 := by simp
 obtain ⟨W0, hW0⟩ : ∃ W0, W0 = w.alloc (.cells #[.slice none 0 0] 35) := ⟨_, rfl⟩
 rw [← hW0] at hq0 hsz0 hbe ⊢
 have hD0 : DC256 (.slice (some ⟨b, off, none⟩) L c) bl B W0 := ⟨HD.out.1.below hbe, (hbe.block _ HD.out.2.1.lt).trans HD.out.2.1, (hbe.block _ HD.out.2.2.lt).trans HD.out.2.2⟩
 clear hW0
 refine wpIn_rangeFunc_ownG rfl (by decide) (gf := 60) (lb := #[.pointer (some ⟨B, 0, none⟩), .pointer (some ⟨B + 1, 0, none⟩)]) rfl trivial (enters_of Try.func60 (by kernel_rfl) rfl)
  (chunk_stops256 2 b off c L B bl W0 HL.out hD0 (by omega)) (fun h k x => k (h x)) (fun X l o o' hl hlo hc _ hx => ?kb) (Below.refl _ _) (fun _ => rfl)
  (fun pre X => ∃ sv, CQ w (pre.map (·.1)) sv X)
  (fun _ _ _ => False)
  ?oi (fun _ _ _ _ _ h _ _ => h) ⟨_, by simpa using hq0⟩
  (fun x => { tmps := #[.slice none 0 0, .func (.func 60) #[] #[.pointer (some ⟨B, 0, none⟩), .pointer (some ⟨B + 1, 0, none⟩)], .pointer (some ⟨w.heap.size, 0, none⟩), undef, .slice none 0 0, x.1.1, .func (.func 60) #[] #[.pointer (some ⟨B, 0, none⟩), .pointer (some ⟨B + 1, 0, none⟩)], x.1.1, undef, undef, undef, undef, undef], defers := [] }) ?assign ?body ?done ?stop
 case kb =>
  have hg := grownBy_putObj' X l o'
  have hk : KX (fun _ _ => True) X (X.putObj l o') := KX.of_grown hg (fun r e => by cases e; exact ⟨o, hlo, hc⟩)
  exact ⟨rb_kept hx.1 hg (fun r e => by cases e; exact ⟨o, hlo, hc⟩), hk.boxed trivial hx.2.1, hk.boxed trivial hx.2.2⟩
 case oi =>
  rintro pre X Y row ⟨sv, h⟩ hg hr
  exact ⟨sv, h.grown hg (fun r e => ⟨by have := (hr r e).1; omega, (hr r e).2⟩)⟩
 case assign =>
  intro l x X K hK
  obtain ⟨Ax, cx, hxv⟩ : ∃ A c, x.1.1 = .slice A x.1.2.length c := by obtain ⟨A, c, h, _⟩ := x.2.1 W0 hD0.1; exact ⟨A, c, h⟩
  rw [hxv] at hK ⊢
  gi_wp2
  exact hK
 case stop =>
  intro D c pre X hD hS h
  exact h.elim
 case done =>
  rintro D xs X hDD hS ⟨sv, hq⟩ hK
  have hmk3 : Marks w.heap.size X.heap.size X [{ target := .collected D, args := #[] }] := ⟨⟨D, rfl, by omega, (Array.getElem?_eq_some_iff.1 hK).1, hK, fun d hd => by cases hd⟩, trivial⟩
  have hcb := hq.bs.cell
  obtain ⟨Ac, cc, rfl, _⟩ := own_shape hq.ow
  have hlq : (xs.map (·.1)).length = xs.length := List.length_map _
  have how := hq.ow
  have hqb := hq.be
  rw [hlq] at hcb how
  have HOW := Lib.hid how
  have HQB := Lib.hid hqb
  have HLQ := Lib.hid hlq
  clear how hqb hlq
  have HMK3 := Lib.hid hmk3
  have HS := Lib.hid hS
  clear hq hmk3 hS hD0
  gi_wp2
  exact leaves_marks HMK3.out (fun W' hkx hb => ⟨_, leaveC rfl, _, xs.map (·.1), rfl, by rw [List.map_map]; exact HS.out, hkx.own (by have h := HOW.out; rw [← HLQ.out] at h; rw [HLQ.out] at h ⊢; exact h) (fun _ _ => trivial), fun y hy => by
   obtain ⟨x, _, rfl⟩ := List.mem_map.1 hy
   exact ⟨x.2.1, x.2.2.2⟩, HQB.out.trans hb⟩)
 case body =>
  rintro l pre x X ⟨sv, hq⟩ hlt
  obtain ⟨Ax, cx, hxv⟩ : ∃ A c, x.1.1 = .slice A x.1.2.length c := by obtain ⟨A, c, h, _⟩ := x.2.1 W0 hD0.1; exact ⟨A, c, h⟩
  have hcb := hq.bs.cell
  have hfz := hq.bs.frozen
  obtain ⟨As, cs, rfl, _⟩ := own_shape hq.ow
  have hlen : (pre.map (·.1)).length = pre.length := by rw [List.length_map]
  have HLN := Lib.hid hlen
  have how := hq.ow
  have hbs := hq.bs
  have hbel := hq.be
  rw [hlen] at how hcb hbs
  have HOW := Lib.hid how
  have HBS := Lib.hid hbs
  have HBE := Lib.hid hbel
  have HXV := Lib.hid hxv
  have HI := Lib.hid hi
  have HZ0 := Lib.hid hz0
  have HZ1 := Lib.hid hz1
  have HZ2 := Lib.hid hz2
  have HLT := Lib.hid (show pre.length ≤ 1000000 by have := HOF.out; omega)
  have hsz := hq.be.size
  clear how hbs hbel hq hlen hi hz0 hz1 hz2 hlt hD0
  rw [hxv]
  clear hxv
  gi_wp2_with (gi_at_builtin; refine wpListIn_append_own _ rfl _ _ 35 rfl w.heap.size 22 iU (.slice none 0 0) 1 24 Try.underlying35 HI.out HZ0.out HZ1.out HZ2.out rfl (by decide) _ _ _ rfl (HOW.out.alloc _) ⟨X.heap.size, 0, none⟩ 1 1 [.slice Ax x.1.2.length cx] rfl rfl (cell_one_new _ _ _) (by simp [Value.oneCell']) (by have := HLT.out; have := HLN.out; unfold maxLen; omega) (by have := HLT.out; have := HLN.out; omega) (by simp; omega) ?_; intro v8 w8 ho8 hg8 _; obtain ⟨hb1, hb2, hr, hko, hbel⟩ := HBS.out.appended (by decide) HOW.out hsz (Nat.le_refl _) ho8 hg8; have hc1 := hb1.cell; have hf1 := hb1.frozen; obtain ⟨g8, c8, rfl⟩ := ownsRow_succ ho8; have HB2 := Lib.hid hb2; have HR := Lib.hid hr; have HKO := Lib.hid hko; have HBE2 := Lib.hid (HBE.out.trans hbel); clear hb1 hb2 hr hko hbel ho8 hg8)
  exact ⟨HKO.out.from _, fun _ => ⟨HD.out.1.below HBE2.out, (HBE2.out.block _ HD.out.2.1.lt).trans HD.out.2.1, (HBE2.out.block _ HD.out.2.2.lt).trans HD.out.2.2⟩, ⟨_, HB2.out, by
   have h := HR.out
   rw [List.map_append, List.length_append, List.map_append]
   simp only [List.map_cons, List.map_nil, List.length_singleton]
   rw [HLN.out, HXV.out]
   exact h, HBE2.out⟩⟩
end Go.Proofs.Ytmbkaedhllfoeaa
namespace Go.Proofs.Ytmbkaedhllfoeaa
open Go.RowKit Go.Rst Go.Crc
set_option maxRecDepth 100000 in
set_option maxHeartbeats 1000000 in
theorem told_any (v : Value) (ss : List (List UInt8)) (w : World) (hv : RP w v ss) : Calls Try.prog 72 #[v] w fun e w' => e = .returned (.int .i64 (toldL ss : Nat)) ∧ w = w' := by
 have HV := Lib.hid hv
 obtain ⟨A, c, rfl, _, hc, _⟩ := hv
 unfold maxLen at hc
 cases ss with
 | nil =>
  rw [List.length_nil]
  go_enter Try.func72, Try.ntmps72
  go_wp2
  go_ret
  exact ⟨rfl, rfl⟩
 | cons s ss =>
  obtain ⟨b, off, u, rfl, _, hx, hr⟩ := rp_at HV.out (k := 0) (by simp)
  simp only [List.getElem_cons_zero, Nat.add_zero] at hx hr
  have HR := Lib.hid hr
  obtain ⟨A3, c3, rfl, _, hc3, _⟩ := hr
  unfold maxLen at hc3
  obtain ⟨L, hL⟩ : ∃ L, L = s.length := ⟨_, rfl⟩
  rw [← hL] at hx
  obtain ⟨M, hM⟩ : ∃ M, M = (s :: ss).length := ⟨_, rfl⟩
  rw [← hM]
  have hM0 : 0 < M := by rw [hM]; simp
  have hm1 : ((M : Int) == 0) = false := by rw [beq_eq_false_iff_ne]; omega
  have hm2 : (0 : Int) < (M : Int) := by omega
  have HLN := Lib.hid hL
  clear hM
  by_cases h64 : L = 64
  ·subst h64
   have hcell : ∃ b2 o2, A3 = some ⟨b2, o2, none⟩ ∧ b2 < w.heap.size ∧ w.cell? ⟨b2, o2 + 9, none⟩ = some (bv s[9]) := by
    have := HR.out
    exact rb_cell this (k := 9) (by rw [← HLN.out]; decide)
   obtain ⟨b2, o2, rfl, _, h9⟩ := hcell
   have e : (toldL (s :: ss)) = (s[9]'(by rw [← HLN.out]; decide)).toNat := by
    show (if s.length = 64 then b9 s else 0) = _
    unfold b9
    rw [if_pos HLN.out.symm, List.getD_eq_getElem?_getD, List.getElem?_eq_getElem (by rw [← HLN.out]; decide)]
    rfl
   rw [e]
   obtain ⟨x, hx9⟩ : ∃ x, x = s[9]'(by rw [← HLN.out]; decide) := ⟨_, rfl⟩
   rw [← hx9] at h9 ⊢
   unfold bv at h9
   have hx256 := x.toNat_lt
   clear e hx9
   go_enter Try.func72, Try.ntmps72
   go_wp2
   go_ret
   exact ⟨rfl, rfl⟩
  ·have e : toldL (s :: ss) = 0 := by show (if s.length = 64 then b9 s else 0) = 0; rw [if_neg (by rw [← HLN.out]; exact h64)]
   rw [e]
   have h64' : ((L : Int) != 64) = true := by simp; omega
   clear e
   go_enter Try.func72, Try.ntmps72
   go_wp2
   go_ret
   exact ⟨rfl, rfl⟩
set_option maxRecDepth 100000 in
set_option maxHeartbeats 1000000 in
theorem pieceP_any (v : Value) (s : List UInt8) (w : World) (hv : RB w v s) (hl : s.length = 64) : Calls Try.prog 73 #[v] w fun e w' => (∃ u, e = .returned u ∧ RB w u (pieceP s)) ∧ w = w' := by
 have HV := Lib.hid hv
 obtain ⟨A, c, rfl, hlc, hc, _⟩ := hv
 unfold maxLen at hc
 have hcell := rb_cell HV.out (k := 10) (by omega)
 obtain ⟨b, off, rfl, _, hx⟩ := hcell
 have h10 : b10 s = (s[10]'(by omega)).toNat := by
  unfold b10
  rw [List.getD_eq_getElem?_getD, List.getElem?_eq_getElem (by omega)]
  rfl
 obtain ⟨x, hxe⟩ : ∃ x, x = s[10]'(by omega) := ⟨_, rfl⟩
 rw [← hxe] at hx h10
 obtain ⟨M, hM⟩ : ∃ M, M = min x.toNat 49 := ⟨_, rfl⟩
 have hcut := HV.out.cut (q := 11) (n := M) (by omega)
 have hp : (s.drop 11).take M = pieceP s := by unfold pieceP; rw [h10, hM]
 rw [hp] at hcut
 have HC := Lib.hid hcut
 have hx256 := x.toNat_lt
 unfold bv at hx
 rw [hl] at hlc
 rw [hl]
 clear hp hcut hxe h10
 rcases Nat.lt_or_ge 49 x.toNat with h | h
 ·obtain rfl : M = 49 := by omega
  have q2 : (49 : Int) < (x.toNat : Int) := by omega
  clear hM
  go_enter Try.func73, Try.ntmps73
  go_wp2
  go_ret
  exact ⟨⟨_, rfl, HC.out⟩, rfl⟩
 ·obtain rfl : M = x.toNat := by omega
  have q1 : 11 + x.toNat - 11 = x.toNat := by omega
  clear hM
  go_enter Try.func73, Try.ntmps73
  go_wp2
  go_ret
  refine ⟨⟨_, rfl, ?_⟩, rfl⟩
  show RB w (.slice (some ⟨b, off + 11, none⟩) (11 + x.toNat - 11) (c - 11)) (pieceP s)
  rw [q1]
  exact HC.out
end Go.Proofs.Ytmbkaedhllfoeaa
namespace Go.Proofs.Ytmbkaedhllfoeaa
open Go.RowKit Go.Rst Go.Crc
def GivesFr (w : World) (r : List Chg × Nat) (e : Ending) (w' : World) : Prop :=
 ∃ u, e = .returned (.tuple #[u, .int .i64 (r.2 : Nat)]) ∧ OC 5 33 w' w.heap.size u r.1 ∧ Below w.heap.size w w'
theorem GivesFr.none_ {w w' : World} {r : List Chg × Nat} (h : r = ([], 0)) (hb : Below w.heap.size w w') : GivesFr w r (.returned (.tuple #[.slice none 0 0, .int .i64 0])) w' := by
 subst h
 exact ⟨_, rfl, OC.nil_ _ _ _ _, hb⟩
theorem told_le (ss : List (List UInt8)) : toldL ss ≤ 255 := by
 cases ss with
 | nil => simp [toldL]
 | cons s ss =>
  show (if s.length = 64 then b9 s else 0) ≤ 255
  unfold b9
  have := (s.getD 9 0).toNat_lt
  split <;> omega
theorem rp_take {w : World} {A : Option Addr} {m c : Nat} {ps : List (List UInt8)} (h : RP w (.slice A m c) ps) {n : Nat} (hn : n ≤ ps.length) : RP w (.slice A n c) (ps.take n) := by
 obtain ⟨A', c', he, h1, h2, h3⟩ := h
 injection he with e1 _ e3
 subst e1
 subst e3
 have hl : (ps.take n).length = n := by rw [List.length_take]; omega
 refine ⟨A, c, by rw [hl], by omega, h2, ?_⟩
 rcases h3 with rfl | ⟨b, off, rfl, hb, hc⟩
 ·exact .inl (by simp)
 ·refine .inr ⟨b, off, rfl, hb, fun j hj => ?_⟩
  have := hc j (by omega)
  rw [List.getElem_take]
  exact this
set_option maxRecDepth 100000 in
set_option maxHeartbeats 4000000 in
theorem frameP_any (ep num : Int) (v : Value) (ss : List (List UInt8)) (w : World) (hv : RP w v ss) :
  Calls Try.prog 49 #[.int .i64 ep, .int .i64 num, v] w (GivesFr w (frameS ep num ss)) := by
 have htold := told_any v ss w hv
 have hle := told_le ss
 have hF : frameS ep num ss = if ss.length < toldL ss then ([], 0)
  else if (ss.take (toldL ss)).all (fun s => s.length == 64) = false then ([], 0)
  else if (readChgs (allP (ss.take (toldL ss)))).2 ≠ 0 then ([], 0)
  else if (partsL ep num (readChgs (allP (ss.take (toldL ss)))).1).1 = ss.take (toldL ss) then ((readChgs (allP (ss.take (toldL ss)))).1, toldL ss)
  else ([], 0) := rfl
 obtain ⟨C, hC⟩ : ∃ C, C = toldL ss := ⟨_, rfl⟩
 rw [← hC] at htold hle hF
 generalize frameS ep num ss = R at *
 have HT := Lib.hid htold
 have HV := Lib.hid hv
 obtain ⟨A, c, rfl, hlc, hc, _⟩ := hv
 unfold maxLen at hc
 clear htold hC
 by_cases hbig : ss.length < C
 ·rw [if_pos hbig] at hF
  have HF := Lib.hid hF
  have hbig' : (ss.length : Int) < (C : Int) := by omega
  clear hF
  go_enter Try.func49, Try.ntmps49
  go_wp2
  refine wp_scope_fwd 0 rfl ?_
  go_wp2_with fail
  refine HT.out.mono ?_
  rintro e w1 ⟨rfl, rfl⟩
  go_wp2
  go_step3
  refine ⟨rfl, ?_⟩
  unfold Behind
  go_wp2
  rw [Exit.noGoto_ret]
  go_ret2
  exact GivesFr.none_ HF.out (Below.refl _ _)
 ·rw [if_neg hbig] at hF
  have HF := Lib.hid hF
  have hCl : C ≤ ss.length := by omega
  have hbig' : (C : Int) ≤ (ss.length : Int) := by omega
  have hd1 : decide (ss.length < C) = false := by rw [decide_eq_false_iff_not]; omega
  have hd2 : decide ((ss.length : Int) < (C : Int)) = false := by rw [decide_eq_false_iff_not]; omega
  clear hF hbig
  go_enter Try.func49, Try.ntmps49
  go_wp2
  refine wp_scope_fwd 0 rfl ?_
  go_wp2_with fail
  refine HT.out.mono ?_
  rintro e w1 ⟨rfl, rfl⟩
  go_wp2
  go_loopw [8, 25] (fun bv i wr => ∃ k : Nat, k ≤ C ∧ i = .int .i64 k ∧ (ss.take k).all (fun s => s.length == 64) = true ∧ wr.ownsRow w.heap.size 5 1 bv (allP (ss.take k)).length (bvs (allP (ss.take k))) ∧ Below w.heap.size w wr) (fun _ i _ => C - (intOf i).toNat)
  case atStart => exact ⟨0, Nat.zero_le _, rfl, by simp, World.ownsRow_nil _ _ _ _, Below.refl _ _⟩
  case round =>
   obtain ⟨k, hk, rfl, hall, hown, hbel⟩ := hrel
   obtain ⟨Ab, cb, rfl, _⟩ := own_shape hown
   by_cases hlt : k < C
   ·have hkl : k < ss.length := by omega
    obtain ⟨b, off, u, rfl, hbw, hx, hr⟩ := rp_at HV.out hkl
    have hx' := (hbel.cell (p := ⟨b, off + k, none⟩) hbw).trans hx
    have hr' := hr.below hbel
    obtain ⟨A3, c3, hus, _, hc3, _⟩ := hr
    obtain ⟨L, hL⟩ : ∃ L, L = ss[k].length := ⟨_, rfl⟩
    rw [← hL] at hus
    subst hus
    have htk := List.take_succ_eq_append_getElem hkl
    by_cases h64 : L = 64
    ·subst h64
     have hall2 : (ss.take (k + 1)).all (fun s => s.length == 64) = true := by rw [htk, List.all_append, hall]; simp [← hL]
     have hpc := pieceP_any _ _ wr hr' hL.symm
     have hpl : (pieceP ss[k]).length ≤ 49 := by unfold pieceP; rw [List.length_take]; omega
     have hap := allP_take hkl
     have hal := allP_len (ss.take k)
     rw [List.length_take] at hal
     generalize pieceP ss[k] = p at *
     generalize allP (ss.take k) = acc at *
     have HPC := Lib.hid hpc
     have HO := Lib.hid hown
     have HB := Lib.hid hbel
     have HAP := Lib.hid hap
     have HALL := Lib.hid hall2
     have hsz := hbel.size
     clear hpc hown hbel hap hall hall2 htk hr' hL hx
     go_wp2_with fail
     refine HPC.out.mono ?_
     rintro e w2 ⟨⟨u2, rfl, hr2⟩, rfl⟩
     have HR2 := Lib.hid hr2
     obtain ⟨A4, c4, rfl, _⟩ := hr2
     go_wp2_with (at_builtin; refine wpList_own rfl (.tmp 32) (.tmp 34) 22 22 rfl w.heap.size 5 (.int .u8 0) 1 1 Try.underlying22 info5 rfl rfl HO.out rfl (HR2.out.src Try.underlying22) HB.out (Nat.le_refl _) ?_ ?_ ?_ ?_)
     ·unfold maxLen; omega
     ·omega
     ·exact hsz
     intro v5 w5 ho5 hb5 _
     have HO5 := Lib.hid ho5
     have HB5 := Lib.hid hb5
     clear ho5 hb5
     go_wp2
     go_roundw
     case rel => exact ⟨k + 1, by omega, by go_num, HALL.out, by rw [HAP.out]; exact own_cat HO5.out, HB5.out⟩
     case measure => simp [intOf]; omega
    ·have hF2 := HF.out
     rw [if_pos (by
      rw [List.all_eq_false]
      exact ⟨ss[k], by rw [List.mem_take_iff_getElem]; exact ⟨k, by omega, rfl⟩, by rw [← hL]; simp [h64]⟩)] at hF2
     have HF2 := Lib.hid hF2
     have HB := Lib.hid hbel
     have h64' : ((L : Int) != 64) = true := by simp; omega
     clear hF2 hown hbel hall htk hr' hL hx
     go_wp2
     go_step3
     refine ⟨rfl, ?_⟩
     unfold Behind
     go_wp2
     rw [Exit.noGoto_ret]
     go_ret2
     exact GivesFr.none_ HF2.out HB.out
   ·obtain rfl : k = C := by omega
    have hF2 := HF.out
    rw [if_neg (by rw [hall]; decide)] at hF2
    have hread := readChgs_any _ _ wr (RB.own hown)
    have hval := readChgs_val (allP (ss.take k))
    have hfew := @readChgs_few (allP (ss.take k))
    have hal := allP_len (ss.take k)
    rw [List.length_take] at hal
    obtain ⟨cs, er, hrd⟩ : ∃ cs er, readChgs (allP (ss.take k)) = (cs, er) := ⟨_, _, rfl⟩
    rw [hrd] at hF2 hread hval
    have hfew2 : er = 0 → (chgsB cs).length ≤ 49 * 255 ∧ cs.length ≤ 49 * 255 := fun h => by
     have := hfew (cs := cs) (by rw [hrd, h])
     omega
    simp only at hF2 hread hval
    have hszr := hbel.size
    have HB := Lib.hid hbel
    have HRD := Lib.hid hread
    have HF2 := Lib.hid hF2
    have HVAL := Lib.hid hval
    clear hF2 hread hval hfew hrd hown hbel hall
    go_wp2_with fail
    refine HRD.out.mono ?_
    rintro e w2 ⟨v2, rfl, hoc, hb2⟩
    have hoc : OC 5 33 w2 wr.heap.size v2 cs := hoc
    have HB2 := Lib.hid (HB.out.trans (hb2.mono hszr))
    obtain ⟨A2, c2, hv2, _⟩ := hoc.rc
    subst hv2
    have HOC := Lib.hid (hoc.base_ (base' := w.heap.size) hszr)
    clear hoc hb2 HRD
    by_cases he : er = 0
    ·subst he
     obtain ⟨hf1, hf2⟩ := hfew2 rfl
     have hparts := parts_any ep num _ cs w2 HOC.out.rc (by omega) (by omega) (fun r hr => by have := HVAL.out r hr; omega)
     have hF3 := HF2.out
     rw [if_neg (by simp)] at hF3
     generalize hpp : partsL ep num cs = P at *
     have HPT := Lib.hid hparts
     have HF3 := Lib.hid hF3
     have HRT := Lib.hid (rp_take HV.out hCl)
     clear hparts hF3 hpp HF2 hfew2
     go_wp2_with fail
     refine HPT.out.mono ?_
     rintro e w3 ⟨v3, rfl, hop, hb3⟩
     obtain ⟨A3, c3, rfl, hc3, hc32⟩ := hop.shape
     have hrp := hop.rp
     have HB3 := Lib.hid (HB2.out.trans (hb3.mono HB2.out.size))
     have HOC3 := Lib.hid (HOC.out.below hb3)
     have hcall := eqF_any _ _ _ _ w3 hrp (rp_below HRT.out HB3.out (Nat.le_refl _))
     obtain ⟨M, hM⟩ : ∃ M, M = P.1.length := ⟨_, rfl⟩
     rw [← hM] at hcall hc32 ⊢
     by_cases heq : P.1 = ss.take k
     ·have hd : decide (P.1 = ss.take k) = true := decide_eq_true heq
      rw [hd] at hcall
      have HCL := Lib.hid hcall
      have HE := Lib.hid heq
      clear hcall hd heq hop hb3 hrp HPT HOC hM
      go_wp2_with fail
      refine HCL.out.mono ?_
      rintro e w4 ⟨rfl, rfl⟩
      go_wp2
      simp only [Exit.jump]
      go_ret2
      have h := HF3.out
      rw [if_pos HE.out] at h
      rw [h]
      exact ⟨_, rfl, HOC3.out, HB3.out⟩
     ·have hd : decide (P.1 = ss.take k) = false := decide_eq_false heq
      rw [hd] at hcall
      have HCL := Lib.hid hcall
      have HE := Lib.hid heq
      clear hcall hd heq hop hb3 hrp HPT HOC hM
      go_wp2_with fail
      refine HCL.out.mono ?_
      rintro e w4 ⟨rfl, rfl⟩
      go_wp2
      go_step3
      refine ⟨rfl, ?_⟩
      unfold Behind
      go_wp2
      rw [Exit.noGoto_ret]
      go_ret2
      have h := HF3.out
      rw [if_neg HE.out] at h
      exact GivesFr.none_ h HB3.out
    ·have hF3 := HF2.out
     rw [if_pos he] at hF3
     have HF3 := Lib.hid hF3
     have hne : (er != 0) = true := by simp [he]
     have hne2 : (er == 0) = false := by rw [beq_eq_false_iff_ne]; exact he
     clear hF3 HF2 hfew2
     go_wp2
     go_step3
     refine ⟨rfl, ?_⟩
     unfold Behind
     go_wp2
     rw [Exit.noGoto_ret]
     go_ret2
     exact GivesFr.none_ HF3.out HB2.out
end Go.Proofs.Ytmbkaedhllfoeaa
namespace Go.Proofs.Ytmbkaedhllfoeaa
open Go.RowKit Go.Rst Go.Crc
def GivesRd (w : World) (r : List (List Chg) × Nat) (e : Ending) (w' : World) : Prop :=
 ∃ u, e = .returned (.tuple #[u, .int .i64 (r.2 : Nat)]) ∧ OF w' w.heap.size u r.1 ∧ Below w.heap.size w w'
def AtNext (ep : Int) (v : Value) (ss : List (List UInt8)) (w : World) (a : Act) (W : World) : Prop :=
 ∃ (fs : List (List Chg)) (at_ : Nat) (fv u2 u3 u4 u5 u8 u9 u10 u11 u12 u13 u14 u15 u16 u17 u18 u19 u20 u21 u22 u23 u24 u25 u26 u27 u28 u29 u30 : Value),
  a = { tmps := #[.int .i64 ep, v, u2, u3, u4, u5, fv, .int .i64 at_, u8, u9, u10, u11, u12, u13, u14, u15, u16, u17, u18, u19, u20, u21, u22, u23, u24, u25, u26, u27, u28, u29, u30], defers := [] } ∧
  OF W w.heap.size fv fs ∧ Below w.heap.size w W ∧ Left ep ss (readS ep ss) fs at_ ∧ fs.length ≤ at_
theorem from_next {ep : Int} {v : Value} {ss : List (List UInt8)} {w : World} {P : Act → World → Prop} {a0 : Act} {W0 : World} (h : AtNext ep v ss w a0 W0) (hP : ∀ a W, AtNext ep v ss w a W → P a W) : P a0 W0 := hP _ _ h
def left7 (n : Nat) (a : Act) (_ : World) : Nat := n - (intOf (a.tmps.getD 7 undef)).toNat
set_option maxRecDepth 100000 in
set_option maxHeartbeats 1000000 in
theorem readP_any (ep : Int) (v : Value) (ss : List (List UInt8)) (w : World) (hv : RP w v ss) (hl : ss.length ≤ 1000000) :
  Calls Try.prog 25 #[.int .i64 ep, v] w (GivesRd w (readS ep ss)) := by
 have HV := Lib.hid hv
 obtain ⟨A, c, rfl, hlc, hc, _⟩ := hv
 unfold maxLen at hc
 go_enter Try.func25, Try.ntmps25
 go_wp2
 refine wp_scope_jumps 0 (AtNext ep (.slice A ss.length c) ss w) (left7 ss.length) rfl ?_ ?_
 ·go_wp2_with fail
  refine wp_label ?_
  rename_i K hK
  refine hK _ _ ?_
  refine from_next (ep := ep) (v := .slice A ss.length c) (ss := ss) (w := w) (P := Code.wp Try.prog _ _) ⟨[], 0, .slice none 0 0, _, _, _, _, _, _, _, _, _, _, _, _, _, _, _, _, _, _, _, _, _, _, _, _, _, _, _, rfl, OF.nil_ w w.heap.size, Below.refl w.heap.size w, Left.start ep ss, Nat.zero_le _⟩ ?_
  rintro _ W ⟨fs, at_, fv, u2, u3, u4, u5, u8, u9, u10, u11, u12, u13, u14, u15, u16, u17, u18, u19, u20, u21, u22, u23, u24, u25, u26, u27, u28, u29, u30, rfl, hof, hbel, hlf, hfl⟩
  have hat := hlf.1
  have hat' : ((at_ : Nat) : Int) ≤ (ss.length : Int) := by omega
  have hlc' : (ss.length : Int) ≤ (c : Int) := by omega
  obtain ⟨A1, c1, rfl, hcm1, hlc1⟩ := hof.shape
  have hfr := frameP_any ep fs.length (.slice (if c = at_ then A else Option.map (fun x => x.add at_) A) (ss.length - at_) (c - at_)) (ss.drop at_) W (rp_cut (rp_below HV.out hbel (Nat.le_refl _)) hat)
  have hfle := frame_le (epoch := ep) (num := fs.length) (ss := ss.drop at_)
  rw [List.length_drop] at hfle
  have hstop := hlf.stop
  have hnext := hlf.next
  generalize frameS ep fs.length (ss.drop at_) = r at *
  obtain ⟨l, C⟩ := r
  simp only at hstop hnext hfle
  have HFR := Lib.hid hfr
  have HOF := Lib.hid hof
  have HB := Lib.hid hbel
  have hsz := hbel.size
  have HST := Lib.hid hstop
  have HNX := Lib.hid hnext
  clear hfr hof hbel hlf hstop hnext
  by_cases hck : at_ = c
  ·subst hck
   have hfr := HFR.out
   rw [if_pos rfl, Nat.sub_self, show ss.length - at_ = 0 by omega] at hfr
   have HFR2 := Lib.hid hfr
   clear hfr HFR
   go_wp2_with fail
   refine HFR2.out.mono ?_
   rintro e W2 ⟨u, rfl, huc, hb2⟩
   obtain ⟨Au, cu, rfl, _⟩ := huc.rc
   have HOF2 := Lib.hid (HOF.out.below hb2)
   have hBB := HB.out.trans (hb2.mono hsz)
   have hsz2 := hBB.size
   have HBB := Lib.hid hBB
   have HU := Lib.hid (huc.base_ hsz)
   clear huc hBB
   by_cases hC : C = 0
   ·subst hC
    have hR := Lib.hid (HST.out rfl)
    go_wp2
    try go_ret2
    exact ⟨_, by rw [hR.out]; rfl, by rw [hR.out]; exact HOF2.out, HBB.out⟩
   ·exfalso
    omega
  ·have hck' : ¬ c = at_ := fun h => hck h.symm
   have hfr := HFR.out
   rw [if_neg hck'] at hfr
   have HFR2 := Lib.hid hfr
   clear hfr HFR
   go_wp2_with fail
   refine HFR2.out.mono ?_
   rintro e W2 ⟨u, rfl, huc, hb2⟩
   obtain ⟨Au, cu, rfl, _⟩ := huc.rc
   have HOF2 := Lib.hid (HOF.out.below hb2)
   have hBB := HB.out.trans (hb2.mono hsz)
   have hsz2 := hBB.size
   have HBB := Lib.hid hBB
   have HU := Lib.hid (huc.base_ hsz)
   clear huc hBB
   by_cases hC : C = 0
   ·subst hC
    have hR := Lib.hid (HST.out rfl)
    go_wp2
    try go_ret2
    exact ⟨_, by rw [hR.out]; rfl, by rw [hR.out]; exact HOF2.out, HBB.out⟩
   ·have hC0 : (0 : Int) < (C : Int) := by omega
    have hNX := Lib.hid (HNX.out hC)
    have hb6 := (Below.refl W2.heap.size W2).alloc (Nat.le_refl _) (Obj.cells #[.slice Au l.length cu] 34)
    have HBB6 := Lib.hid (HBB.out.trans (hb6.mono hsz2))
    have hsz6 := HBB6.out.size
    have HU6 := Lib.hid (HU.out.below (hb6.mono (Nat.le_refl _)))
    obtain ⟨us, hus, ho, hf⟩ := HOF2.out.below hb6
    have HUL := Lib.hid (show us.length = fs.length by rw [← hus, List.length_map])
    have HO := Lib.hid ho
    have HF := Lib.hid hf
    have HUS := Lib.hid hus
    clear ho hf hus
    have HSN := Lib.hid (src_one W2 Try.underlying65 34 (.slice Au l.length cu) rfl)
    go_wp2_with (at_builtin; refine wpList_own rfl (.tmp 22) (.tmp 24) 65 65 rfl w.heap.size 34 (.slice none 0 0) 1 24 Try.underlying65 info34 rfl rfl HO.out rfl HSN.out HBB6.out (Nat.le_refl _) ?_ ?_ ?_ ?_)
    ·have := HUL.out
     unfold maxLen
     omega
    ·have := HUL.out
     omega
    ·exact hsz6
    intro v5 w5 ho5 hb5 hg5
    have hrf := OF.push HO.out HF.out HU6.out ho5 hg5
    rw [HUS.out] at hrf
    have HRF := Lib.hid hrf
    have HB5 := Lib.hid hb5
    clear ho5 hg5 hrf hb5
    go_wp2_with fail
    go_step3
    refine ⟨rfl, ?_⟩
    have hcast : ((at_ : Nat) : Int) + (C : Int) = ((at_ + C : Nat) : Int) := by omega
    rw [hcast]
    exact ⟨fs ++ [l], at_ + C, v5, _, _, _, _, _, _, _, _, _, _, _, _, _, _, _, _, _, _, _, _, _, _, _, _, _, _, _, rfl, HRF.out, HB5.out, HNX.out hC, by rw [List.length_append, List.length_singleton]; omega⟩
 ·rintro _ W ⟨fs, at_, fv, u2, u3, u4, u5, u8, u9, u10, u11, u12, u13, u14, u15, u16, u17, u18, u19, u20, u21, u22, u23, u24, u25, u26, u27, u28, u29, u30, rfl, hof, hbel, hlf, hfl⟩
  have hat := hlf.1
  have hat' : ((at_ : Nat) : Int) ≤ (ss.length : Int) := by omega
  have hlc' : (ss.length : Int) ≤ (c : Int) := by omega
  obtain ⟨A1, c1, rfl, hcm1, hlc1⟩ := hof.shape
  have hfr := frameP_any ep fs.length (.slice (if c = at_ then A else Option.map (fun x => x.add at_) A) (ss.length - at_) (c - at_)) (ss.drop at_) W (rp_cut (rp_below HV.out hbel (Nat.le_refl _)) hat)
  have hfle := frame_le (epoch := ep) (num := fs.length) (ss := ss.drop at_)
  rw [List.length_drop] at hfle
  have hstop := hlf.stop
  have hnext := hlf.next
  generalize frameS ep fs.length (ss.drop at_) = r at *
  obtain ⟨l, C⟩ := r
  simp only at hstop hnext hfle
  have HFR := Lib.hid hfr
  have HOF := Lib.hid hof
  have HB := Lib.hid hbel
  have hsz := hbel.size
  have HST := Lib.hid hstop
  have HNX := Lib.hid hnext
  clear hfr hof hbel hlf hstop hnext
  by_cases hck : at_ = c
  ·subst hck
   have hfr := HFR.out
   rw [if_pos rfl, Nat.sub_self, show ss.length - at_ = 0 by omega] at hfr
   have HFR2 := Lib.hid hfr
   clear hfr HFR
   go_wp2_with fail
   refine HFR2.out.mono ?_
   rintro e W2 ⟨u, rfl, huc, hb2⟩
   obtain ⟨Au, cu, rfl, _⟩ := huc.rc
   have HOF2 := Lib.hid (HOF.out.below hb2)
   have hBB := HB.out.trans (hb2.mono hsz)
   have hsz2 := hBB.size
   have HBB := Lib.hid hBB
   have HU := Lib.hid (huc.base_ hsz)
   clear huc hBB
   by_cases hC : C = 0
   ·subst hC
    have hR := Lib.hid (HST.out rfl)
    go_wp2
    try go_ret2
    exact ⟨_, by rw [hR.out]; rfl, by rw [hR.out]; exact HOF2.out, HBB.out⟩
   ·exfalso
    omega
  ·have hck' : ¬ c = at_ := fun h => hck h.symm
   have hfr := HFR.out
   rw [if_neg hck'] at hfr
   have HFR2 := Lib.hid hfr
   clear hfr HFR
   go_wp2_with fail
   refine HFR2.out.mono ?_
   rintro e W2 ⟨u, rfl, huc, hb2⟩
   obtain ⟨Au, cu, rfl, _⟩ := huc.rc
   have HOF2 := Lib.hid (HOF.out.below hb2)
   have hBB := HB.out.trans (hb2.mono hsz)
   have hsz2 := hBB.size
   have HBB := Lib.hid hBB
   have HU := Lib.hid (huc.base_ hsz)
   clear huc hBB
   by_cases hC : C = 0
   ·subst hC
    have hR := Lib.hid (HST.out rfl)
    go_wp2
    try go_ret2
    exact ⟨_, by rw [hR.out]; rfl, by rw [hR.out]; exact HOF2.out, HBB.out⟩
   ·have hC0 : (0 : Int) < (C : Int) := by omega
    have hNX := Lib.hid (HNX.out hC)
    have hb6 := (Below.refl W2.heap.size W2).alloc (Nat.le_refl _) (Obj.cells #[.slice Au l.length cu] 34)
    have HBB6 := Lib.hid (HBB.out.trans (hb6.mono hsz2))
    have hsz6 := HBB6.out.size
    have HU6 := Lib.hid (HU.out.below (hb6.mono (Nat.le_refl _)))
    obtain ⟨us, hus, ho, hf⟩ := HOF2.out.below hb6
    have HUL := Lib.hid (show us.length = fs.length by rw [← hus, List.length_map])
    have HO := Lib.hid ho
    have HF := Lib.hid hf
    have HUS := Lib.hid hus
    clear ho hf hus
    have HSN := Lib.hid (src_one W2 Try.underlying65 34 (.slice Au l.length cu) rfl)
    go_wp2_with (at_builtin; refine wpList_own rfl (.tmp 22) (.tmp 24) 65 65 rfl w.heap.size 34 (.slice none 0 0) 1 24 Try.underlying65 info34 rfl rfl HO.out rfl HSN.out HBB6.out (Nat.le_refl _) ?_ ?_ ?_ ?_)
    ·have := HUL.out
     unfold maxLen
     omega
    ·have := HUL.out
     omega
    ·exact hsz6
    intro v5 w5 ho5 hb5 hg5
    have hrf := OF.push HO.out HF.out HU6.out ho5 hg5
    rw [HUS.out] at hrf
    have HRF := Lib.hid hrf
    have HB5 := Lib.hid hb5
    clear ho5 hg5 hrf hb5
    go_wp2_with fail
    go_step3
    refine ⟨rfl, ?_⟩
    have hcast : ((at_ : Nat) : Int) + (C : Int) = ((at_ + C : Nat) : Int) := by omega
    rw [hcast]
    refine ⟨⟨fs ++ [l], at_ + C, v5, _, _, _, _, _, _, _, _, _, _, _, _, _, _, _, _, _, _, _, _, _, _, _, _, _, _, _, rfl, HRF.out, HB5.out, HNX.out hC, by rw [List.length_append, List.length_singleton]; omega⟩, ?_⟩
    simp [left7, intOf]
    omega
end Go.Proofs.Ytmbkaedhllfoeaa
