/-
 Changes as literals, whose bytes are made on the spot.; The contracts of a device and of a store that lie apart from given blocks: these stay.; Plain mathematics of StoreFull: rows of the same size, and one less. No program.; The walk of StoreAgain: it answers true of any number, deeds, numbers and marks that no machine has trouble with.; The walk of StoreForms: it answers true of any numbers and choices.
-/
import Derived.Test.YtmbkaedhllfoeaaKJB
import Derived.Test.YtmbkaedhllfoeaaKJI
import Derived.Test.YtmbkaedhllfoeaaKJCC
import Derived.Test.YtmbkaedhllfoeaaKJDC
import Derived.Test.YtmbkaedhllfoeaaKJEI
set_option linter.unusedVariables false
namespace Go.Proofs.Ytmbkaedhllfoeaa
open Go.RowKit Go.Rst Go.Dv Go.Crc Go.Str Go.Pg
theorem fb_one_ {W w : World} {p b0 : Nat} (hp : p ≤ 255) (hb : b0 ≤ W.heap.size) (h : w = W.alloc (.cells #[.int .u8 (p : Int)] 5) ∨ w = (W.alloc (.cells #[.int .u8 (p : Int)] 5)).drew) :
  FB 5 w b0 (.slice (some ⟨W.heap.size, 0, none⟩) 1 1) [UInt8.ofNat p] := by
 rcases h with rfl | rfl
 ·exact fb_lit1 hb hp
 ·exact FB.drew (fb_lit1 hb hp)
theorem oc_drew {w : World} {b0 : Nat} {v : Value} {cs : List Chg} (h : OC 5 33 w b0 v cs) : OC 5 33 w.drew b0 v cs := h.below (Below.refl _ _).drew
theorem oc_lit_ {W w : World} {b0 : Nat} {k : ByteArray} {u : Value} {l : List UInt8} {g : Bool} (hu : FB 5 W b0 u l) (hb : b0 ≤ W.heap.size) (h : w = W.alloc (.cells #[.string k, u, .bool g] 33) ∨ w = (W.alloc (.cells #[.string k, u, .bool g] 33)).drew) :
  OC 5 33 w b0 (.slice (some ⟨W.heap.size, 0, none⟩) 1 1) [(k, l, g)] := by
 rcases h with rfl | rfl
 ·exact oc_lit1 hu hb
 ·exact oc_drew (oc_lit1 hu hb)
end Go.Proofs.Ytmbkaedhllfoeaa
namespace Go.Proofs.Ytmbkaedhllfoeaa
open Go.RowKit Go.Rst Go.Dv Go.Crc Go.Str Go.Pg
def OwnX (P : Nat → Prop) (B : Nat) (w : World) (v : Value) (s : Sim) : Prop := ∃ D : Nat → Prop, Dev D w v s ∧ (∀ k, D k → B ≤ k ∧ ¬ P k) ∧ B ≤ w.heap.size ∧ ∀ k, P k → k < w.heap.size
def OwnSX (P : Nat → Prop) (B dg : Nat) (w : World) (sv : Value) (x : Ss) : Prop := ∃ M : Nat → Prop, Sto dg M w sv x ∧ (∀ k, M k → B ≤ k ∧ ¬ P k) ∧ B ≤ w.heap.size ∧ ∀ k, P k → k < w.heap.size
structure Stay (P : Nat → Prop) (B : Nat) (w w' : World) : Prop where
 bel : Below B w w'
 same : ∀ k, P k → w'.heap[k]? = w.heap[k]?
section
variable {P P' : Nat → Prop} {B dg : Nat} {w w' w0 : World} {sv v : Value} {x : Ss} {s : Sim}
theorem Stay.trans_ {a : World} (h : Stay P B a w) (k : Stay P B w w') : Stay P B a w' := ⟨h.bel.trans k.bel, fun j hj => (k.same j hj).trans (h.same j hj)⟩
theorem Stay.of_below (h : Below w.heap.size w w') (hB : B ≤ w.heap.size) (hP : ∀ k, P k → k < w.heap.size) : Stay P B w w' := ⟨h.mono hB, fun k hk => h.block k (hP k hk)⟩
theorem OwnX.below (h : OwnX P B w v s) (hb : Below w.heap.size w w') : OwnX P B w' v s := by
 obtain ⟨D, h1, h2, h3, h4⟩ := h
 exact ⟨D, h1.below hb, h2, Nat.le_trans h3 hb.size, fun k hk => Nat.lt_of_lt_of_le (h4 k hk) hb.size⟩
theorem OwnSX.below (h : OwnSX P B dg w sv x) (hb : Below w.heap.size w w') : OwnSX P B dg w' sv x := by
 obtain ⟨D, h1, h2, h3, h4⟩ := h
 exact ⟨D, h1.below hb, h2, Nat.le_trans h3 hb.size, fun k hk => Nat.lt_of_lt_of_le (h4 k hk) hb.size⟩
theorem OwnSX.own (h : OwnSX P B dg w sv x) : OwnS B dg w sv x := by
 obtain ⟨M, h1, h2, h3, h4⟩ := h
 exact ⟨M, h1, fun k hk => (h2 k hk).1, h3⟩
theorem OwnSX.dev (h : OwnSX P B dg w sv x) : OwnX P B w (dp dg) x.d := by
 obtain ⟨M, ⟨D, R, g, rv, _, h1⟩, h2, h3⟩ := h
 exact ⟨D, h1.dev, fun k hk => h2 k ((h1.hM k).2 (.inl hk)), h3⟩
theorem OwnSX.more (h : OwnSX P B dg w sv x) (hb : Below w.heap.size w w') (hP : ∀ k, P' k → P k ∨ (w.heap.size ≤ k ∧ k < w'.heap.size)) : OwnSX P' B dg w' sv x := by
 obtain ⟨M, h1, h2, h3, h4⟩ := h
 refine ⟨M, h1.below hb, fun k hk => ⟨(h2 k hk).1, fun hp => ?_⟩, Nat.le_trans h3 hb.size, fun k hk => ?_⟩
 ·rcases hP k hp with h | h
  ·exact (h2 k hk).2 h
  ·have := h1.lt k hk; omega
 ·rcases hP k hk with h | h
  ·have := h4 k h; have := hb.size; omega
  ·exact h.2
theorem OwnX.more (h : OwnX P B w v s) (hb : Below w.heap.size w w') (hP : ∀ k, P' k → P k ∨ (w.heap.size ≤ k ∧ k < w'.heap.size)) : OwnX P' B w' v s := by
 obtain ⟨M, h1, h2, h3, h4⟩ := h
 refine ⟨M, h1.below hb, fun k hk => ⟨(h2 k hk).1, fun hp => ?_⟩, Nat.le_trans h3 hb.size, fun k hk => ?_⟩
 ·rcases hP k hp with h | h
  ·exact (h2 k hk).2 h
  ·have := h1.lt k hk; omega
 ·rcases hP k hk with h | h
  ·have := h4 k h; have := hb.size; omega
  ·exact h.2
end
end Go.Proofs.Ytmbkaedhllfoeaa
namespace Go.Proofs.Ytmbkaedhllfoeaa
open Go.RowKit Go.Rst Go.Dv Go.Crc Go.Str Go.Pg
theorem fit_few {n : Nat} {l : List Rw} (hs : Sorted l) (hn : l.length ≤ 40) (hr : ∀ r ∈ l, r.1.size ≤ 2 ∧ r.2.length ≤ 150) : fitB n l = decide (pgs l ≤ aN n) := by
 obtain ⟨ps, h1, h2, _⟩ := build_two hs hn hr
 unfold fitB
 rw [h1]
 simp only
 rw [h2]
def keyN (i : Nat) : ByteArray := ⟨#[UInt8.ofNat (97 + i % 26), UInt8.ofNat (97 + i / 26)]⟩
theorem keyN_inj {i j : Nat} (hi : i < 40) (hj : j < 40) (h : keyN i = keyN j) : i = j := by
 unfold keyN at h
 injection h with h
 have h1 := congrArg (fun a : Array UInt8 => (a.getD 0 0).toNat) h
 have h2 := congrArg (fun a : Array UInt8 => (a.getD 1 0).toNat) h
 simp at h1 h2
 omega
theorem keyN_size (i : Nat) : (keyN i).size = 2 := rfl
def RowsV (V j : Nat) (rs : List Rw) : Prop := Sorted rs ∧ ∀ r ∈ rs, (∃ i, i < j ∧ r.1 = keyN i) ∧ r.2 = List.replicate V 0
theorem rsz_v {V : Nat} {r : Rw} {i : Nat} (hV : V ≤ 149) (h1 : r.1 = keyN i) (h2 : r.2 = List.replicate V 0) : rsz r = 5 + (numL V).length + V - 1 := by
 have hs : r.1.data.toList.length = 2 := by rw [h1]; rfl
 have hn : (numL 2).length = 1 := by decide +kernel
 have hp := numL_pos V
 unfold rsz rowB rowL textL
 simp only [List.length_append]
 rw [hs, hn, h2, List.length_replicate]
 omega
theorem RowsV.same {V j : Nat} {rs : List Rw} (h : RowsV V j rs) (hV : V ≤ 149) : ∀ r ∈ rs, r.1.size ≤ 30 ∧ r.2.length ≤ 150 ∧ rsz r = 5 + (numL V).length + V - 1 := by
 intro r hr
 obtain ⟨⟨i, _, h1⟩, h2⟩ := h.2 r hr
 refine ⟨by rw [h1, keyN_size]; omega, by rw [h2, List.length_replicate]; omega, rsz_v hV h1 h2⟩
theorem RowsV.few {V j : Nat} {rs : List Rw} (h : RowsV V j rs) (hV : V ≤ 149) : ∀ r ∈ rs, r.1.size ≤ 2 ∧ r.2.length ≤ 150 := by
 intro r hr
 obtain ⟨⟨i, _, h1⟩, h2⟩ := h.2 r hr
 exact ⟨by rw [h1, keyN_size]; exact Nat.le_refl _, by rw [h2, List.length_replicate]; omega⟩
theorem RowsV.new {V j : Nat} {rs : List Rw} (h : RowsV V j rs) (hj : j < 40) : hasL (keyN j) rs = false := by
 cases hh : hasL (keyN j) rs with
 | false => rfl
 | true =>
  exfalso
  unfold hasL at hh
  split at hh
  ·rename_i y e
   have hy : y ∈ rs := List.mem_of_getElem? e
   obtain ⟨⟨i, hi, h1⟩, _⟩ := h.2 y hy
   have h2 : y.1 = keyN j := ba_ext (eq_of_beq hh)
   rw [h1] at h2
   have := keyN_inj (by omega) hj h2
   omega
  ·cases hh
theorem RowsV.put {V j : Nat} {rs : List Rw} (h : RowsV V j rs) (hj : j < 40) : RowsV V (j + 1) (stepL rs (keyN j, List.replicate V 0, false)) ∧ (stepL rs (keyN j, List.replicate V 0, false)).length = rs.length + 1 := by
 have hn := h.new hj
 have hp := posL_le (keyN j) rs
 refine ⟨⟨stepL_sorted h.1, fun r hr => ?_⟩, ?_⟩
 ·rw [step_ins h.1 hn] at hr
  rcases List.mem_append.1 hr with hr | hr
  ·obtain ⟨⟨i, hi, h1⟩, h2⟩ := h.2 r (List.mem_of_mem_take hr)
   exact ⟨⟨i, by omega, h1⟩, h2⟩
  ·rcases List.mem_cons.1 hr with rfl | hr
   ·exact ⟨⟨j, by omega, rfl⟩, rfl⟩
   ·obtain ⟨⟨i, hi, h1⟩, h2⟩ := h.2 r (List.mem_of_mem_drop hr)
    exact ⟨⟨i, by omega, h1⟩, h2⟩
 ·rw [step_ins h.1 hn, List.length_append, List.length_cons, List.length_take, List.length_drop]
  omega
theorem RowsV.more {V j j' : Nat} {rs : List Rw} (h : RowsV V j rs) (hj : j ≤ j') : RowsV V j' rs := ⟨h.1, fun r hr => by
 obtain ⟨⟨i, hi, h1⟩, h2⟩ := h.2 r hr
 exact ⟨⟨i, by omega, h1⟩, h2⟩⟩
theorem RowsV.less {V j n : Nat} {r : Rw} {rs : List Rw} (h : RowsV V j (r :: rs)) (hV : V ≤ 149) (hV2 : 100 ≤ V) (hl : (r :: rs).length ≤ 40) (hf : fitB n (r :: rs) = true) : RowsV V j rs ∧ fitB n rs = true := by
 have h' : RowsV V j rs := ⟨(List.pairwise_cons.1 h.1).2, fun y hy => h.2 y (List.mem_cons_of_mem _ hy)⟩
 refine ⟨h', ?_⟩
 rw [fit_few h.1 hl (h.few hV), decide_eq_true_eq] at hf
 rw [fit_few h'.1 (by rw [List.length_cons] at hl; omega) (h'.few hV), decide_eq_true_eq]
 have hnl := numL_len 1 V (by omega)
 have hp := numL_pos V
 exact Nat.le_trans (pgs_less (by omega) (by omega) (by rw [List.length_cons]; omega) (h.same hV) (h'.same hV)) hf
end Go.Proofs.Ytmbkaedhllfoeaa
namespace Go.Proofs.Ytmbkaedhllfoeaa
open Go.RowKit Go.Rst Go.Dv Go.Crc Go.Str Go.Pg
theorem putS_fuse {x : Ss} {cs : List Chg} (h : x.d.fuse = none) : (putS x cs).d.fuse = none := flush_fuse (writeL_fuse h _ _ _)
theorem ckS_fuse {x : Ss} (h : x.d.fuse = none) : (ckS x).d.fuse = none := layS_fuse h _ _ _
theorem commit_fuse {x : Ss} (cs : List Chg) (h : x.d.fuse = none) : (commitR x cs).1.d.fuse = none := by
 unfold commitR
 split
 ·exact h
 ·split
  ·exact h
  ·split
   ·exact h
   ·split
    ·exact h
    ·split
     ·exact putS_fuse h
     ·split
      ·exact h
      ·exact putS_fuse (ckS_fuse h)
end Go.Proofs.Ytmbkaedhllfoeaa
namespace Go.Proofs.Ytmbkaedhllfoeaa
open Go.RowKit Go.Rst Go.Dv Go.Crc Go.Str Go.Pg
theorem sb_one {w W : World} (h : Below w.heap.size w W) : SB [w] W := fun x hx => by
 obtain rfl : x = w := by simpa using hx
 exact h
def key16 (c : Nat) : ByteArray := ⟨#[UInt8.ofNat (97 + c % 16)]⟩
theorem key16_size (c : Nat) : (key16 c).size = 1 := rfl
theorem one_reads (c : Nat) {v : List UInt8} (hv : v.length ≤ 150) (g : Bool) (hg : g = true → v = []) : readChgs (chgsL [(key16 c, v, g)]) = ([(key16 c, v, g)], 0) := by
 refine readChgs_back _ (by simp) (fun x hx => ?_)
 simp only [List.mem_singleton] at hx
 subst hx
 exact ⟨by show (key16 c).data.toList.length ≤ 30; rw [size_list, key16_size]; omega, by show v.length ≤ 150; exact hv, hg⟩
theorem one_sizes (c : Nat) {v : List UInt8} (hv : v.length ≤ 150) (g : Bool) : sizesC [(key16 c, v, g)] ≤ 90000 := by
 simp only [sizesC, List.map_cons, List.map_nil, List.sum_cons, List.sum_nil, key16_size]
 omega
structure DevI (n : Nat) (s : Sim) : Prop where
 ok : OK s
 fu : s.fuse = none
 lo : s.loose = []
 n : s.firm.length = n
structure FmI (n j : Nat) (x : Ss) : Prop where
 inv : InvS x
 n : x.n = n
 fu : x.d.fuse = none
 ep : x.ep ≤ 2 + j
theorem FmI.step {n j : Nat} {x : Ss} (h : FmI n j x) (c : Nat) {v : List UInt8} (hv : v.length ≤ 150) : FmI n (j + 1) (commitR x [(key16 c, v, false)]).1 := by
 obtain ⟨s1, s2, s3, _⟩ := commit_step (cs := [(key16 c, v, false)]) h.inv (fun _ => one_reads c hv false (by simp))
 exact ⟨s1, s2.trans h.n, commit_fuse _ h.fu, by have := h.ep; omega⟩
theorem FmI.dev {n j : Nat} {x : Ss} (h : FmI n j x) : DevI n x.d := ⟨h.inv.good.ok, h.fu, (h.inv.live (goes_none h.fu)).1, h.n⟩
theorem DevI.opened {n : Nat} {s : Sim} (h : DevI n s) (hn : 64 ≤ n) : openR (formatS s) = (0, openedS s) ∧ FmI n 0 (openedS s) ∧ (formatS s).loose = [] ∧ 64 ≤ (formatS s).firm.length ∧ (openedS s).ep = 2 ∧ (openedS s).rows = [] ∧ (openedS s).us = 0 := by
 obtain ⟨o1, o2, o3, o4, o5, o6⟩ := open_format h.ok h.fu h.lo (by rw [h.n]; exact hn)
 exact ⟨o1, ⟨o2, o4.trans h.n, o3, Nat.le_refl _⟩, o5, o6, rfl, rfl, rfl⟩
set_option maxRecDepth 100000 in
set_option maxHeartbeats 6000000 in
theorem forms_walk (k : Nat) (cv : Value) (l : List UInt8) (n : Nat) (w : World) (hk : k ≤ 255) (hc : RB w cv l) (hcl : l.length ≤ 140737488351232) (hn : n ≤ 255) :
  Calls Try.prog 4 #[.int .u8 (k : Int), cv, .int .u8 (n : Int)] w fun e w' => e = .returned (.bool true) ∧ Below w.heap.size w w' := by
 obtain ⟨A, c, rfl⟩ := rb_shape hc
 have HKN := Lib.hid knownS_any
 have HSZ := Lib.hid (sizeN_in k)
 have HC := Lib.hid hc
 obtain ⟨N, hN⟩ : ∃ N, N = n % 64 := ⟨_, rfl⟩
 have hmn : (n : Int).tmod 64 = (N : Int) := by rw [Int.tmod_eq_emod_of_nonneg (by omega)]; omega
 have hN64 : N < 64 := by omega
 have hNw : IntKind.i64.wrap (N : Int) = (N : Int) := by rw [IntKind.wrap_i64]; omega
 clear hN hc
 go_enter Try.func4, Try.ntmps4
 go_wp2_with fail
 go_at_call 16
 refine (size_any k hk _).mono ?_
 rintro e w1 ⟨rfl, hb1⟩
 obtain ⟨Z, hZ⟩ : ∃ Z, Z = sizeN k := ⟨_, rfl⟩
 rw [← hZ] at HSZ ⊢
 have HB1 := Lib.hid hb1
 have HNEW := Lib.hid (own_new (B := w.heap.size) Z w1 (by have := HSZ.out.2; omega) hb1.size)
 clear hZ hb1
 go_wp2_with fail
 go_at_call 6
 refine HNEW.out.mono ?_
 rintro e w2 ⟨dg, rfl, hown, hb2⟩
 have HO2 := Lib.hid hown
 have HB2 := Lib.hid (HB1.out.trans hb2)
 clear hown hb2
 by_cases hl1 : 60 < l.length
 ·have hl2 : (60 : Int) < (l.length : Int) := by omega
  go_wp2_with fail
  go_at_call 8
  refine (HKN.out _).mono ?_
  rintro e wk ⟨rfl, hbk⟩
  have HBK := Lib.hid (HB2.out.trans (hbk.mono HB2.out.size))
  clear hbk
  go_wp2
  go_ret
  exact ⟨rfl, HBK.out⟩
 have hl2 : ¬ (60 : Int) < (l.length : Int) := by omega
 have HL1 := Lib.hid (show l.length ≤ 60 by omega)
 clear hl1
 go_wp2_with fail
 go_loopw [8] (fun i wr => ∃ (j : Nat) (s : Sim), j ≤ 2 ∧ i = .int .i64 j ∧ DevI Z s ∧ Dv.Own w.heap.size wr (dp dg) s ∧ Below w.heap.size w wr) (fun i _ => 2 - (intOf i).toNat)
 case atStart => exact ⟨0, Sim.new Z, Nat.zero_le _, rfl, ⟨OK.new (by have := HSZ.out.2; omega), rfl, rfl, new_firm _⟩, HO2.out, HB2.out⟩
 case round =>
  obtain ⟨i, s, hi, rfl, hdi, hown, hbw⟩ := hrel
  have HIw := Lib.hid hdi
  have HOw := Lib.hid hown
  have HBw := Lib.hid hbw
  clear hdi hown hbw
  by_cases hlt : i < 2
  ·have hlt2 : (i : Int) < 2 := by omega
   obtain ⟨o1, o2, o3, o4, o5, o6, o7⟩ := HIw.out.opened HSZ.out.1
   have HF := Lib.hid (own_formatS HOw.out (by rw [HIw.out.n]; exact HSZ.out.1) (by rw [HIw.out.lo]; exact Nat.zero_le _))
   obtain ⟨Q, hQ⟩ : ∃ Q, Q = formatS s := ⟨_, rfl⟩
   obtain ⟨Y, hY⟩ : ∃ Y, Y = openedS s := ⟨_, rfl⟩
   rw [← hQ] at o1 o3 o4 HF
   rw [← hY] at o1 o2 o5 o6 o7
   have HO1 := Lib.hid o1
   have HI := Lib.hid o2
   have HO5 := Lib.hid o3
   have HO6 := Lib.hid o4
   have HEP := Lib.hid o5
   have HRW := Lib.hid o6
   have HUS := Lib.hid o7
   clear o1 o2 o3 o4 o5 o6 o7 hQ hY
   go_wp2_with fail
   go_at_call 7
   refine HF.out.mono ?_
   rintro e w3 ⟨rfl, hown3, hb3⟩
   have HB3 := Lib.hid (HBw.out.trans hb3)
   have HOP := Lib.hid (own_openOk hown3 HO6.out HO5.out HO1.out)
   clear hown3 hb3
   go_wp2_with fail
   go_at_call 9
   refine HOP.out.mono ?_
   rintro e w4 ⟨sv, rfl, hst, hb4⟩
   have HB4 := Lib.hid (HB3.out.trans hb4)
   obtain ⟨g, rfl⟩ := hst.ptr
   have HST := Lib.hid hst
   clear hst hb4
   have hrw := own_rowsS HST.out HI.out.inv.good
   rw [HRW.out] at hrw
   have HRWS := Lib.hid hrw
   clear hrw
   go_wp2_with fail
   go_at_call 14
   refine HRWS.out.mono ?_
   rintro e w5 ⟨rv, rfl, hor, hb5⟩
   obtain ⟨A5, c5, rfl⟩ := or_shape hor
   have HS5 := Lib.hid (HST.out.below hb5)
   have HB5 := Lib.hid (HB4.out.trans (hb5.mono HB4.out.size))
   have he := own_epochS HS5.out
   rw [HEP.out] at he
   have HE := Lib.hid he
   have hu := own_usedS HS5.out
   rw [HUS.out] at hu
   have HU := Lib.hid hu
   clear hor hb5 he hu
   go_wp2_with fail
   go_at_call 11
   refine HE.out.mono ?_
   rintro e w6 ⟨rfl, rfl⟩
   go_wp2_with fail
   go_at_call 13
   refine HU.out.mono ?_
   rintro e w6 ⟨rfl, rfl⟩
   go_wp2_with fail
   go_loopw [11] (fun q wr => ∃ (j : Nat) (x : Ss), j ≤ l.length ∧ q = .int .i64 j ∧ FmI Z j x ∧ OwnS w.heap.size dg wr (.pointer (some ⟨g, 0, none⟩)) x ∧ Below w.heap.size w wr) (fun q _ => l.length - (intOf q).toNat)
   case atStart => exact ⟨0, Y, Nat.zero_le _, rfl, HI.out, HS5.out, HB5.out⟩
   case round =>
    obtain ⟨j, x, hj, rfl, hfi, hS, hbx⟩ := hrel
    have HIx := Lib.hid hfi
    have HSx := Lib.hid hS
    have HBx := Lib.hid hbx
    clear hfi hS hbx
    by_cases hlj : j < l.length
    ·have hlj2 : (j : Int) < (l.length : Int) := by omega
     obtain ⟨b, off, hA, hbs, hcell⟩ := rb_cell HC.out hlj
     subst hA
     have hz255 : l[j].toNat ≤ 255 := by have := UInt8.toNat_lt l[j]; omega
     have hb5 : UInt8.ofNat l[j].toNat = l[j] := UInt8.ofNat_toNat
     unfold bv at hcell
     generalize l[j].toNat = z at hcell hz255 hb5
     obtain ⟨f, hf⟩ : ∃ f, f = z % 16 := ⟨_, rfl⟩
     obtain ⟨F, hF⟩ : ∃ F, F = 97 + f := ⟨_, rfl⟩
     have m1 : (z : Int).tmod 16 = (f : Int) := by rw [Int.tmod_eq_emod_of_nonneg (by omega)]; omega
     have m2 : IntKind.u8.wrap (f : Int) = (f : Int) := by rw [IntKind.wrap_u8]; omega
     have m3 : IntKind.u8.wrap (97 + (f : Int)) = (F : Int) := by rw [IntKind.wrap_u8]; omega
     have hF255 : F ≤ 255 := by omega
     have hkey : key16 z = ⟨#[UInt8.ofNat F]⟩ := by unfold key16; rw [hF, hf]
     have HKEY := Lib.hid hkey
     have hf16 : f < 16 := by omega
     clear hf hF hkey
     go_wp2_with fail
     have ho0 := Below.refl wr.heap.size wr
     refine wp_region_held_drew (S := SB [w]) (by kernel_rfl) (sb_one HBx.out.drew) (fun hHeld => ?_)
     refine wpAnyH_take (i := 0) (oi := { dst := some 62, op := Op.move (Operand.tmp 9), type := 29, pos := "late.go:24", after := #[], guard := none }) (v := ?_) rfl (by kernel_rfl) (by kernel_rfl) (by kernel_rfl) (fun _ _ _ h => h) (Or.inl ⟨by rfl, ?_⟩) (by assumption) ?_
     rotate_left
     ·intro W hSw; go_simp; try (with_reducible rfl)
     try simp only [Act.put, List.setIfInBounds_toArray, List.set_cons_zero, List.set_cons_succ]
     refine wpAnyH_take (i := 1) (oi := { dst := some 63, op := Op.move (Operand.tmp 1), type := 22, pos := "late.go:24", after := #[], guard := none }) (v := ?_) rfl (by kernel_rfl) (by kernel_rfl) (by kernel_rfl) (fun _ _ _ h => h) (Or.inl ⟨by rfl, ?_⟩) (by assumption) ?_
     rotate_left
     ·intro W hSw; go_simp; try (with_reducible rfl)
     try simp only [Act.put, List.setIfInBounds_toArray, List.set_cons_zero, List.set_cons_succ]
     refine wpAnyH_take (i := 2) (oi := { dst := some 64, op := Op.move (Operand.tmp 11), type := 3, pos := "late.go:24", after := #[], guard := none }) (v := ?_) rfl (by kernel_rfl) (by kernel_rfl) (by kernel_rfl) (fun _ _ _ h => h) (Or.inl ⟨by rfl, ?_⟩) (by assumption) ?_
     rotate_left
     ·intro W hSw; go_simp; try (with_reducible rfl)
     try simp only [Act.put, List.setIfInBounds_toArray, List.set_cons_zero, List.set_cons_succ]
     refine wpAnyH_take (i := 3) (oi := { dst := some 65, op := Op.indexAddr 22 (Operand.tmp 63) (Operand.tmp 64), type := 0, pos := "late.go:24", after := #[{ on := 1, ground := Ground.data }, { on := 2, ground := Ground.data }], guard := none }) (v := ?_) rfl (by kernel_rfl) (by kernel_rfl) (by kernel_rfl) (fun _ _ _ h => h) (Or.inl ⟨by rfl, ?_⟩) (by assumption) ?_
     rotate_left
     ·intro W hSw; go_simp; try (with_reducible rfl)
     try simp only [Act.put, List.setIfInBounds_toArray, List.set_cons_zero, List.set_cons_succ]
     refine wpAnyH_take (i := 4) (oi := { dst := some 66, op := Op.load 5 (Operand.tmp 65), type := 5, pos := "late.go:24", after := #[{ on := 3, ground := Ground.data }], guard := none }) (v := ?_) rfl (by kernel_rfl) (by kernel_rfl) (by kernel_rfl) (fun _ _ _ h => h) (Or.inl ⟨by rfl, ?_⟩) (by assumption) ?_
     rotate_left
     ·intro W hSw; have hq := (((SB.b0 hSw)).cell (p := ⟨b, off + j, none⟩) hbs).trans hcell; go_simp; try (with_reducible rfl)
     try simp only [Act.put, List.setIfInBounds_toArray, List.set_cons_zero, List.set_cons_succ]
     refine wpAnyH_take (i := 5) (oi := { dst := some 67, op := Op.binOp BinOp.rem 5 (Operand.tmp 66) (Operand.const (Value.int IntKind.u8 16)) 5, type := 5, pos := "late.go:24", after := #[{ on := 4, ground := Ground.data }], guard := none }) (v := ?_) rfl (by kernel_rfl) (by kernel_rfl) (by kernel_rfl) (fun _ _ _ h => h) (Or.inl ⟨by rfl, ?_⟩) (by assumption) ?_
     rotate_left
     ·intro W hSw; go_simp; try (with_reducible rfl)
     try simp only [Act.put, List.setIfInBounds_toArray, List.set_cons_zero, List.set_cons_succ]
     refine wpAnyH_take (i := 6) (oi := { dst := some 68, op := Op.binOp BinOp.add 5 (Operand.const (Value.int IntKind.u8 97)) (Operand.tmp 67) 5, type := 5, pos := "late.go:24", after := #[{ on := 5, ground := Ground.data }], guard := none }) (v := ?_) rfl (by kernel_rfl) (by kernel_rfl) (by kernel_rfl) (fun _ _ _ h => h) (Or.inl ⟨by rfl, ?_⟩) (by assumption) ?_
     rotate_left
     ·intro W hSw; go_simp; try (with_reducible rfl)
     try simp only [Act.put, List.setIfInBounds_toArray, List.set_cons_zero, List.set_cons_succ]
     refine wpAnyH_take (i := 9) (oi := { dst := some 71, op := Op.move (Operand.tmp 1), type := 22, pos := "late.go:24", after := #[], guard := none }) (v := ?_) rfl (by kernel_rfl) (by kernel_rfl) (by kernel_rfl) (fun _ _ _ h => h) (Or.inl ⟨by rfl, ?_⟩) (by assumption) ?_
     rotate_left
     ·intro W hSw; go_simp; try (with_reducible rfl)
     try simp only [Act.put, List.setIfInBounds_toArray, List.set_cons_zero, List.set_cons_succ]
     refine wpAnyH_take (i := 10) (oi := { dst := some 72, op := Op.move (Operand.tmp 11), type := 3, pos := "late.go:24", after := #[], guard := none }) (v := ?_) rfl (by kernel_rfl) (by kernel_rfl) (by kernel_rfl) (fun _ _ _ h => h) (Or.inl ⟨by rfl, ?_⟩) (by assumption) ?_
     rotate_left
     ·intro W hSw; go_simp; try (with_reducible rfl)
     try simp only [Act.put, List.setIfInBounds_toArray, List.set_cons_zero, List.set_cons_succ]
     refine wpAnyH_take (i := 11) (oi := { dst := some 73, op := Op.indexAddr 22 (Operand.tmp 71) (Operand.tmp 72), type := 0, pos := "late.go:24", after := #[{ on := 9, ground := Ground.data }, { on := 10, ground := Ground.data }], guard := none }) (v := ?_) rfl (by kernel_rfl) (by kernel_rfl) (by kernel_rfl) (fun _ _ _ h => h) (Or.inl ⟨by rfl, ?_⟩) (by assumption) ?_
     rotate_left
     ·intro W hSw; go_simp; try (with_reducible rfl)
     try simp only [Act.put, List.setIfInBounds_toArray, List.set_cons_zero, List.set_cons_succ]
     refine wpAnyH_take (i := 12) (oi := { dst := some 74, op := Op.load 5 (Operand.tmp 73), type := 5, pos := "late.go:24", after := #[{ on := 11, ground := Ground.data }], guard := none }) (v := ?_) rfl (by kernel_rfl) (by kernel_rfl) (by kernel_rfl) (fun _ _ _ h => h) (Or.inl ⟨by rfl, ?_⟩) (by assumption) ?_
     rotate_left
     ·intro W hSw; have hq := (((SB.b0 hSw)).cell (p := ⟨b, off + j, none⟩) hbs).trans hcell; go_simp; try (with_reducible rfl)
     try simp only [Act.put, List.setIfInBounds_toArray, List.set_cons_zero, List.set_cons_succ]
     refine wpAnyH_ready (rs := [7, 13]) (by kernel_rfl) (by simp) ?_
     refine AllReadyH.cons (o := { dst := some 69, op := Op.buildSlice 22 1 #[(0, Operand.tmp 68)], type := 22, pos := "late.go:24", after := #[{ on := 6, ground := Ground.data }], guard := none }) rfl (fun K hK => ?_) (AllReadyH.cons (o := { dst := some 75, op := Op.buildSlice 22 1 #[(0, Operand.tmp 74)], type := 22, pos := "late.go:24", after := #[{ on := 12, ground := Ground.data }], guard := none }) rfl (fun K hK => ?_) AllReadyH.nil)
     ·go_simp
      first | refine gen_allocD ?_ | refine gen_alloc ?_
      intro w8 hw8 hbw8
      have how8 := ho0.trans (hbw8.mono ho0.size)
      have hxw8 := HBx.out.trans (how8.mono HBx.out.size)
      have hk := fb_one_ (b0 := wr.heap.size) hF255 ho0.size (by first | exact .inl hw8 | exact .inr hw8)
      clear hw8
      try (go_wp2_with fail)
      refine hK.out _ _ ?_ (fun hHeld => ?_)
      ·exact sb_one hxw8
      clear hK K
      try simp only [Act.put, List.setIfInBounds_toArray, List.set_cons_zero, List.set_cons_succ]
      refine wpAnyH_ready (rs := [8, 13]) (by kernel_rfl) (by simp) ?_
      refine AllReadyH.cons (o := { dst := some 70, op := Op.convert 22 9 (Operand.tmp 69), type := 9, pos := "late.go:24", after := #[{ on := 7, ground := Ground.data }], guard := none }) rfl (fun K hK => ?_) (AllReadyH.cons (o := { dst := some 75, op := Op.buildSlice 22 1 #[(0, Operand.tmp 74)], type := 22, pos := "late.go:24", after := #[{ on := 12, ground := Ground.data }], guard := none }) rfl (fun K hK => ?_) AllReadyH.nil)
      ·have hq := str22 hk.rb
       go_simp
       refine hK.out _ _ ?_ (fun _ => ?_)
       ·exact hHeld
       clear hK K
       try simp only [Act.put, List.setIfInBounds_toArray, List.set_cons_zero, List.set_cons_succ]
       refine wpAnyH_ready (rs := [13]) (by kernel_rfl) (by simp) ?_
       refine AllReadyH.cons (o := { dst := some 75, op := Op.buildSlice 22 1 #[(0, Operand.tmp 74)], type := 22, pos := "late.go:24", after := #[{ on := 12, ground := Ground.data }], guard := none }) rfl (fun K hK => ?_) AllReadyH.nil
       go_simp
       first | refine gen_allocD ?_ | refine gen_alloc ?_
       intro w9 hw9 hbw9
       have how9 := how8.trans (hbw9.mono how8.size)
       have hxw9 := HBx.out.trans (how9.mono HBx.out.size)
       have hv := fb_one_ (b0 := wr.heap.size) hz255 how8.size (by first | exact .inl hw9 | exact .inr hw9)
       have hk := hk.below hbw9
       clear hw9
       try (go_wp2_with fail)
       refine hK.out _ _ ?_ (fun hHeld => ?_)
       ·exact sb_one hxw9
       clear hK K
       try simp only [Act.put, List.setIfInBounds_toArray, List.set_cons_zero, List.set_cons_succ]
       refine wpAnyH_take (i := 14) (oi := { dst := some 76, op := Op.build 33 #[(0, Operand.tmp 70), (1, Operand.tmp 75)], type := 33, pos := "late.go:24", after := #[{ on := 8, ground := Ground.data }, { on := 13, ground := Ground.data }], guard := none }) (v := ?_) rfl (by kernel_rfl) (by kernel_rfl) (by kernel_rfl) (fun _ _ _ h => h) (Or.inl ⟨by rfl, ?_⟩) (by assumption) ?_
       rotate_left
       ·intro W hSw; go_simp; try (with_reducible rfl)
       try simp only [Act.put, List.setIfInBounds_toArray, List.set_cons_zero, List.set_cons_succ]
       refine wpAnyH_ready (rs := [15]) (by kernel_rfl) (by simp) ?_
       refine AllReadyH.cons (o := { dst := some 77, op := Op.buildSlice 34 1 #[(0, Operand.tmp 76)], type := 34, pos := "late.go:24", after := #[{ on := 14, ground := Ground.data }], guard := none }) rfl (fun K hK => ?_) AllReadyH.nil
       go_simp
       first | refine gen_allocD ?_ | refine gen_alloc ?_
       intro w10 hw10 hbw10
       have how10 := how9.trans (hbw10.mono how9.size)
       have hxw10 := HBx.out.trans (how10.mono HBx.out.size)
       have hoc := oc_lit_ hv how9.size (by first | exact .inl hw10 | exact .inr hw10)
       clear hw10
       try (go_wp2_with fail)
       refine hK.out _ _ ?_ (fun hHeld => ?_)
       ·exact sb_one hxw10
       clear hK K
       try simp only [Act.put, List.setIfInBounds_toArray, List.set_cons_zero, List.set_cons_succ]
       refine wpAnyH_ready (rs := [16]) (by kernel_rfl) (by simp) ?_
       refine AllReadyH.cons (o := { dst := some 78, op := Op.call { callee := Callee.value (Operand.func 12), args := #[Operand.tmp 62, Operand.tmp 77], argTypes := #[29, 34] }, type := 26, pos := "late.go:24", after := #[{ on := 0, ground := Ground.data }, { on := 15, ground := Ground.data }], guard := none }) rfl (fun K hK => ?_) AllReadyH.nil
       go_simp
       have hcm := own_commitS HSx.out how10 HIx.out.inv.good hoc (by simp) (by rw [← HKEY.out]; exact one_sizes z (by simp) false)
       rw [← HKEY.out] at hcm
       refine hcm.mono ?_
       rintro e w11 ⟨rfl, hs11, hb11, _⟩
       have hxw11 := hxw10.trans hb11
       clear hb11 hcm
       try (go_wp2_with fail)
       refine hK.out _ _ ?_ (fun hHeld => ?_)
       ·exact sb_one hxw11
       clear hK K
       try simp only [Act.put, List.setIfInBounds_toArray, List.set_cons_zero, List.set_cons_succ]
       refine wpAnyH_done (by kernel_rfl) ?_ _
       clear hHeld
       have HS11 := Lib.hid hs11
       have HB11 := Lib.hid hxw11
       clear hs11 hxw11
       go_wp2
       go_roundw
       case rel => exact ⟨j + 1, _, by omega, by go_num, HIx.out.step z (by simp), HS11.out, HB11.out⟩
       case measure => simp [intOf]; omega
      ·go_simp
       first | refine gen_allocD ?_ | refine gen_alloc ?_
       intro w9 hw9 hbw9
       have how9 := how8.trans (hbw9.mono how8.size)
       have hxw9 := HBx.out.trans (how9.mono HBx.out.size)
       have hv := fb_one_ (b0 := wr.heap.size) hz255 how8.size (by first | exact .inl hw9 | exact .inr hw9)
       have hk := hk.below hbw9
       clear hw9
       try (go_wp2_with fail)
       refine hK.out _ _ ?_ (fun hHeld => ?_)
       ·exact sb_one hxw9
       clear hK K
       try simp only [Act.put, List.setIfInBounds_toArray, List.set_cons_zero, List.set_cons_succ]
       refine wpAnyH_ready (rs := [8]) (by kernel_rfl) (by simp) ?_
       refine AllReadyH.cons (o := { dst := some 70, op := Op.convert 22 9 (Operand.tmp 69), type := 9, pos := "late.go:24", after := #[{ on := 7, ground := Ground.data }], guard := none }) rfl (fun K hK => ?_) AllReadyH.nil
       have hq := str22 hk.rb
       go_simp
       refine hK.out _ _ ?_ (fun _ => ?_)
       ·exact hHeld
       clear hK K
       try simp only [Act.put, List.setIfInBounds_toArray, List.set_cons_zero, List.set_cons_succ]
       refine wpAnyH_take (i := 14) (oi := { dst := some 76, op := Op.build 33 #[(0, Operand.tmp 70), (1, Operand.tmp 75)], type := 33, pos := "late.go:24", after := #[{ on := 8, ground := Ground.data }, { on := 13, ground := Ground.data }], guard := none }) (v := ?_) rfl (by kernel_rfl) (by kernel_rfl) (by kernel_rfl) (fun _ _ _ h => h) (Or.inl ⟨by rfl, ?_⟩) (by assumption) ?_
       rotate_left
       ·intro W hSw; go_simp; try (with_reducible rfl)
       try simp only [Act.put, List.setIfInBounds_toArray, List.set_cons_zero, List.set_cons_succ]
       refine wpAnyH_ready (rs := [15]) (by kernel_rfl) (by simp) ?_
       refine AllReadyH.cons (o := { dst := some 77, op := Op.buildSlice 34 1 #[(0, Operand.tmp 76)], type := 34, pos := "late.go:24", after := #[{ on := 14, ground := Ground.data }], guard := none }) rfl (fun K hK => ?_) AllReadyH.nil
       go_simp
       first | refine gen_allocD ?_ | refine gen_alloc ?_
       intro w10 hw10 hbw10
       have how10 := how9.trans (hbw10.mono how9.size)
       have hxw10 := HBx.out.trans (how10.mono HBx.out.size)
       have hoc := oc_lit_ hv how9.size (by first | exact .inl hw10 | exact .inr hw10)
       clear hw10
       try (go_wp2_with fail)
       refine hK.out _ _ ?_ (fun hHeld => ?_)
       ·exact sb_one hxw10
       clear hK K
       try simp only [Act.put, List.setIfInBounds_toArray, List.set_cons_zero, List.set_cons_succ]
       refine wpAnyH_ready (rs := [16]) (by kernel_rfl) (by simp) ?_
       refine AllReadyH.cons (o := { dst := some 78, op := Op.call { callee := Callee.value (Operand.func 12), args := #[Operand.tmp 62, Operand.tmp 77], argTypes := #[29, 34] }, type := 26, pos := "late.go:24", after := #[{ on := 0, ground := Ground.data }, { on := 15, ground := Ground.data }], guard := none }) rfl (fun K hK => ?_) AllReadyH.nil
       go_simp
       have hcm := own_commitS HSx.out how10 HIx.out.inv.good hoc (by simp) (by rw [← HKEY.out]; exact one_sizes z (by simp) false)
       rw [← HKEY.out] at hcm
       refine hcm.mono ?_
       rintro e w11 ⟨rfl, hs11, hb11, _⟩
       have hxw11 := hxw10.trans hb11
       clear hb11 hcm
       try (go_wp2_with fail)
       refine hK.out _ _ ?_ (fun hHeld => ?_)
       ·exact sb_one hxw11
       clear hK K
       try simp only [Act.put, List.setIfInBounds_toArray, List.set_cons_zero, List.set_cons_succ]
       refine wpAnyH_done (by kernel_rfl) ?_ _
       clear hHeld
       have HS11 := Lib.hid hs11
       have HB11 := Lib.hid hxw11
       clear hs11 hxw11
       go_wp2
       go_roundw
       case rel => exact ⟨j + 1, _, by omega, by go_num, HIx.out.step z (by simp), HS11.out, HB11.out⟩
       case measure => simp [intOf]; omega
     ·go_simp
      first | refine gen_allocD ?_ | refine gen_alloc ?_
      intro w9 hw9 hbw9
      have how9 := ho0.trans (hbw9.mono ho0.size)
      have hxw9 := HBx.out.trans (how9.mono HBx.out.size)
      have hv := fb_one_ (b0 := wr.heap.size) hz255 ho0.size (by first | exact .inl hw9 | exact .inr hw9)
      clear hw9
      try (go_wp2_with fail)
      refine hK.out _ _ ?_ (fun hHeld => ?_)
      ·exact sb_one hxw9
      clear hK K
      try simp only [Act.put, List.setIfInBounds_toArray, List.set_cons_zero, List.set_cons_succ]
      refine wpAnyH_ready (rs := [7]) (by kernel_rfl) (by simp) ?_
      refine AllReadyH.cons (o := { dst := some 69, op := Op.buildSlice 22 1 #[(0, Operand.tmp 68)], type := 22, pos := "late.go:24", after := #[{ on := 6, ground := Ground.data }], guard := none }) rfl (fun K hK => ?_) AllReadyH.nil
      go_simp
      first | refine gen_allocD ?_ | refine gen_alloc ?_
      intro w8 hw8 hbw8
      have how8 := how9.trans (hbw8.mono how9.size)
      have hxw8 := HBx.out.trans (how8.mono HBx.out.size)
      have hk := fb_one_ (b0 := wr.heap.size) hF255 how9.size (by first | exact .inl hw8 | exact .inr hw8)
      have hv := hv.below hbw8
      clear hw8
      try (go_wp2_with fail)
      refine hK.out _ _ ?_ (fun hHeld => ?_)
      ·exact sb_one hxw8
      clear hK K
      try simp only [Act.put, List.setIfInBounds_toArray, List.set_cons_zero, List.set_cons_succ]
      refine wpAnyH_ready (rs := [8]) (by kernel_rfl) (by simp) ?_
      refine AllReadyH.cons (o := { dst := some 70, op := Op.convert 22 9 (Operand.tmp 69), type := 9, pos := "late.go:24", after := #[{ on := 7, ground := Ground.data }], guard := none }) rfl (fun K hK => ?_) AllReadyH.nil
      have hq := str22 hk.rb
      go_simp
      refine hK.out _ _ ?_ (fun _ => ?_)
      ·exact hHeld
      clear hK K
      try simp only [Act.put, List.setIfInBounds_toArray, List.set_cons_zero, List.set_cons_succ]
      refine wpAnyH_take (i := 14) (oi := { dst := some 76, op := Op.build 33 #[(0, Operand.tmp 70), (1, Operand.tmp 75)], type := 33, pos := "late.go:24", after := #[{ on := 8, ground := Ground.data }, { on := 13, ground := Ground.data }], guard := none }) (v := ?_) rfl (by kernel_rfl) (by kernel_rfl) (by kernel_rfl) (fun _ _ _ h => h) (Or.inl ⟨by rfl, ?_⟩) (by assumption) ?_
      rotate_left
      ·intro W hSw; go_simp; try (with_reducible rfl)
      try simp only [Act.put, List.setIfInBounds_toArray, List.set_cons_zero, List.set_cons_succ]
      refine wpAnyH_ready (rs := [15]) (by kernel_rfl) (by simp) ?_
      refine AllReadyH.cons (o := { dst := some 77, op := Op.buildSlice 34 1 #[(0, Operand.tmp 76)], type := 34, pos := "late.go:24", after := #[{ on := 14, ground := Ground.data }], guard := none }) rfl (fun K hK => ?_) AllReadyH.nil
      go_simp
      first | refine gen_allocD ?_ | refine gen_alloc ?_
      intro w10 hw10 hbw10
      have how10 := how8.trans (hbw10.mono how8.size)
      have hxw10 := HBx.out.trans (how10.mono HBx.out.size)
      have hoc := oc_lit_ hv how8.size (by first | exact .inl hw10 | exact .inr hw10)
      clear hw10
      try (go_wp2_with fail)
      refine hK.out _ _ ?_ (fun hHeld => ?_)
      ·exact sb_one hxw10
      clear hK K
      try simp only [Act.put, List.setIfInBounds_toArray, List.set_cons_zero, List.set_cons_succ]
      refine wpAnyH_ready (rs := [16]) (by kernel_rfl) (by simp) ?_
      refine AllReadyH.cons (o := { dst := some 78, op := Op.call { callee := Callee.value (Operand.func 12), args := #[Operand.tmp 62, Operand.tmp 77], argTypes := #[29, 34] }, type := 26, pos := "late.go:24", after := #[{ on := 0, ground := Ground.data }, { on := 15, ground := Ground.data }], guard := none }) rfl (fun K hK => ?_) AllReadyH.nil
      go_simp
      have hcm := own_commitS HSx.out how10 HIx.out.inv.good hoc (by simp) (by rw [← HKEY.out]; exact one_sizes z (by simp) false)
      rw [← HKEY.out] at hcm
      refine hcm.mono ?_
      rintro e w11 ⟨rfl, hs11, hb11, _⟩
      have hxw11 := hxw10.trans hb11
      clear hb11 hcm
      try (go_wp2_with fail)
      refine hK.out _ _ ?_ (fun hHeld => ?_)
      ·exact sb_one hxw11
      clear hK K
      try simp only [Act.put, List.setIfInBounds_toArray, List.set_cons_zero, List.set_cons_succ]
      refine wpAnyH_done (by kernel_rfl) ?_ _
      clear hHeld
      have HS11 := Lib.hid hs11
      have HB11 := Lib.hid hxw11
      clear hs11 hxw11
      go_wp2
      go_roundw
      case rel => exact ⟨j + 1, _, by omega, by go_num, HIx.out.step z (by simp), HS11.out, HB11.out⟩
      case measure => simp [intOf]; omega
    ·obtain rfl : j = l.length := by omega
     have hm2 : ¬ (l.length : Int) < (l.length : Int) := by omega
     have HDV := Lib.hid HIx.out.dev
     have HOV := Lib.hid HSx.out.dev
     go_wp2_with fail
     go_roundw
     case rel => exact ⟨i + 1, _, by omega, by go_num, HDV.out, HOV.out, HBx.out⟩
     case measure => simp [intOf]; omega
  ·obtain rfl : i = 2 := by omega
   have hm2 : ¬ (2 : Int) < 2 := by omega
   go_wp2_with fail
   go_at_call 6
   refine (own_new (B := wr.heap.size) N wr (by omega) (Nat.le_refl _)).mono ?_
   rintro e w3 ⟨sg, rfl, hown3, hb3⟩
   obtain ⟨D, hD, hDk, _⟩ := hown3
   have hsm : (Sim.new N).firm.length < 64 := by rw [new_firm]; exact hN64
   have HOPS := Lib.hid (open_small hD hsm)
   have HFS := Lib.hid (fun X (hX : Below w3.heap.size w3 X) => format_small (w := X) (hD.below hX) hsm)
   have HB3 := Lib.hid (HBw.out.trans (hb3.mono HBw.out.size))
   clear hD hb3 hsm hDk
   go_wp2_with fail
   go_at_call 9
   refine HOPS.out.mono ?_
   rintro e w4 ⟨rfl, rfl⟩
   go_wp2_with fail
   go_at_call 8
   refine (HKN.out _).mono ?_
   rintro e w4 ⟨rfl, hb4⟩
   have HFX := Lib.hid (HFS.out _ hb4)
   have HB4 := Lib.hid (HB3.out.trans (hb4.mono HB3.out.size))
   clear hb4
   go_wp2_with fail
   go_at_call 7
   refine HFX.out.mono ?_
   rintro e w5 ⟨rfl, rfl⟩
   go_wp2
   go_ret
   exact ⟨rfl, HB4.out⟩
end Go.Proofs.Ytmbkaedhllfoeaa
