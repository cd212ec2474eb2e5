/-
 The contracts of a device and of a store that lie apart from given blocks: these stay.; Plain mathematics of StoreFull: rows of the same size, and one less. No program.; The walk of StoreAgain: it answers true of any number, deeds, numbers and marks that no machine has trouble with.; The walk of StoreForms: it answers true of any numbers and choices.; The walk of StoreUsed: it answers true of any number and choices.
-/
import Derived.Test.YtmbkaedhllfoeaaKUB
import Derived.Test.YtmbkaedhllfoeaaKUI
import Derived.Test.YtmbkaedhllfoeaaKUDC
import Derived.Test.YtmbkaedhllfoeaaKUEI
set_option linter.unusedVariables false
namespace Go.Proofs.Ytmbkaedhllfoeaa
open Go.RowKit Go.Rst Go.Dv Go.Crc Go.Str Go.Pg
def OwnX (P : Nat → Prop) (B : Nat) (w : World) (v : Value) (s : Sim) : Prop := ∃ D : Nat → Prop, Dev D w v s ∧ (∀ k, D k → B ≤ k ∧ ¬ P k) ∧ B ≤ w.heap.size ∧ ∀ k, P k → k < w.heap.size
def OwnSX (P : Nat → Prop) (B dg : Nat) (w : World) (sv : Value) (x : Ss) : Prop := ∃ M : Nat → Prop, Sto dg M w sv x ∧ (∀ k, M k → B ≤ k ∧ ¬ P k) ∧ B ≤ w.heap.size ∧ ∀ k, P k → k < w.heap.size
structure Stay (P : Nat → Prop) (B : Nat) (w w' : World) : Prop where
 bel : Below B w w'
 same : ∀ k, P k → w'.heap[k]? = w.heap[k]?
section
variable {P P' : Nat → Prop} {B dg : Nat} {w w' w0 : World} {sv v : Value} {x : Ss} {s : Sim}
theorem Stay.trans_ {a : World} (h : Stay P B a w) (k : Stay P B w w') : Stay P B a w' := ⟨h.bel.trans k.bel, fun j hj => (k.same j hj).trans (h.same j hj)⟩
theorem Stay.of_below (h : Below w.heap.size w w') (hB : B ≤ w.heap.size) (hP : ∀ k, P k → k < w.heap.size) : Stay P B w w' := ⟨h.mono hB, fun k hk => h.block k (hP k hk)⟩
theorem OwnX.below (h : OwnX P B w v s) (hb : Below w.heap.size w w') : OwnX P B w' v s := by
 obtain ⟨D, h1, h2, h3, h4⟩ := h
 exact ⟨D, h1.below hb, h2, Nat.le_trans h3 hb.size, fun k hk => Nat.lt_of_lt_of_le (h4 k hk) hb.size⟩
theorem OwnSX.below (h : OwnSX P B dg w sv x) (hb : Below w.heap.size w w') : OwnSX P B dg w' sv x := by
 obtain ⟨D, h1, h2, h3, h4⟩ := h
 exact ⟨D, h1.below hb, h2, Nat.le_trans h3 hb.size, fun k hk => Nat.lt_of_lt_of_le (h4 k hk) hb.size⟩
theorem OwnSX.own (h : OwnSX P B dg w sv x) : OwnS B dg w sv x := by
 obtain ⟨M, h1, h2, h3, h4⟩ := h
 exact ⟨M, h1, fun k hk => (h2 k hk).1, h3⟩
theorem OwnSX.dev (h : OwnSX P B dg w sv x) : OwnX P B w (dp dg) x.d := by
 obtain ⟨M, ⟨D, R, g, rv, _, h1⟩, h2, h3⟩ := h
 exact ⟨D, h1.dev, fun k hk => h2 k ((h1.hM k).2 (.inl hk)), h3⟩
theorem OwnSX.more (h : OwnSX P B dg w sv x) (hb : Below w.heap.size w w') (hP : ∀ k, P' k → P k ∨ (w.heap.size ≤ k ∧ k < w'.heap.size)) : OwnSX P' B dg w' sv x := by
 obtain ⟨M, h1, h2, h3, h4⟩ := h
 refine ⟨M, h1.below hb, fun k hk => ⟨(h2 k hk).1, fun hp => ?_⟩, Nat.le_trans h3 hb.size, fun k hk => ?_⟩
 ·rcases hP k hp with h | h
  ·exact (h2 k hk).2 h
  ·have := h1.lt k hk; omega
 ·rcases hP k hk with h | h
  ·have := h4 k h; have := hb.size; omega
  ·exact h.2
theorem OwnX.more (h : OwnX P B w v s) (hb : Below w.heap.size w w') (hP : ∀ k, P' k → P k ∨ (w.heap.size ≤ k ∧ k < w'.heap.size)) : OwnX P' B w' v s := by
 obtain ⟨M, h1, h2, h3, h4⟩ := h
 refine ⟨M, h1.below hb, fun k hk => ⟨(h2 k hk).1, fun hp => ?_⟩, Nat.le_trans h3 hb.size, fun k hk => ?_⟩
 ·rcases hP k hp with h | h
  ·exact (h2 k hk).2 h
  ·have := h1.lt k hk; omega
 ·rcases hP k hk with h | h
  ·have := h4 k h; have := hb.size; omega
  ·exact h.2
end
end Go.Proofs.Ytmbkaedhllfoeaa
namespace Go.Proofs.Ytmbkaedhllfoeaa
open Go.RowKit Go.Rst Go.Dv Go.Crc Go.Str Go.Pg
theorem fit_few {n : Nat} {l : List Rw} (hs : Sorted l) (hn : l.length ≤ 40) (hr : ∀ r ∈ l, r.1.size ≤ 2 ∧ r.2.length ≤ 150) : fitB n l = decide (pgs l ≤ aN n) := by
 obtain ⟨ps, h1, h2, _⟩ := build_two hs hn hr
 unfold fitB
 rw [h1]
 simp only
 rw [h2]
theorem chgsL_one (c : Chg) : (chgsL [c]).length = 1 + (chgL c).length := by
 unfold chgsL
 have h1 : (numL 1).length = 1 := by decide +kernel
 have h2 : chgsB [c] = chgL c := by simp [chgsB]
 rw [List.length_append, h2, List.length_singleton, h1]
theorem one_commit {x : Ss} {k : ByteArray} {v : List UInt8} {g : Bool} (hI : InvS x) (hk : k.size ≤ 2) (hv : v.length ≤ 150) (hep : x.ep < 1073741824) :
  ((commitR x [(k, v, g)]).2 = if fitB x.n (stepL x.rows (k, v, g)) = true then 0 else 21) ∧ ((commitR x [(k, v, g)]).2 = 0 → (commitR x [(k, v, g)]).1.rows = stepL x.rows (k, v, g)) := by
 have hG := hI.good
 have hJ := (aN_pos hG.n).2
 have hlong : ([(k, v, g)] : List Chg).any longC = false := by
  simp only [List.any_cons, List.any_nil, Bool.or_false]
  unfold longC
  rw [decide_eq_false (by show ¬ 30 < k.size; omega), decide_eq_false (by show ¬ 150 < v.length; omega)]
  rfl
 have hcl : (chgsL [(k, v, g)]).length ≤ 176 := by
  rw [chgsL_one]
  have := chgL_few (k, v, g) (by show k.size ≤ _; omega) (by show v.length ≤ _; omega)
  show 1 + (chgL (k, v, g)).length ≤ 176
  have h2 : (chgL (k, v, g)).length ≤ 18 + (k.size + v.length) := this
  omega
 have hof : ofL (chgsL [(k, v, g)]) ≤ 5 := by unfold ofL; omega
 have hp : ∀ e f : Nat, e ≤ 1073741824 → f ≤ 1073741824 → (partsL (e : Int) (f : Int) [(k, v, g)]).2 = true := by
  intro e f he hf
  unfold partsL
  rw [if_neg (by omega), if_neg (by omega)]
 have hfr : x.fr ≤ 1073741824 := by have := hG.fr; have := hG.us; have := jN_le x.n; have := hG.ok.n; have : x.n ≤ 4096 := hG.ok.n; omega
 have hp1 := hp x.ep x.fr (by omega) hfr
 have hpl := parts_count hp1
 have ha : applyL x.rows [(k, v, g)] = stepL x.rows (k, v, g) := rfl
 have hj2 := (aN_pos hG.n).2
 unfold commitR
 rw [if_neg (by simp), if_neg (by rw [hlong]; decide), if_neg (by rw [hp1, hpl]; rintro (h | h); cases h; omega), ha]
 by_cases hf : fitB x.n (stepL x.rows (k, v, g)) = true
 ·rw [if_neg (by rw [hf]; decide), if_pos hf]
  by_cases hr : x.us + (partsL (x.ep : Int) (x.fr : Int) [(k, v, g)]).1.length ≤ jN x.n
  ·rw [if_pos hr]
   exact ⟨rfl, fun _ => rfl⟩
  ·rw [if_neg hr, if_neg (by omega)]
   exact ⟨rfl, fun _ => rfl⟩
 ·have hf' : fitB x.n (stepL x.rows (k, v, g)) = false := by simpa using hf
  rw [if_pos hf', if_neg hf]
  exact ⟨rfl, fun h => (by cases h)⟩
def keyN (i : Nat) : ByteArray := ⟨#[UInt8.ofNat (97 + i % 26), UInt8.ofNat (97 + i / 26)]⟩
theorem keyN_inj {i j : Nat} (hi : i < 40) (hj : j < 40) (h : keyN i = keyN j) : i = j := by
 unfold keyN at h
 injection h with h
 have h1 := congrArg (fun a : Array UInt8 => (a.getD 0 0).toNat) h
 have h2 := congrArg (fun a : Array UInt8 => (a.getD 1 0).toNat) h
 simp at h1 h2
 omega
theorem keyN_size (i : Nat) : (keyN i).size = 2 := rfl
def RowsV (V j : Nat) (rs : List Rw) : Prop := Sorted rs ∧ ∀ r ∈ rs, (∃ i, i < j ∧ r.1 = keyN i) ∧ r.2 = List.replicate V 0
theorem rsz_v {V : Nat} {r : Rw} {i : Nat} (hV : V ≤ 149) (h1 : r.1 = keyN i) (h2 : r.2 = List.replicate V 0) : rsz r = 5 + (numL V).length + V - 1 := by
 have hs : r.1.data.toList.length = 2 := by rw [h1]; rfl
 have hn : (numL 2).length = 1 := by decide +kernel
 have hp := numL_pos V
 unfold rsz rowB rowL textL
 simp only [List.length_append]
 rw [hs, hn, h2, List.length_replicate]
 omega
theorem RowsV.same {V j : Nat} {rs : List Rw} (h : RowsV V j rs) (hV : V ≤ 149) : ∀ r ∈ rs, r.1.size ≤ 30 ∧ r.2.length ≤ 150 ∧ rsz r = 5 + (numL V).length + V - 1 := by
 intro r hr
 obtain ⟨⟨i, _, h1⟩, h2⟩ := h.2 r hr
 refine ⟨by rw [h1, keyN_size]; omega, by rw [h2, List.length_replicate]; omega, rsz_v hV h1 h2⟩
theorem RowsV.few {V j : Nat} {rs : List Rw} (h : RowsV V j rs) (hV : V ≤ 149) : ∀ r ∈ rs, r.1.size ≤ 2 ∧ r.2.length ≤ 150 := by
 intro r hr
 obtain ⟨⟨i, _, h1⟩, h2⟩ := h.2 r hr
 exact ⟨by rw [h1, keyN_size]; exact Nat.le_refl _, by rw [h2, List.length_replicate]; omega⟩
theorem RowsV.new {V j : Nat} {rs : List Rw} (h : RowsV V j rs) (hj : j < 40) : hasL (keyN j) rs = false := by
 cases hh : hasL (keyN j) rs with
 | false => rfl
 | true =>
  exfalso
  unfold hasL at hh
  split at hh
  ·rename_i y e
   have hy : y ∈ rs := List.mem_of_getElem? e
   obtain ⟨⟨i, hi, h1⟩, _⟩ := h.2 y hy
   have h2 : y.1 = keyN j := ba_ext (eq_of_beq hh)
   rw [h1] at h2
   have := keyN_inj (by omega) hj h2
   omega
  ·cases hh
theorem RowsV.put {V j : Nat} {rs : List Rw} (h : RowsV V j rs) (hj : j < 40) : RowsV V (j + 1) (stepL rs (keyN j, List.replicate V 0, false)) ∧ (stepL rs (keyN j, List.replicate V 0, false)).length = rs.length + 1 := by
 have hn := h.new hj
 have hp := posL_le (keyN j) rs
 refine ⟨⟨stepL_sorted h.1, fun r hr => ?_⟩, ?_⟩
 ·rw [step_ins h.1 hn] at hr
  rcases List.mem_append.1 hr with hr | hr
  ·obtain ⟨⟨i, hi, h1⟩, h2⟩ := h.2 r (List.mem_of_mem_take hr)
   exact ⟨⟨i, by omega, h1⟩, h2⟩
  ·rcases List.mem_cons.1 hr with rfl | hr
   ·exact ⟨⟨j, by omega, rfl⟩, rfl⟩
   ·obtain ⟨⟨i, hi, h1⟩, h2⟩ := h.2 r (List.mem_of_mem_drop hr)
    exact ⟨⟨i, by omega, h1⟩, h2⟩
 ·rw [step_ins h.1 hn, List.length_append, List.length_cons, List.length_take, List.length_drop]
  omega
theorem RowsV.more {V j j' : Nat} {rs : List Rw} (h : RowsV V j rs) (hj : j ≤ j') : RowsV V j' rs := ⟨h.1, fun r hr => by
 obtain ⟨⟨i, hi, h1⟩, h2⟩ := h.2 r hr
 exact ⟨⟨i, by omega, h1⟩, h2⟩⟩
theorem RowsV.less {V j n : Nat} {r : Rw} {rs : List Rw} (h : RowsV V j (r :: rs)) (hV : V ≤ 149) (hV2 : 100 ≤ V) (hl : (r :: rs).length ≤ 40) (hf : fitB n (r :: rs) = true) : RowsV V j rs ∧ fitB n rs = true := by
 have h' : RowsV V j rs := ⟨(List.pairwise_cons.1 h.1).2, fun y hy => h.2 y (List.mem_cons_of_mem _ hy)⟩
 refine ⟨h', ?_⟩
 rw [fit_few h.1 hl (h.few hV), decide_eq_true_eq] at hf
 rw [fit_few h'.1 (by rw [List.length_cons] at hl; omega) (h'.few hV), decide_eq_true_eq]
 have hnl := numL_len 1 V (by omega)
 have hp := numL_pos V
 exact Nat.le_trans (pgs_less (by omega) (by omega) (by rw [List.length_cons]; omega) (h.same hV) (h'.same hV)) hf
end Go.Proofs.Ytmbkaedhllfoeaa
namespace Go.Proofs.Ytmbkaedhllfoeaa
open Go.RowKit Go.Rst Go.Dv Go.Crc Go.Str Go.Pg
theorem putS_fuse {x : Ss} {cs : List Chg} (h : x.d.fuse = none) : (putS x cs).d.fuse = none := flush_fuse (writeL_fuse h _ _ _)
theorem ckS_fuse {x : Ss} (h : x.d.fuse = none) : (ckS x).d.fuse = none := layS_fuse h _ _ _
theorem commit_fuse {x : Ss} (cs : List Chg) (h : x.d.fuse = none) : (commitR x cs).1.d.fuse = none := by
 unfold commitR
 split
 ·exact h
 ·split
  ·exact h
  ·split
   ·exact h
   ·split
    ·exact h
    ·split
     ·exact putS_fuse h
     ·split
      ·exact h
      ·exact putS_fuse (ckS_fuse h)
end Go.Proofs.Ytmbkaedhllfoeaa
namespace Go.Proofs.Ytmbkaedhllfoeaa
open Go.RowKit Go.Rst Go.Dv Go.Crc Go.Str Go.Pg
theorem sb_one {w W : World} (h : Below w.heap.size w W) : SB [w] W := fun x hx => by
 obtain rfl : x = w := by simpa using hx
 exact h
theorem below_dl {B : Nat} {w w' : World} (h : Below B w w') : Below B w.drew w' := ⟨h.os, h.tape, h.output, h.size, h.block⟩
def key16 (c : Nat) : ByteArray := ⟨#[UInt8.ofNat (97 + c % 16)]⟩
theorem key16_size (c : Nat) : (key16 c).size = 1 := rfl
theorem one_reads (c : Nat) {v : List UInt8} (hv : v.length ≤ 150) (g : Bool) (hg : g = true → v = []) : readChgs (chgsL [(key16 c, v, g)]) = ([(key16 c, v, g)], 0) := by
 refine readChgs_back _ (by simp) (fun x hx => ?_)
 simp only [List.mem_singleton] at hx
 subst hx
 exact ⟨by show (key16 c).data.toList.length ≤ 30; rw [size_list, key16_size]; omega, by show v.length ≤ 150; exact hv, hg⟩
theorem one_sizes (c : Nat) {v : List UInt8} (hv : v.length ≤ 150) (g : Bool) : sizesC [(key16 c, v, g)] ≤ 90000 := by
 simp only [sizesC, List.map_cons, List.map_nil, List.sum_cons, List.sum_nil, key16_size]
 omega
structure DevI (n : Nat) (s : Sim) : Prop where
 ok : OK s
 fu : s.fuse = none
 lo : s.loose = []
 n : s.firm.length = n
structure FmI (n j : Nat) (x : Ss) : Prop where
 inv : InvS x
 n : x.n = n
 fu : x.d.fuse = none
 ep : x.ep ≤ 2 + j
theorem FmI.step {n j : Nat} {x : Ss} (h : FmI n j x) (c : Nat) {v : List UInt8} (hv : v.length ≤ 150) : FmI n (j + 1) (commitR x [(key16 c, v, false)]).1 := by
 obtain ⟨s1, s2, s3, _⟩ := commit_step (cs := [(key16 c, v, false)]) h.inv (fun _ => one_reads c hv false (by simp))
 exact ⟨s1, s2.trans h.n, commit_fuse _ h.fu, by have := h.ep; omega⟩
theorem FmI.dev {n j : Nat} {x : Ss} (h : FmI n j x) : DevI n x.d := ⟨h.inv.good.ok, h.fu, (h.inv.live (goes_none h.fu)).1, h.n⟩
theorem DevI.opened {n : Nat} {s : Sim} (h : DevI n s) (hn : 64 ≤ n) : openR (formatS s) = (0, openedS s) ∧ FmI n 0 (openedS s) ∧ (formatS s).loose = [] ∧ 64 ≤ (formatS s).firm.length ∧ (openedS s).ep = 2 ∧ (openedS s).rows = [] ∧ (openedS s).us = 0 := by
 obtain ⟨o1, o2, o3, o4, o5, o6⟩ := open_format h.ok h.fu h.lo (by rw [h.n]; exact hn)
 exact ⟨o1, ⟨o2, o4.trans h.n, o3, Nat.le_refl _⟩, o5, o6, rfl, rfl, rfl⟩
end Go.Proofs.Ytmbkaedhllfoeaa
namespace Go.Proofs.Ytmbkaedhllfoeaa
open Go.RowKit Go.Rst Go.Dv Go.Crc Go.Str Go.Pg
theorem stepL_mem {l : List Rw} {c : Chg} (hs : Sorted l) {r : Rw} (h : r ∈ stepL l c) : r = (c.1, c.2.1) ∨ r ∈ l := by
 obtain ⟨k, v, g⟩ := c
 cases g with
 | true =>
  right
  have e : stepL l (k, v, true) = outL k l := rfl
  rw [e] at h
  exact (List.mem_filter.1 h).1
 | false =>
  cases hh : hasL k l with
  | true =>
   rw [step_set hs hh] at h
   rcases List.mem_or_eq_of_mem_set h with h | h
   ·exact .inr h
   ·exact .inl h
  | false =>
   rw [step_ins hs hh] at h
   rcases List.mem_append.1 h with h | h
   ·exact .inr (List.mem_of_mem_take h)
   ·rcases List.mem_cons.1 h with h | h
    ·exact .inl h
    ·exact .inr (List.mem_of_mem_drop h)
theorem below_und {B : Nat} {w w' : World} (h : Below B w.drew w') : Below B w w' := (Below.refl _ _).drew.trans h
structure FewI (n j : Nat) (x : Ss) : Prop where
 inv : InvS x
 n : x.n = n
 fu : x.d.fuse = none
 few : ∀ r ∈ x.rows, r.1.size ≤ 2 ∧ r.2.length ≤ 150
 len : x.rows.length ≤ j
theorem few_fit {n : Nat} {rs : List Rw} (hs : Sorted rs) (hl : rs.length ≤ 40) (hf : ∀ r ∈ rs, r.1.size ≤ 2 ∧ r.2.length ≤ 150) (hn : rs.length + 2 ≤ aN n) : fitB n rs = true := by
 rw [fit_few hs hl hf, decide_eq_true_eq]
 obtain ⟨_, _, _, h3⟩ := build_two hs hl hf
 unfold pgs
 split <;> omega
theorem FewI.put {n j : Nat} {x : Ss} (h : FewI n j x) (hj : j < 40) (hn : j + 3 ≤ aN n) (hep : x.ep ≤ 1000) (c : Nat) {v : List UInt8} {g : Bool} (hv : v.length ≤ 150) (hg : g = true → v = []) :
  (commitR x [(key16 c, v, g)]).2 = 0 ∧ (commitR x [(key16 c, v, g)]).1.rows = stepL x.rows (key16 c, v, g) ∧ FewI n (j + 1) (commitR x [(key16 c, v, g)]).1 ∧ (commitR x [(key16 c, v, g)]).1.ep ≤ x.ep + 1 := by
 have hsort := (rows_few_ h.inv.good).1
 have hstep : ∀ r ∈ stepL x.rows (key16 c, v, g), r.1.size ≤ 2 ∧ r.2.length ≤ 150 := by
  intro r hr
  rcases stepL_mem hsort hr with rfl | hr
  ·exact ⟨by show (key16 c).size ≤ 2; rw [key16_size]; omega, hv⟩
  ·exact h.few r hr
 have hlen := stepL_len x.rows (key16 c, v, g)
 have hl := h.len
 have hfit := few_fit (n := n) (stepL_sorted (c := (key16 c, v, g)) hsort) (by omega) hstep (by omega)
 obtain ⟨s1, s2, s3, _⟩ := commit_step (cs := [(key16 c, v, g)]) h.inv (fun _ => one_reads c hv g hg)
 obtain ⟨o1, o2⟩ := one_commit (k := key16 c) (v := v) (g := g) h.inv (by rw [key16_size]; omega) hv (by omega)
 rw [h.n, if_pos hfit] at o1
 exact ⟨o1, o2 o1, ⟨s1, s2.trans h.n, commit_fuse _ h.fu, by rw [o2 o1]; exact hstep, by rw [o2 o1]; omega⟩, s3⟩
theorem parts_ok {e f : Nat} (c : Nat) {v : List UInt8} {g : Bool} (hv : v.length ≤ 150) (he : e ≤ 1000) (hf : f ≤ 1000) : (partsL (e : Int) (f : Int) [(key16 c, v, g)]).2 = true ∧ (partsL (e : Int) (f : Int) [(key16 c, v, g)]).1.length ≤ 5 := by
 have hcl : (chgsL [(key16 c, v, g)]).length ≤ 176 := by
  rw [chgsL_one]
  have := chgL_few (key16 c, v, g) (by show (key16 c).size ≤ _; rw [key16_size]; omega) (by show v.length ≤ _; omega)
  have h2 : (chgL (key16 c, v, g)).length ≤ 18 + ((key16 c).size + v.length) := this
  rw [key16_size] at h2
  omega
 have hof : ofL (chgsL [(key16 c, v, g)]) ≤ 5 := by unfold ofL; omega
 have hp : (partsL (e : Int) (f : Int) [(key16 c, v, g)]).2 = true := by
  unfold partsL
  rw [if_neg (by omega), if_neg (by omega)]
 exact ⟨hp, by rw [parts_count hp]; exact hof⟩
theorem commit_used {x : Ss} {cs : List Chg} (h0 : (commitR x cs).2 = 0) (hne : cs ≠ []) (hr : x.us + (partsL (x.ep : Int) (x.fr : Int) cs).1.length ≤ jN x.n) :
  (commitR x cs).1.us = x.us + (partsL (x.ep : Int) (x.fr : Int) cs).1.length ∧ (commitR x cs).1.ep = x.ep ∧ (commitR x cs).1.fr = x.fr + 1 := by
 unfold commitR at *
 rw [if_neg hne] at h0 ⊢
 by_cases h1 : cs.any longC = true
 ·rw [if_pos h1] at h0; cases h0
 ·rw [if_neg h1] at h0 ⊢
  by_cases h2 : (partsL (x.ep : Int) (x.fr : Int) cs).2 = false ∨ jN x.n < (partsL (x.ep : Int) (x.fr : Int) cs).1.length
  ·rw [if_pos h2] at h0; cases h0
  ·rw [if_neg h2] at h0 ⊢
   by_cases h3 : fitB x.n (applyL x.rows cs) = false
   ·rw [if_pos h3] at h0; cases h0
   ·rw [if_neg h3, if_pos hr]
    exact ⟨rfl, rfl, rfl⟩
structure UsI (j : Nat) (x : Ss) : Prop where
 few : FewI 400 j x
 ep : x.ep = 2
 fr : x.fr = j
theorem UsI.us {j : Nat} {x : Ss} (h : UsI j x) : x.us ≤ 100 := by
 have := h.few.inv.good.us
 rw [h.few.n] at this
 exact Nat.le_trans this (by decide)
theorem UsI.put {j : Nat} {x : Ss} (h : UsI j x) (hj : j < 30) (c : Nat) {v : List UInt8} (hv : v.length ≤ 150) :
  (commitR x [(key16 c, v, false)]).2 = 0 ∧ (partsL (2 : Int) (j : Int) [(key16 c, v, false)]).2 = true ∧ (partsL (2 : Int) (j : Int) [(key16 c, v, false)]).1.length ≤ 5 ∧
   (x.us + (partsL (2 : Int) (j : Int) [(key16 c, v, false)]).1.length ≤ 100 → UsI (j + 1) (commitR x [(key16 c, v, false)]).1 ∧ (commitR x [(key16 c, v, false)]).1.us = x.us + (partsL (2 : Int) (j : Int) [(key16 c, v, false)]).1.length) := by
 have ha : aN 400 = 37 := by decide
 obtain ⟨p1, p2, p3, _⟩ := h.few.put (by omega) (by omega) (by rw [h.ep]; omega) c (v := v) (g := false) hv (by simp)
 obtain ⟨q1, q2⟩ := parts_ok (e := 2) (f := j) c (v := v) (g := false) hv (by omega) (by omega)
 have hj4 : jN 400 = 100 := by decide
 refine ⟨p1, q1, q2, fun hr => ?_⟩
 have hu := commit_used (x := x) (cs := [(key16 c, v, false)]) p1 (by simp) (by rw [h.ep, h.fr, h.few.n, hj4]; exact hr)
 rw [h.ep, h.fr] at hu
 exact ⟨⟨p3, hu.2.1, hu.2.2⟩, hu.1⟩
theorem UsI.ck {j : Nat} {x : Ss} (h : UsI j x) : InvS (ckS x) ∧ (ckS x).rows = x.rows ∧ (ckS x).us = 0 ∧ (ckS x).ep = 3 := by
 obtain ⟨c1, _, _⟩ := ck_step h.few.inv.good (fun hg => h.few.inv.fnd hg) (by rw [h.ep]; omega)
 exact ⟨c1, rfl, rfl, by show x.ep + 1 = 3; rw [h.ep]⟩
set_option maxRecDepth 100000 in
set_option maxHeartbeats 6000000 in
theorem used_walk (k : Nat) (cv : Value) (l : List UInt8) (w : World) (hk : k ≤ 255) (hc : RB w cv l) (hcl : l.length ≤ 140737488351232) :
  Calls Try.prog 3 #[.int .u8 (k : Int), cv] w fun e w' => e = .returned (.bool true) ∧ Below w.heap.size w w' := by
 obtain ⟨A, c, rfl⟩ := rb_shape hc
 obtain ⟨i5, hi5, hz5, hs5, hb5⟩ := info_parts info5
 have HI5 := Lib.hid hi5
 have HZ5 := Lib.hid hz5
 have HS5 := Lib.hid hs5
 have HB5' := Lib.hid hb5
 clear hi5 hz5 hs5 hb5
 have HKN := Lib.hid knownS_any
 have HC := Lib.hid hc
 have HN0 := Lib.hid (show DevI 400 (Sim.new 400) from ⟨OK.new (by omega), rfl, rfl, new_firm _⟩)
 clear hc
 go_enter Try.func3, Try.ntmps3
 go_wp2_with fail
 go_at_call 6
 refine (own_new (B := w.heap.size) 400 w (by omega) (Nat.le_refl _)).mono ?_
 rintro e w2 ⟨dg, rfl, hown, hb2⟩
 have HO2 := Lib.hid hown
 have HB2 := Lib.hid hb2
 clear hown hb2
 by_cases hl1 : 30 < l.length
 ·have hl2 : (30 : Int) < (l.length : Int) := by omega
  go_wp2_with fail
  go_at_call 8
  refine (HKN.out _).mono ?_
  rintro e wk ⟨rfl, hbk⟩
  have HBK := Lib.hid (HB2.out.trans (hbk.mono HB2.out.size))
  clear hbk
  go_wp2
  go_ret
  exact ⟨rfl, HBK.out⟩
 have hl2 : ¬ (30 : Int) < (l.length : Int) := by omega
 have HL1 := Lib.hid (show l.length ≤ 30 by omega)
 clear hl1
 obtain ⟨o1, o2, o3, o4, o5, o6, o7⟩ := HN0.out.opened (by omega)
 have HF := Lib.hid (own_formatS HO2.out (by rw [HN0.out.n]; omega) (by rw [HN0.out.lo]; exact Nat.zero_le _))
 obtain ⟨Q, hQ⟩ : ∃ Q, Q = formatS (Sim.new 400) := ⟨_, rfl⟩
 have hst : UsI 0 (openedS (Sim.new 400)) := ⟨⟨o2.inv, o2.n, o2.fu, by rw [o6]; exact (fun r hr => by cases hr), by rw [o6]; exact Nat.le_refl _⟩, o5, rfl⟩
 obtain ⟨Y, hY⟩ : ∃ Y, Y = openedS (Sim.new 400) := ⟨_, rfl⟩
 rw [← hQ] at o1 o3 o4 HF
 rw [← hY] at o1 o7 hst
 have HO1 := Lib.hid o1
 have HI := Lib.hid hst
 have HO5 := Lib.hid o3
 have HO6 := Lib.hid o4
 have HUS := Lib.hid o7
 clear o1 o2 o3 o4 o5 o6 o7 hQ hY hst
 go_wp2_with fail
 go_at_call 7
 refine HF.out.mono ?_
 rintro e w3 ⟨rfl, hown3, hb3⟩
 have HB3 := Lib.hid (HB2.out.trans hb3)
 have HOP := Lib.hid (own_openOk hown3 HO6.out HO5.out HO1.out)
 clear hown3 hb3
 go_wp2_with fail
 go_at_call 9
 refine HOP.out.mono ?_
 rintro e w4 ⟨sv, rfl, hst, hb4⟩
 have HB4 := Lib.hid (HB3.out.trans hb4)
 obtain ⟨g, rfl⟩ := hst.ptr
 have HST := Lib.hid hst
 clear hst hb4
 go_wp2_with fail
 go_loopw [8, 9] (fun u q wr => ∃ (j : Nat) (x : Ss), j ≤ l.length ∧ q = .int .i64 j ∧ u = .int .i64 x.us ∧ UsI j x ∧ OwnS w.heap.size dg wr (.pointer (some ⟨g, 0, none⟩)) x ∧ Below w.heap.size w wr) (fun _ q _ => l.length - (intOf q).toNat)
 case atStart => exact ⟨0, Y, Nat.zero_le _, rfl, by rw [HUS.out]; rfl, HI.out, HST.out, HB4.out⟩
 case round =>
  obtain ⟨j, x, hj, rfl, rfl, hfi, hS, hbx⟩ := hrel
  have HIx := Lib.hid hfi
  have HSx := Lib.hid hS
  have HBx := Lib.hid hbx
  clear hfi hS hbx
  by_cases hlj : j < l.length
  ·have hlj2 : (j : Int) < (l.length : Int) := by omega
   obtain ⟨b, off, hA, hbs, hcell⟩ := rb_cell HC.out hlj
   subst hA
   have hz255 : l[j].toNat ≤ 255 := by have := UInt8.toNat_lt l[j]; omega
   unfold bv at hcell
   generalize l[j].toNat = z at hcell hz255
   obtain ⟨f, hf⟩ : ∃ f, f = z % 16 := ⟨_, rfl⟩
   obtain ⟨F, hF⟩ : ∃ F, F = 97 + f := ⟨_, rfl⟩
   obtain ⟨V, hV⟩ : ∃ V, V = z % 150 := ⟨_, rfl⟩
   have m1 : (z : Int).tmod 16 = (f : Int) := by rw [Int.tmod_eq_emod_of_nonneg (by omega)]; omega
   have m2 : IntKind.u8.wrap (f : Int) = (f : Int) := by rw [IntKind.wrap_u8]; omega
   have m3 : IntKind.u8.wrap (97 + (f : Int)) = (F : Int) := by rw [IntKind.wrap_u8]; omega
   have m4 : (z : Int).tmod 150 = (V : Int) := by rw [Int.tmod_eq_emod_of_nonneg (by omega)]; omega
   have m5 : IntKind.u8.wrap (V : Int) = (V : Int) := by rw [IntKind.wrap_u8]; omega
   have m6 : IntKind.i64.wrap (V : Int) = (V : Int) := by rw [IntKind.wrap_i64]; omega
   have hF255 : F ≤ 255 := by omega
   have hkey : key16 z = ⟨#[UInt8.ofNat F]⟩ := by unfold key16; rw [hF, hf]
   have HKEY := Lib.hid hkey
   have hf16 : f < 16 := by omega
   have hV150 : V < 150 := by omega
   have HV := Lib.hid (show (List.replicate V (0 : UInt8)).length ≤ 150 by rw [List.length_replicate]; omega)
   have HBY := Lib.hid (show i5.bytes * V ≤ 281474976710656 by rw [HB5'.out]; omega)
   have HVM := Lib.hid (show V ≤ maxLen by unfold maxLen; omega)
   clear hf hF hkey hV
   go_wp2_with fail
   have ho0 := Below.refl wr.heap.size wr
   refine wp_region_held_drew (S := SB [w]) (by kernel_rfl) (sb_one HBx.out.drew) (fun hHeld => ?_)
   refine wpAnyH_take (i := 0) (oi := { dst := some 41, op := Op.move (Operand.tmp 1), type := 22, pos := "last.go:22", after := #[], guard := none }) (v := ?_) rfl (by kernel_rfl) (by kernel_rfl) (by kernel_rfl) (fun _ _ _ h => h) (Or.inl ⟨by rfl, ?_⟩) (by assumption) ?_
   rotate_left
   ·intro W hSw; go_simp; try (with_reducible rfl)
   try simp only [Act.put, List.setIfInBounds_toArray, List.set_cons_zero, List.set_cons_succ]
   refine wpAnyH_take (i := 1) (oi := { dst := some 42, op := Op.move (Operand.tmp 9), type := 3, pos := "last.go:22", after := #[], guard := none }) (v := ?_) rfl (by kernel_rfl) (by kernel_rfl) (by kernel_rfl) (fun _ _ _ h => h) (Or.inl ⟨by rfl, ?_⟩) (by assumption) ?_
   rotate_left
   ·intro W hSw; go_simp; try (with_reducible rfl)
   try simp only [Act.put, List.setIfInBounds_toArray, List.set_cons_zero, List.set_cons_succ]
   refine wpAnyH_take (i := 2) (oi := { dst := some 43, op := Op.indexAddr 22 (Operand.tmp 41) (Operand.tmp 42), type := 0, pos := "last.go:22", after := #[{ on := 0, ground := Ground.data }, { on := 1, ground := Ground.data }], guard := none }) (v := ?_) rfl (by kernel_rfl) (by kernel_rfl) (by kernel_rfl) (fun _ _ _ h => h) (Or.inl ⟨by rfl, ?_⟩) (by assumption) ?_
   rotate_left
   ·intro W hSw; go_simp; try (with_reducible rfl)
   try simp only [Act.put, List.setIfInBounds_toArray, List.set_cons_zero, List.set_cons_succ]
   refine wpAnyH_take (i := 3) (oi := { dst := some 44, op := Op.load 5 (Operand.tmp 43), type := 5, pos := "last.go:22", after := #[{ on := 2, ground := Ground.data }], guard := none }) (v := ?_) rfl (by kernel_rfl) (by kernel_rfl) (by kernel_rfl) (fun _ _ _ h => h) (Or.inl ⟨by rfl, ?_⟩) (by assumption) ?_
   rotate_left
   ·intro W hSw; have hq := (((SB.b0 hSw)).cell (p := ⟨b, off + j, none⟩) hbs).trans hcell; go_simp; try (with_reducible rfl)
   try simp only [Act.put, List.setIfInBounds_toArray, List.set_cons_zero, List.set_cons_succ]
   refine wpAnyH_take (i := 4) (oi := { dst := some 45, op := Op.binOp BinOp.rem 5 (Operand.tmp 44) (Operand.const (Value.int IntKind.u8 16)) 5, type := 5, pos := "last.go:22", after := #[{ on := 3, ground := Ground.data }], guard := none }) (v := ?_) rfl (by kernel_rfl) (by kernel_rfl) (by kernel_rfl) (fun _ _ _ h => h) (Or.inl ⟨by rfl, ?_⟩) (by assumption) ?_
   rotate_left
   ·intro W hSw; go_simp; try (with_reducible rfl)
   try simp only [Act.put, List.setIfInBounds_toArray, List.set_cons_zero, List.set_cons_succ]
   refine wpAnyH_take (i := 5) (oi := { dst := some 46, op := Op.binOp BinOp.add 5 (Operand.const (Value.int IntKind.u8 97)) (Operand.tmp 45) 5, type := 5, pos := "last.go:22", after := #[{ on := 4, ground := Ground.data }], guard := none }) (v := ?_) rfl (by kernel_rfl) (by kernel_rfl) (by kernel_rfl) (fun _ _ _ h => h) (Or.inl ⟨by rfl, ?_⟩) (by assumption) ?_
   rotate_left
   ·intro W hSw; go_simp; try (with_reducible rfl)
   try simp only [Act.put, List.setIfInBounds_toArray, List.set_cons_zero, List.set_cons_succ]
   refine wpAnyH_take (i := 8) (oi := { dst := some 49, op := Op.move (Operand.tmp 1), type := 22, pos := "last.go:22", after := #[], guard := none }) (v := ?_) rfl (by kernel_rfl) (by kernel_rfl) (by kernel_rfl) (fun _ _ _ h => h) (Or.inl ⟨by rfl, ?_⟩) (by assumption) ?_
   rotate_left
   ·intro W hSw; go_simp; try (with_reducible rfl)
   try simp only [Act.put, List.setIfInBounds_toArray, List.set_cons_zero, List.set_cons_succ]
   refine wpAnyH_take (i := 9) (oi := { dst := some 50, op := Op.move (Operand.tmp 9), type := 3, pos := "last.go:22", after := #[], guard := none }) (v := ?_) rfl (by kernel_rfl) (by kernel_rfl) (by kernel_rfl) (fun _ _ _ h => h) (Or.inl ⟨by rfl, ?_⟩) (by assumption) ?_
   rotate_left
   ·intro W hSw; go_simp; try (with_reducible rfl)
   try simp only [Act.put, List.setIfInBounds_toArray, List.set_cons_zero, List.set_cons_succ]
   refine wpAnyH_take (i := 10) (oi := { dst := some 51, op := Op.indexAddr 22 (Operand.tmp 49) (Operand.tmp 50), type := 0, pos := "last.go:22", after := #[{ on := 8, ground := Ground.data }, { on := 9, ground := Ground.data }], guard := none }) (v := ?_) rfl (by kernel_rfl) (by kernel_rfl) (by kernel_rfl) (fun _ _ _ h => h) (Or.inl ⟨by rfl, ?_⟩) (by assumption) ?_
   rotate_left
   ·intro W hSw; go_simp; try (with_reducible rfl)
   try simp only [Act.put, List.setIfInBounds_toArray, List.set_cons_zero, List.set_cons_succ]
   refine wpAnyH_take (i := 11) (oi := { dst := some 52, op := Op.load 5 (Operand.tmp 51), type := 5, pos := "last.go:22", after := #[{ on := 10, ground := Ground.data }], guard := none }) (v := ?_) rfl (by kernel_rfl) (by kernel_rfl) (by kernel_rfl) (fun _ _ _ h => h) (Or.inl ⟨by rfl, ?_⟩) (by assumption) ?_
   rotate_left
   ·intro W hSw; have hq := (((SB.b0 hSw)).cell (p := ⟨b, off + j, none⟩) hbs).trans hcell; go_simp; try (with_reducible rfl)
   try simp only [Act.put, List.setIfInBounds_toArray, List.set_cons_zero, List.set_cons_succ]
   refine wpAnyH_take (i := 12) (oi := { dst := some 53, op := Op.binOp BinOp.rem 5 (Operand.tmp 52) (Operand.const (Value.int IntKind.u8 150)) 5, type := 5, pos := "last.go:22", after := #[{ on := 11, ground := Ground.data }], guard := none }) (v := ?_) rfl (by kernel_rfl) (by kernel_rfl) (by kernel_rfl) (fun _ _ _ h => h) (Or.inl ⟨by rfl, ?_⟩) (by assumption) ?_
   rotate_left
   ·intro W hSw; go_simp; try (with_reducible rfl)
   try simp only [Act.put, List.setIfInBounds_toArray, List.set_cons_zero, List.set_cons_succ]
   refine wpAnyH_take (i := 13) (oi := { dst := some 54, op := Op.convert 5 3 (Operand.tmp 53), type := 3, pos := "last.go:22", after := #[{ on := 12, ground := Ground.data }], guard := none }) (v := ?_) rfl (by kernel_rfl) (by kernel_rfl) (by kernel_rfl) (fun _ _ _ h => h) (Or.inl ⟨by rfl, ?_⟩) (by assumption) ?_
   rotate_left
   ·intro W hSw; go_simp; try (with_reducible rfl)
   try simp only [Act.put, List.setIfInBounds_toArray, List.set_cons_zero, List.set_cons_succ]
   refine wpAnyH_ready (rs := [6, 14]) (by kernel_rfl) (by simp) ?_
   refine AllReadyH.cons (o := { dst := some 47, op := Op.buildSlice 22 1 #[(0, Operand.tmp 46)], type := 22, pos := "last.go:22", after := #[{ on := 5, ground := Ground.data }], guard := none }) rfl (fun K hK => ?_) (AllReadyH.cons (o := { dst := some 55, op := Op.makeSlice 22 (Operand.tmp 54) (Operand.tmp 54), type := 22, pos := "last.go:22", after := #[{ on := 13, ground := Ground.data }, { on := 13, ground := Ground.data }], guard := none }) rfl (fun K hK => ?_) AllReadyH.nil)
   ·go_simp
    first | refine gen_allocD ?_ | refine gen_alloc ?_
    intro w8 hw8 hbw8
    have how8 := ho0.trans (hbw8.mono ho0.size)
    have hxw8 := HBx.out.trans (how8.mono HBx.out.size)
    have hk := fb_one_ (b0 := wr.heap.size) hF255 ho0.size (by first | exact .inl hw8 | exact .inr hw8)
    clear hw8
    try (go_wp2_with fail)
    refine hK.out _ _ ?_ (fun hHeld => ?_)
    ·exact sb_one hxw8
    clear hK K
    try simp only [Act.put, List.setIfInBounds_toArray, List.set_cons_zero, List.set_cons_succ]
    refine wpAnyH_ready (rs := [7, 14]) (by kernel_rfl) (by simp) ?_
    refine AllReadyH.cons (o := { dst := some 48, op := Op.convert 22 9 (Operand.tmp 47), type := 9, pos := "last.go:22", after := #[{ on := 6, ground := Ground.data }], guard := none }) rfl (fun K hK => ?_) (AllReadyH.cons (o := { dst := some 55, op := Op.makeSlice 22 (Operand.tmp 54) (Operand.tmp 54), type := 22, pos := "last.go:22", after := #[{ on := 13, ground := Ground.data }, { on := 13, ground := Ground.data }], guard := none }) rfl (fun K hK => ?_) AllReadyH.nil)
    ·have hq := str22 hk.rb
     go_simp
     refine hK.out _ _ ?_ (fun _ => ?_)
     ·exact hHeld
     clear hK K
     try simp only [Act.put, List.setIfInBounds_toArray, List.set_cons_zero, List.set_cons_succ]
     refine wpAnyH_ready (rs := [14]) (by kernel_rfl) (by simp) ?_
     refine AllReadyH.cons (o := { dst := some 55, op := Op.makeSlice 22 (Operand.tmp 54) (Operand.tmp 54), type := 22, pos := "last.go:22", after := #[{ on := 13, ground := Ground.data }, { on := 13, ground := Ground.data }], guard := none }) rfl (fun K hK => ?_) AllReadyH.nil
     refine step_make (by rfl) (.tmp 54) (.tmp 54) 22 (by rfl) wr.heap.size 5 i5 (.int .u8 0) 1 Try.underlying22 HI5.out HZ5.out HS5.out .i64 .i64 _ _ V (by rfl) (by rfl) rfl rfl HBY.out HVM.out how8.size ?_
     intro w9 hw9 hgw9
     have hbw9 := (Below.refl _ _).grown hgw9 (Nat.le_refl _) (fun k hk => by cases hk)
     have how9 := how8.trans ((by first | exact hbw9 | exact below_dl hbw9 | exact below_und hbw9 : Below w8.heap.size w8 w9).mono how8.size)
     have hxw9 := HBx.out.trans (how9.mono HBx.out.size)
     have hv := fb_made hw9
     clear hw9 hgw9
     have hk := hk.below hbw9
     refine hK.out _ _ ?_ (fun hHeld => ?_)
     ·exact sb_one hxw9
     clear hK K
     try simp only [Act.put, List.setIfInBounds_toArray, List.set_cons_zero, List.set_cons_succ]
     refine wpAnyH_take (i := 15) (oi := { dst := some 56, op := Op.build 33 #[(0, Operand.tmp 48), (1, Operand.tmp 55)], type := 33, pos := "last.go:22", after := #[{ on := 7, ground := Ground.data }, { on := 14, ground := Ground.data }], guard := none }) (v := ?_) rfl (by kernel_rfl) (by kernel_rfl) (by kernel_rfl) (fun _ _ _ h => h) (Or.inl ⟨by rfl, ?_⟩) (by assumption) ?_
     rotate_left
     ·intro W hSw; go_simp; try (with_reducible rfl)
     try simp only [Act.put, List.setIfInBounds_toArray, List.set_cons_zero, List.set_cons_succ]
     refine wpAnyH_ready (rs := [16]) (by kernel_rfl) (by simp) ?_
     refine AllReadyH.cons (o := { dst := some 57, op := Op.buildSlice 34 1 #[(0, Operand.tmp 56)], type := 34, pos := "last.go:22", after := #[{ on := 15, ground := Ground.data }], guard := none }) rfl (fun K hK => ?_) AllReadyH.nil
     go_simp
     first | refine gen_allocD ?_ | refine gen_alloc ?_
     intro w10 hw10 hbw10
     have how10 := how9.trans (hbw10.mono how9.size)
     have hxw10 := HBx.out.trans (how10.mono HBx.out.size)
     have hoc := oc_lit_ hv how9.size (by first | exact .inl hw10 | exact .inr hw10)
     clear hw10
     try (go_wp2_with fail)
     refine hK.out _ _ ?_ (fun hHeld => ?_)
     ·exact sb_one hxw10
     clear hK K
     try simp only [Act.put, List.setIfInBounds_toArray, List.set_cons_zero, List.set_cons_succ]
     refine wpAnyH_take (i := 17) (oi := { dst := some 10, op := Op.assign (Operand.tmp 57), type := 34, pos := "last.go:22", after := #[{ on := 16, ground := Ground.data }, { on := 0, ground := Ground.phase }, { on := 1, ground := Ground.phase }, { on := 2, ground := Ground.phase }, { on := 3, ground := Ground.phase }, { on := 4, ground := Ground.phase }, { on := 5, ground := Ground.phase }, { on := 6, ground := Ground.phase }, { on := 7, ground := Ground.phase }, { on := 8, ground := Ground.phase }, { on := 9, ground := Ground.phase }, { on := 10, ground := Ground.phase }, { on := 11, ground := Ground.phase }, { on := 12, ground := Ground.phase }, { on := 13, ground := Ground.phase }, { on := 14, ground := Ground.phase }, { on := 15, ground := Ground.phase }, { on := 16, ground := Ground.phase }], guard := none }) (v := ?_) rfl (by kernel_rfl) (by kernel_rfl) (by kernel_rfl) (fun _ _ _ h => h) (Or.inl ⟨by rfl, ?_⟩) (by assumption) ?_
     rotate_left
     ·intro W hSw; go_simp; try (with_reducible rfl)
     try simp only [Act.put, List.setIfInBounds_toArray, List.set_cons_zero, List.set_cons_succ]
     refine wpAnyH_done (by kernel_rfl) ?_ _
     clear hHeld
     rw [← HKEY.out] at hoc
     have HOC := Lib.hid hoc
     have HBO := Lib.hid how10
     have HB10 := Lib.hid hxw10
     clear hoc hk hv how8 how9 how10 hxw8 hxw9 hxw10 hbw8 hbw9 hbw10 ho0
     obtain ⟨r1, r2, r3, r4⟩ := HIx.out.put (by have := HL1.out; omega) z HV.out
     obtain ⟨cs, hcs⟩ : ∃ cs, cs = [(key16 z, List.replicate V (0 : UInt8), false)] := ⟨_, rfl⟩
     have hsz : sizesC cs ≤ 90000 := by rw [hcs]; exact one_sizes z HV.out false
     have hlen1 : cs.length = 1 := by rw [hcs]; rfl
     have hvb : ∀ r ∈ cs, r.2.1.length ≤ 1000000000 := by rw [hcs]; intro r hr; simp only [List.mem_singleton] at hr; subst hr; exact Nat.le_trans HV.out (by omega)
     rw [← hcs] at r1 r2 r3 r4 HOC
     have HPT := Lib.hid (parts_any 2 (j : Int) _ cs w10 HOC.out.rc (by have := (chgsB_few cs hsz).1; omega) (by omega) hvb)
     have HS10 := Lib.hid (HSx.out.below HBO.out)
     have he := own_epochS HS10.out
     rw [HIx.out.ep] at he
     have HE := Lib.hid he
     obtain ⟨PT, hPT⟩ : ∃ PT, PT = partsL (2 : Int) (j : Int) cs := ⟨_, rfl⟩
     obtain ⟨R, hR⟩ : ∃ R, R = commitR x cs := ⟨_, rfl⟩
     have hcm := fun X (hX : Below w10.heap.size w10 X) => own_commitS (w := X) HSx.out (HBO.out.trans (hX.mono HBO.out.size)) HIx.out.few.inv.good (HOC.out.below hX) (by omega) hsz
     rw [← hPT] at r2 r3 r4 HPT
     rw [← hR] at r1 r4 hcm
     rw [r1] at hcm
     have HCM := Lib.hid hcm
     have HR4 := Lib.hid r4
     have HR2 := Lib.hid r2
     have HUX := Lib.hid HIx.out.us
     clear r1 r2 r4 hcs hsz hlen1 hvb he hPT hR hcm
     go_wp2_with fail
     go_at_call 11
     refine HE.out.mono ?_
     rintro e w11 ⟨rfl, rfl⟩
     go_wp2_with fail
     go_at_call 10
     refine HPT.out.mono ?_
     rintro e w12 ⟨pv, rfl, hop, hb12⟩
     rw [HR2.out]
     obtain ⟨Ap, cp, hpv, _⟩ := hop.shape
     subst hpv
     have HC12 := Lib.hid (HCM.out _ hb12)
     have HB12 := Lib.hid (HB10.out.trans (hb12.mono HB10.out.size))
     clear hop hb12
     go_wp2_with fail
     go_at_call 12
     refine HC12.out.mono ?_
     rintro e w13 ⟨rfl, hs13, hb13, _⟩
     have HS13 := Lib.hid hs13
     have HB13 := Lib.hid (HB12.out.trans hb13)
     have HE13 := Lib.hid (own_epochS hs13)
     have HU13 := Lib.hid (own_usedS hs13)
     clear hs13 hb13
     have hu100 := HUX.out
     obtain ⟨U, hU⟩ : ∃ U, U = x.us + PT.1.length := ⟨_, rfl⟩
     have mw : IntKind.i64.wrap ((x.us : Int) + (PT.1.length : Int)) = (U : Int) := by rw [IntKind.wrap_i64]; omega
     have hU105 : U ≤ 105 := by omega
     by_cases hov : 100 < U
     ·have hov2 : (100 : Int) < (U : Int) := by omega
      go_wp2_with fail
      go_at_call 8
      refine (HKN.out _).mono ?_
      rintro e wk ⟨rfl, hbk⟩
      have HBK := Lib.hid (HB13.out.trans (hbk.mono HB13.out.size))
      clear hbk
      go_wp2
      go_ret
      exact ⟨rfl, HBK.out⟩
     have hov2 : ¬ (100 : Int) < (U : Int) := by omega
     obtain ⟨z1, z2⟩ := HR4.out (by omega)
     have HZ1 := Lib.hid z1
     have hUe : R.1.us = U := z2.trans hU.symm
     have HUE := Lib.hid hUe
     rw [hUe] at HU13
     rw [z1.ep] at HE13
     clear hov z1 z2 hU hUe
     go_wp2_with fail
     go_at_call 13
     refine HU13.out.mono ?_
     rintro e w14 ⟨rfl, rfl⟩
     go_wp2_with fail
     go_at_call 11
     refine HE13.out.mono ?_
     rintro e w14 ⟨rfl, rfl⟩
     go_wp2
     go_roundw
     case rel => exact ⟨j + 1, R.1, by omega, by go_num, by rw [HUE.out], HZ1.out, HS13.out, HB13.out⟩
     case measure => simp [intOf]; omega
    ·refine step_make (by rfl) (.tmp 54) (.tmp 54) 22 (by rfl) wr.heap.size 5 i5 (.int .u8 0) 1 Try.underlying22 HI5.out HZ5.out HS5.out .i64 .i64 _ _ V (by rfl) (by rfl) rfl rfl HBY.out HVM.out how8.size ?_
     intro w9 hw9 hgw9
     have hbw9 := (Below.refl _ _).grown hgw9 (Nat.le_refl _) (fun k hk => by cases hk)
     have how9 := how8.trans ((by first | exact hbw9 | exact below_dl hbw9 | exact below_und hbw9 : Below w8.heap.size w8 w9).mono how8.size)
     have hxw9 := HBx.out.trans (how9.mono HBx.out.size)
     have hv := fb_made hw9
     clear hw9 hgw9
     have hk := hk.below hbw9
     refine hK.out _ _ ?_ (fun hHeld => ?_)
     ·exact sb_one hxw9
     clear hK K
     try simp only [Act.put, List.setIfInBounds_toArray, List.set_cons_zero, List.set_cons_succ]
     refine wpAnyH_ready (rs := [7]) (by kernel_rfl) (by simp) ?_
     refine AllReadyH.cons (o := { dst := some 48, op := Op.convert 22 9 (Operand.tmp 47), type := 9, pos := "last.go:22", after := #[{ on := 6, ground := Ground.data }], guard := none }) rfl (fun K hK => ?_) AllReadyH.nil
     have hq := str22 hk.rb
     go_simp
     refine hK.out _ _ ?_ (fun _ => ?_)
     ·exact hHeld
     clear hK K
     try simp only [Act.put, List.setIfInBounds_toArray, List.set_cons_zero, List.set_cons_succ]
     refine wpAnyH_take (i := 15) (oi := { dst := some 56, op := Op.build 33 #[(0, Operand.tmp 48), (1, Operand.tmp 55)], type := 33, pos := "last.go:22", after := #[{ on := 7, ground := Ground.data }, { on := 14, ground := Ground.data }], guard := none }) (v := ?_) rfl (by kernel_rfl) (by kernel_rfl) (by kernel_rfl) (fun _ _ _ h => h) (Or.inl ⟨by rfl, ?_⟩) (by assumption) ?_
     rotate_left
     ·intro W hSw; go_simp; try (with_reducible rfl)
     try simp only [Act.put, List.setIfInBounds_toArray, List.set_cons_zero, List.set_cons_succ]
     refine wpAnyH_ready (rs := [16]) (by kernel_rfl) (by simp) ?_
     refine AllReadyH.cons (o := { dst := some 57, op := Op.buildSlice 34 1 #[(0, Operand.tmp 56)], type := 34, pos := "last.go:22", after := #[{ on := 15, ground := Ground.data }], guard := none }) rfl (fun K hK => ?_) AllReadyH.nil
     go_simp
     first | refine gen_allocD ?_ | refine gen_alloc ?_
     intro w10 hw10 hbw10
     have how10 := how9.trans (hbw10.mono how9.size)
     have hxw10 := HBx.out.trans (how10.mono HBx.out.size)
     have hoc := oc_lit_ hv how9.size (by first | exact .inl hw10 | exact .inr hw10)
     clear hw10
     try (go_wp2_with fail)
     refine hK.out _ _ ?_ (fun hHeld => ?_)
     ·exact sb_one hxw10
     clear hK K
     try simp only [Act.put, List.setIfInBounds_toArray, List.set_cons_zero, List.set_cons_succ]
     refine wpAnyH_take (i := 17) (oi := { dst := some 10, op := Op.assign (Operand.tmp 57), type := 34, pos := "last.go:22", after := #[{ on := 16, ground := Ground.data }, { on := 0, ground := Ground.phase }, { on := 1, ground := Ground.phase }, { on := 2, ground := Ground.phase }, { on := 3, ground := Ground.phase }, { on := 4, ground := Ground.phase }, { on := 5, ground := Ground.phase }, { on := 6, ground := Ground.phase }, { on := 7, ground := Ground.phase }, { on := 8, ground := Ground.phase }, { on := 9, ground := Ground.phase }, { on := 10, ground := Ground.phase }, { on := 11, ground := Ground.phase }, { on := 12, ground := Ground.phase }, { on := 13, ground := Ground.phase }, { on := 14, ground := Ground.phase }, { on := 15, ground := Ground.phase }, { on := 16, ground := Ground.phase }], guard := none }) (v := ?_) rfl (by kernel_rfl) (by kernel_rfl) (by kernel_rfl) (fun _ _ _ h => h) (Or.inl ⟨by rfl, ?_⟩) (by assumption) ?_
     rotate_left
     ·intro W hSw; go_simp; try (with_reducible rfl)
     try simp only [Act.put, List.setIfInBounds_toArray, List.set_cons_zero, List.set_cons_succ]
     refine wpAnyH_done (by kernel_rfl) ?_ _
     clear hHeld
     rw [← HKEY.out] at hoc
     have HOC := Lib.hid hoc
     have HBO := Lib.hid how10
     have HB10 := Lib.hid hxw10
     clear hoc hk hv how8 how9 how10 hxw8 hxw9 hxw10 hbw8 hbw9 hbw10 ho0
     obtain ⟨r1, r2, r3, r4⟩ := HIx.out.put (by have := HL1.out; omega) z HV.out
     obtain ⟨cs, hcs⟩ : ∃ cs, cs = [(key16 z, List.replicate V (0 : UInt8), false)] := ⟨_, rfl⟩
     have hsz : sizesC cs ≤ 90000 := by rw [hcs]; exact one_sizes z HV.out false
     have hlen1 : cs.length = 1 := by rw [hcs]; rfl
     have hvb : ∀ r ∈ cs, r.2.1.length ≤ 1000000000 := by rw [hcs]; intro r hr; simp only [List.mem_singleton] at hr; subst hr; exact Nat.le_trans HV.out (by omega)
     rw [← hcs] at r1 r2 r3 r4 HOC
     have HPT := Lib.hid (parts_any 2 (j : Int) _ cs w10 HOC.out.rc (by have := (chgsB_few cs hsz).1; omega) (by omega) hvb)
     have HS10 := Lib.hid (HSx.out.below HBO.out)
     have he := own_epochS HS10.out
     rw [HIx.out.ep] at he
     have HE := Lib.hid he
     obtain ⟨PT, hPT⟩ : ∃ PT, PT = partsL (2 : Int) (j : Int) cs := ⟨_, rfl⟩
     obtain ⟨R, hR⟩ : ∃ R, R = commitR x cs := ⟨_, rfl⟩
     have hcm := fun X (hX : Below w10.heap.size w10 X) => own_commitS (w := X) HSx.out (HBO.out.trans (hX.mono HBO.out.size)) HIx.out.few.inv.good (HOC.out.below hX) (by omega) hsz
     rw [← hPT] at r2 r3 r4 HPT
     rw [← hR] at r1 r4 hcm
     rw [r1] at hcm
     have HCM := Lib.hid hcm
     have HR4 := Lib.hid r4
     have HR2 := Lib.hid r2
     have HUX := Lib.hid HIx.out.us
     clear r1 r2 r4 hcs hsz hlen1 hvb he hPT hR hcm
     go_wp2_with fail
     go_at_call 11
     refine HE.out.mono ?_
     rintro e w11 ⟨rfl, rfl⟩
     go_wp2_with fail
     go_at_call 10
     refine HPT.out.mono ?_
     rintro e w12 ⟨pv, rfl, hop, hb12⟩
     rw [HR2.out]
     obtain ⟨Ap, cp, hpv, _⟩ := hop.shape
     subst hpv
     have HC12 := Lib.hid (HCM.out _ hb12)
     have HB12 := Lib.hid (HB10.out.trans (hb12.mono HB10.out.size))
     clear hop hb12
     go_wp2_with fail
     go_at_call 12
     refine HC12.out.mono ?_
     rintro e w13 ⟨rfl, hs13, hb13, _⟩
     have HS13 := Lib.hid hs13
     have HB13 := Lib.hid (HB12.out.trans hb13)
     have HE13 := Lib.hid (own_epochS hs13)
     have HU13 := Lib.hid (own_usedS hs13)
     clear hs13 hb13
     have hu100 := HUX.out
     obtain ⟨U, hU⟩ : ∃ U, U = x.us + PT.1.length := ⟨_, rfl⟩
     have mw : IntKind.i64.wrap ((x.us : Int) + (PT.1.length : Int)) = (U : Int) := by rw [IntKind.wrap_i64]; omega
     have hU105 : U ≤ 105 := by omega
     by_cases hov : 100 < U
     ·have hov2 : (100 : Int) < (U : Int) := by omega
      go_wp2_with fail
      go_at_call 8
      refine (HKN.out _).mono ?_
      rintro e wk ⟨rfl, hbk⟩
      have HBK := Lib.hid (HB13.out.trans (hbk.mono HB13.out.size))
      clear hbk
      go_wp2
      go_ret
      exact ⟨rfl, HBK.out⟩
     have hov2 : ¬ (100 : Int) < (U : Int) := by omega
     obtain ⟨z1, z2⟩ := HR4.out (by omega)
     have HZ1 := Lib.hid z1
     have hUe : R.1.us = U := z2.trans hU.symm
     have HUE := Lib.hid hUe
     rw [hUe] at HU13
     rw [z1.ep] at HE13
     clear hov z1 z2 hU hUe
     go_wp2_with fail
     go_at_call 13
     refine HU13.out.mono ?_
     rintro e w14 ⟨rfl, rfl⟩
     go_wp2_with fail
     go_at_call 11
     refine HE13.out.mono ?_
     rintro e w14 ⟨rfl, rfl⟩
     go_wp2
     go_roundw
     case rel => exact ⟨j + 1, R.1, by omega, by go_num, by rw [HUE.out], HZ1.out, HS13.out, HB13.out⟩
     case measure => simp [intOf]; omega
   ·refine step_make (by rfl) (.tmp 54) (.tmp 54) 22 (by rfl) wr.heap.size 5 i5 (.int .u8 0) 1 Try.underlying22 HI5.out HZ5.out HS5.out .i64 .i64 _ _ V (by rfl) (by rfl) rfl rfl HBY.out HVM.out ho0.size ?_
    intro w9 hw9 hgw9
    have hbw9 := (Below.refl _ _).grown hgw9 (Nat.le_refl _) (fun k hk => by cases hk)
    have how9 := ho0.trans ((by first | exact hbw9 | exact below_dl hbw9 | exact below_und hbw9 : Below wr.heap.size wr w9).mono ho0.size)
    have hxw9 := HBx.out.trans (how9.mono HBx.out.size)
    have hv := fb_made hw9
    clear hw9 hgw9
    refine hK.out _ _ ?_ (fun hHeld => ?_)
    ·exact sb_one hxw9
    clear hK K
    try simp only [Act.put, List.setIfInBounds_toArray, List.set_cons_zero, List.set_cons_succ]
    refine wpAnyH_ready (rs := [6]) (by kernel_rfl) (by simp) ?_
    refine AllReadyH.cons (o := { dst := some 47, op := Op.buildSlice 22 1 #[(0, Operand.tmp 46)], type := 22, pos := "last.go:22", after := #[{ on := 5, ground := Ground.data }], guard := none }) rfl (fun K hK => ?_) AllReadyH.nil
    go_simp
    first | refine gen_allocD ?_ | refine gen_alloc ?_
    intro w8 hw8 hbw8
    have how8 := how9.trans (hbw8.mono how9.size)
    have hxw8 := HBx.out.trans (how8.mono HBx.out.size)
    have hk := fb_one_ (b0 := wr.heap.size) hF255 how9.size (by first | exact .inl hw8 | exact .inr hw8)
    have hv := hv.below hbw8
    clear hw8
    try (go_wp2_with fail)
    refine hK.out _ _ ?_ (fun hHeld => ?_)
    ·exact sb_one hxw8
    clear hK K
    try simp only [Act.put, List.setIfInBounds_toArray, List.set_cons_zero, List.set_cons_succ]
    refine wpAnyH_ready (rs := [7]) (by kernel_rfl) (by simp) ?_
    refine AllReadyH.cons (o := { dst := some 48, op := Op.convert 22 9 (Operand.tmp 47), type := 9, pos := "last.go:22", after := #[{ on := 6, ground := Ground.data }], guard := none }) rfl (fun K hK => ?_) AllReadyH.nil
    have hq := str22 hk.rb
    go_simp
    refine hK.out _ _ ?_ (fun _ => ?_)
    ·exact hHeld
    clear hK K
    try simp only [Act.put, List.setIfInBounds_toArray, List.set_cons_zero, List.set_cons_succ]
    refine wpAnyH_take (i := 15) (oi := { dst := some 56, op := Op.build 33 #[(0, Operand.tmp 48), (1, Operand.tmp 55)], type := 33, pos := "last.go:22", after := #[{ on := 7, ground := Ground.data }, { on := 14, ground := Ground.data }], guard := none }) (v := ?_) rfl (by kernel_rfl) (by kernel_rfl) (by kernel_rfl) (fun _ _ _ h => h) (Or.inl ⟨by rfl, ?_⟩) (by assumption) ?_
    rotate_left
    ·intro W hSw; go_simp; try (with_reducible rfl)
    try simp only [Act.put, List.setIfInBounds_toArray, List.set_cons_zero, List.set_cons_succ]
    refine wpAnyH_ready (rs := [16]) (by kernel_rfl) (by simp) ?_
    refine AllReadyH.cons (o := { dst := some 57, op := Op.buildSlice 34 1 #[(0, Operand.tmp 56)], type := 34, pos := "last.go:22", after := #[{ on := 15, ground := Ground.data }], guard := none }) rfl (fun K hK => ?_) AllReadyH.nil
    go_simp
    first | refine gen_allocD ?_ | refine gen_alloc ?_
    intro w10 hw10 hbw10
    have how10 := how8.trans (hbw10.mono how8.size)
    have hxw10 := HBx.out.trans (how10.mono HBx.out.size)
    have hoc := oc_lit_ hv how8.size (by first | exact .inl hw10 | exact .inr hw10)
    clear hw10
    try (go_wp2_with fail)
    refine hK.out _ _ ?_ (fun hHeld => ?_)
    ·exact sb_one hxw10
    clear hK K
    try simp only [Act.put, List.setIfInBounds_toArray, List.set_cons_zero, List.set_cons_succ]
    refine wpAnyH_take (i := 17) (oi := { dst := some 10, op := Op.assign (Operand.tmp 57), type := 34, pos := "last.go:22", after := #[{ on := 16, ground := Ground.data }, { on := 0, ground := Ground.phase }, { on := 1, ground := Ground.phase }, { on := 2, ground := Ground.phase }, { on := 3, ground := Ground.phase }, { on := 4, ground := Ground.phase }, { on := 5, ground := Ground.phase }, { on := 6, ground := Ground.phase }, { on := 7, ground := Ground.phase }, { on := 8, ground := Ground.phase }, { on := 9, ground := Ground.phase }, { on := 10, ground := Ground.phase }, { on := 11, ground := Ground.phase }, { on := 12, ground := Ground.phase }, { on := 13, ground := Ground.phase }, { on := 14, ground := Ground.phase }, { on := 15, ground := Ground.phase }, { on := 16, ground := Ground.phase }], guard := none }) (v := ?_) rfl (by kernel_rfl) (by kernel_rfl) (by kernel_rfl) (fun _ _ _ h => h) (Or.inl ⟨by rfl, ?_⟩) (by assumption) ?_
    rotate_left
    ·intro W hSw; go_simp; try (with_reducible rfl)
    try simp only [Act.put, List.setIfInBounds_toArray, List.set_cons_zero, List.set_cons_succ]
    refine wpAnyH_done (by kernel_rfl) ?_ _
    clear hHeld
    rw [← HKEY.out] at hoc
    have HOC := Lib.hid hoc
    have HBO := Lib.hid how10
    have HB10 := Lib.hid hxw10
    clear hoc hk hv how8 how9 how10 hxw8 hxw9 hxw10 hbw8 hbw9 hbw10 ho0
    obtain ⟨r1, r2, r3, r4⟩ := HIx.out.put (by have := HL1.out; omega) z HV.out
    obtain ⟨cs, hcs⟩ : ∃ cs, cs = [(key16 z, List.replicate V (0 : UInt8), false)] := ⟨_, rfl⟩
    have hsz : sizesC cs ≤ 90000 := by rw [hcs]; exact one_sizes z HV.out false
    have hlen1 : cs.length = 1 := by rw [hcs]; rfl
    have hvb : ∀ r ∈ cs, r.2.1.length ≤ 1000000000 := by rw [hcs]; intro r hr; simp only [List.mem_singleton] at hr; subst hr; exact Nat.le_trans HV.out (by omega)
    rw [← hcs] at r1 r2 r3 r4 HOC
    have HPT := Lib.hid (parts_any 2 (j : Int) _ cs w10 HOC.out.rc (by have := (chgsB_few cs hsz).1; omega) (by omega) hvb)
    have HS10 := Lib.hid (HSx.out.below HBO.out)
    have he := own_epochS HS10.out
    rw [HIx.out.ep] at he
    have HE := Lib.hid he
    obtain ⟨PT, hPT⟩ : ∃ PT, PT = partsL (2 : Int) (j : Int) cs := ⟨_, rfl⟩
    obtain ⟨R, hR⟩ : ∃ R, R = commitR x cs := ⟨_, rfl⟩
    have hcm := fun X (hX : Below w10.heap.size w10 X) => own_commitS (w := X) HSx.out (HBO.out.trans (hX.mono HBO.out.size)) HIx.out.few.inv.good (HOC.out.below hX) (by omega) hsz
    rw [← hPT] at r2 r3 r4 HPT
    rw [← hR] at r1 r4 hcm
    rw [r1] at hcm
    have HCM := Lib.hid hcm
    have HR4 := Lib.hid r4
    have HR2 := Lib.hid r2
    have HUX := Lib.hid HIx.out.us
    clear r1 r2 r4 hcs hsz hlen1 hvb he hPT hR hcm
    go_wp2_with fail
    go_at_call 11
    refine HE.out.mono ?_
    rintro e w11 ⟨rfl, rfl⟩
    go_wp2_with fail
    go_at_call 10
    refine HPT.out.mono ?_
    rintro e w12 ⟨pv, rfl, hop, hb12⟩
    rw [HR2.out]
    obtain ⟨Ap, cp, hpv, _⟩ := hop.shape
    subst hpv
    have HC12 := Lib.hid (HCM.out _ hb12)
    have HB12 := Lib.hid (HB10.out.trans (hb12.mono HB10.out.size))
    clear hop hb12
    go_wp2_with fail
    go_at_call 12
    refine HC12.out.mono ?_
    rintro e w13 ⟨rfl, hs13, hb13, _⟩
    have HS13 := Lib.hid hs13
    have HB13 := Lib.hid (HB12.out.trans hb13)
    have HE13 := Lib.hid (own_epochS hs13)
    have HU13 := Lib.hid (own_usedS hs13)
    clear hs13 hb13
    have hu100 := HUX.out
    obtain ⟨U, hU⟩ : ∃ U, U = x.us + PT.1.length := ⟨_, rfl⟩
    have mw : IntKind.i64.wrap ((x.us : Int) + (PT.1.length : Int)) = (U : Int) := by rw [IntKind.wrap_i64]; omega
    have hU105 : U ≤ 105 := by omega
    by_cases hov : 100 < U
    ·have hov2 : (100 : Int) < (U : Int) := by omega
     go_wp2_with fail
     go_at_call 8
     refine (HKN.out _).mono ?_
     rintro e wk ⟨rfl, hbk⟩
     have HBK := Lib.hid (HB13.out.trans (hbk.mono HB13.out.size))
     clear hbk
     go_wp2
     go_ret
     exact ⟨rfl, HBK.out⟩
    have hov2 : ¬ (100 : Int) < (U : Int) := by omega
    obtain ⟨z1, z2⟩ := HR4.out (by omega)
    have HZ1 := Lib.hid z1
    have hUe : R.1.us = U := z2.trans hU.symm
    have HUE := Lib.hid hUe
    rw [hUe] at HU13
    rw [z1.ep] at HE13
    clear hov z1 z2 hU hUe
    go_wp2_with fail
    go_at_call 13
    refine HU13.out.mono ?_
    rintro e w14 ⟨rfl, rfl⟩
    go_wp2_with fail
    go_at_call 11
    refine HE13.out.mono ?_
    rintro e w14 ⟨rfl, rfl⟩
    go_wp2
    go_roundw
    case rel => exact ⟨j + 1, R.1, by omega, by go_num, by rw [HUE.out], HZ1.out, HS13.out, HB13.out⟩
    case measure => simp [intOf]; omega
  ·obtain rfl : j = l.length := by omega
   have hm2 : ¬ (l.length : Int) < (l.length : Int) := by omega
   have HRW := Lib.hid (own_rowsS HSx.out HIx.out.few.inv.good)
   obtain ⟨c1, c2, c3, c4⟩ := HIx.out.ck
   have HCK := Lib.hid (fun X (hX : Below wr.heap.size wr X) => own_ckS (HSx.out.below hX) HIx.out.few.inv.good (by rw [HIx.out.ep]; omega))
   obtain ⟨X, hX⟩ : ∃ X, X = ckS x := ⟨_, rfl⟩
   rw [← hX] at c1 c2 c3 c4 HCK
   have HX1 := Lib.hid c1
   have HX2 := Lib.hid c2
   have HX3 := Lib.hid c3
   have HX4 := Lib.hid c4
   clear c1 c2 c3 c4 hX
   go_wp2_with fail
   go_at_call 14
   refine HRW.out.mono ?_
   rintro e w7 ⟨rv7, rfl, hor7, hb7⟩
   obtain ⟨A7, c7, hrv7⟩ := or_shape hor7
   subst hrv7
   have HC7 := Lib.hid (HCK.out _ hb7)
   have HB7 := Lib.hid (HBx.out.trans (hb7.mono HBx.out.size))
   clear hor7 hb7
   go_wp2_with fail
   go_at_call 15
   refine HC7.out.mono ?_
   rintro e w8 ⟨rfl, hs8, hb8⟩
   have HB8 := Lib.hid (HB7.out.trans hb8)
   have HU8 := own_usedS hs8
   rw [HX3.out] at HU8
   have HE8 := own_epochS hs8
   rw [HX4.out] at HE8
   have HR8 := own_rowsS hs8 HX1.out.good
   rw [HX2.out] at HR8
   have HU := Lib.hid HU8
   have HE := Lib.hid HE8
   have HR := Lib.hid HR8
   clear hs8 hb8 HU8 HE8 HR8
   go_wp2_with fail
   go_at_call 13
   refine HU.out.mono ?_
   rintro e w9 ⟨rfl, rfl⟩
   go_wp2_with fail
   go_at_call 11
   refine HE.out.mono ?_
   rintro e w9 ⟨rfl, rfl⟩
   go_wp2_with fail
   go_at_call 14
   refine HR.out.mono ?_
   rintro e w10 ⟨rv10, rfl, hor10, hb10⟩
   obtain ⟨A10, c10, hrv10⟩ := or_shape hor10
   subst hrv10
   have HB10 := Lib.hid (HB8.out.trans (hb10.mono HB8.out.size))
   clear hor10 hb10
   go_wp2_with fail
   go_at_call 8
   refine (HKN.out _).mono ?_
   rintro e wk ⟨rfl, hbk⟩
   have HBK := Lib.hid (HB10.out.trans (hbk.mono HB10.out.size))
   clear hbk
   go_wp2
   go_ret
   exact ⟨rfl, HBK.out⟩
end Go.Proofs.Ytmbkaedhllfoeaa
