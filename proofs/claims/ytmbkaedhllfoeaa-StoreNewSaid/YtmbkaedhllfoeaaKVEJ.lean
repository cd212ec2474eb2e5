/-
 The contracts of a device and of a store that lie apart from given blocks: these stay.; Plain mathematics of StoreFull: rows of the same size, and one less. No program.; The walk of StoreAgain: it answers true of any number, deeds, numbers and marks that no machine has trouble with.; The walk of StoreForms: it answers true of any numbers and choices.; The walk of StoreUsed: it answers true of any number and choices.; Two stores, and changes of the call's own, that lie apart.
-/
import Derived.Test.YtmbkaedhllfoeaaKVB
import Derived.Test.YtmbkaedhllfoeaaKVI
import Derived.Test.YtmbkaedhllfoeaaKVJ
import Derived.Test.YtmbkaedhllfoeaaKVDC
import Derived.Test.YtmbkaedhllfoeaaKVEI
set_option linter.unusedVariables false
namespace Go.Proofs.Ytmbkaedhllfoeaa
open Go.RowKit Go.Rst Go.Dv Go.Crc Go.Str Go.Pg
def OwnX (P : Nat → Prop) (B : Nat) (w : World) (v : Value) (s : Sim) : Prop := ∃ D : Nat → Prop, Dev D w v s ∧ (∀ k, D k → B ≤ k ∧ ¬ P k) ∧ B ≤ w.heap.size ∧ ∀ k, P k → k < w.heap.size
def OwnSX (P : Nat → Prop) (B dg : Nat) (w : World) (sv : Value) (x : Ss) : Prop := ∃ M : Nat → Prop, Sto dg M w sv x ∧ (∀ k, M k → B ≤ k ∧ ¬ P k) ∧ B ≤ w.heap.size ∧ ∀ k, P k → k < w.heap.size
structure Stay (P : Nat → Prop) (B : Nat) (w w' : World) : Prop where
 bel : Below B w w'
 same : ∀ k, P k → w'.heap[k]? = w.heap[k]?
section
variable {P P' : Nat → Prop} {B dg : Nat} {w w' w0 : World} {sv v : Value} {x : Ss} {s : Sim}
theorem Stay.trans_ {a : World} (h : Stay P B a w) (k : Stay P B w w') : Stay P B a w' := ⟨h.bel.trans k.bel, fun j hj => (k.same j hj).trans (h.same j hj)⟩
theorem Stay.of_below (h : Below w.heap.size w w') (hB : B ≤ w.heap.size) (hP : ∀ k, P k → k < w.heap.size) : Stay P B w w' := ⟨h.mono hB, fun k hk => h.block k (hP k hk)⟩
theorem OwnX.below (h : OwnX P B w v s) (hb : Below w.heap.size w w') : OwnX P B w' v s := by
 obtain ⟨D, h1, h2, h3, h4⟩ := h
 exact ⟨D, h1.below hb, h2, Nat.le_trans h3 hb.size, fun k hk => Nat.lt_of_lt_of_le (h4 k hk) hb.size⟩
theorem OwnSX.below (h : OwnSX P B dg w sv x) (hb : Below w.heap.size w w') : OwnSX P B dg w' sv x := by
 obtain ⟨D, h1, h2, h3, h4⟩ := h
 exact ⟨D, h1.below hb, h2, Nat.le_trans h3 hb.size, fun k hk => Nat.lt_of_lt_of_le (h4 k hk) hb.size⟩
theorem OwnSX.own (h : OwnSX P B dg w sv x) : OwnS B dg w sv x := by
 obtain ⟨M, h1, h2, h3, h4⟩ := h
 exact ⟨M, h1, fun k hk => (h2 k hk).1, h3⟩
theorem OwnSX.dev (h : OwnSX P B dg w sv x) : OwnX P B w (dp dg) x.d := by
 obtain ⟨M, ⟨D, R, g, rv, _, h1⟩, h2, h3⟩ := h
 exact ⟨D, h1.dev, fun k hk => h2 k ((h1.hM k).2 (.inl hk)), h3⟩
theorem OwnSX.more (h : OwnSX P B dg w sv x) (hb : Below w.heap.size w w') (hP : ∀ k, P' k → P k ∨ (w.heap.size ≤ k ∧ k < w'.heap.size)) : OwnSX P' B dg w' sv x := by
 obtain ⟨M, h1, h2, h3, h4⟩ := h
 refine ⟨M, h1.below hb, fun k hk => ⟨(h2 k hk).1, fun hp => ?_⟩, Nat.le_trans h3 hb.size, fun k hk => ?_⟩
 ·rcases hP k hp with h | h
  ·exact (h2 k hk).2 h
  ·have := h1.lt k hk; omega
 ·rcases hP k hk with h | h
  ·have := h4 k h; have := hb.size; omega
  ·exact h.2
theorem OwnX.more (h : OwnX P B w v s) (hb : Below w.heap.size w w') (hP : ∀ k, P' k → P k ∨ (w.heap.size ≤ k ∧ k < w'.heap.size)) : OwnX P' B w' v s := by
 obtain ⟨M, h1, h2, h3, h4⟩ := h
 refine ⟨M, h1.below hb, fun k hk => ⟨(h2 k hk).1, fun hp => ?_⟩, Nat.le_trans h3 hb.size, fun k hk => ?_⟩
 ·rcases hP k hp with h | h
  ·exact (h2 k hk).2 h
  ·have := h1.lt k hk; omega
 ·rcases hP k hk with h | h
  ·have := h4 k h; have := hb.size; omega
  ·exact h.2
end
end Go.Proofs.Ytmbkaedhllfoeaa
namespace Go.Proofs.Ytmbkaedhllfoeaa
open Go.RowKit Go.Rst Go.Dv Go.Crc Go.Str Go.Pg
theorem fit_few {n : Nat} {l : List Rw} (hs : Sorted l) (hn : l.length ≤ 40) (hr : ∀ r ∈ l, r.1.size ≤ 2 ∧ r.2.length ≤ 150) : fitB n l = decide (pgs l ≤ aN n) := by
 obtain ⟨ps, h1, h2, _⟩ := build_two hs hn hr
 unfold fitB
 rw [h1]
 simp only
 rw [h2]
theorem chgsL_one (c : Chg) : (chgsL [c]).length = 1 + (chgL c).length := by
 unfold chgsL
 have h1 : (numL 1).length = 1 := by decide +kernel
 have h2 : chgsB [c] = chgL c := by simp [chgsB]
 rw [List.length_append, h2, List.length_singleton, h1]
theorem one_commit {x : Ss} {k : ByteArray} {v : List UInt8} {g : Bool} (hI : InvS x) (hk : k.size ≤ 2) (hv : v.length ≤ 150) (hep : x.ep < 1073741824) :
  ((commitR x [(k, v, g)]).2 = if fitB x.n (stepL x.rows (k, v, g)) = true then 0 else 21) ∧ ((commitR x [(k, v, g)]).2 = 0 → (commitR x [(k, v, g)]).1.rows = stepL x.rows (k, v, g)) := by
 have hG := hI.good
 have hJ := (aN_pos hG.n).2
 have hlong : ([(k, v, g)] : List Chg).any longC = false := by
  simp only [List.any_cons, List.any_nil, Bool.or_false]
  unfold longC
  rw [decide_eq_false (by show ¬ 30 < k.size; omega), decide_eq_false (by show ¬ 150 < v.length; omega)]
  rfl
 have hcl : (chgsL [(k, v, g)]).length ≤ 176 := by
  rw [chgsL_one]
  have := chgL_few (k, v, g) (by show k.size ≤ _; omega) (by show v.length ≤ _; omega)
  show 1 + (chgL (k, v, g)).length ≤ 176
  have h2 : (chgL (k, v, g)).length ≤ 18 + (k.size + v.length) := this
  omega
 have hof : ofL (chgsL [(k, v, g)]) ≤ 5 := by unfold ofL; omega
 have hp : ∀ e f : Nat, e ≤ 1073741824 → f ≤ 1073741824 → (partsL (e : Int) (f : Int) [(k, v, g)]).2 = true := by
  intro e f he hf
  unfold partsL
  rw [if_neg (by omega), if_neg (by omega)]
 have hfr : x.fr ≤ 1073741824 := by have := hG.fr; have := hG.us; have := jN_le x.n; have := hG.ok.n; have : x.n ≤ 4096 := hG.ok.n; omega
 have hp1 := hp x.ep x.fr (by omega) hfr
 have hpl := parts_count hp1
 have ha : applyL x.rows [(k, v, g)] = stepL x.rows (k, v, g) := rfl
 have hj2 := (aN_pos hG.n).2
 unfold commitR
 rw [if_neg (by simp), if_neg (by rw [hlong]; decide), if_neg (by rw [hp1, hpl]; rintro (h | h); cases h; omega), ha]
 by_cases hf : fitB x.n (stepL x.rows (k, v, g)) = true
 ·rw [if_neg (by rw [hf]; decide), if_pos hf]
  by_cases hr : x.us + (partsL (x.ep : Int) (x.fr : Int) [(k, v, g)]).1.length ≤ jN x.n
  ·rw [if_pos hr]
   exact ⟨rfl, fun _ => rfl⟩
  ·rw [if_neg hr, if_neg (by omega)]
   exact ⟨rfl, fun _ => rfl⟩
 ·have hf' : fitB x.n (stepL x.rows (k, v, g)) = false := by simpa using hf
  rw [if_pos hf', if_neg hf]
  exact ⟨rfl, fun h => (by cases h)⟩
def keyN (i : Nat) : ByteArray := ⟨#[UInt8.ofNat (97 + i % 26), UInt8.ofNat (97 + i / 26)]⟩
theorem keyN_inj {i j : Nat} (hi : i < 40) (hj : j < 40) (h : keyN i = keyN j) : i = j := by
 unfold keyN at h
 injection h with h
 have h1 := congrArg (fun a : Array UInt8 => (a.getD 0 0).toNat) h
 have h2 := congrArg (fun a : Array UInt8 => (a.getD 1 0).toNat) h
 simp at h1 h2
 omega
theorem keyN_size (i : Nat) : (keyN i).size = 2 := rfl
def RowsV (V j : Nat) (rs : List Rw) : Prop := Sorted rs ∧ ∀ r ∈ rs, (∃ i, i < j ∧ r.1 = keyN i) ∧ r.2 = List.replicate V 0
theorem rsz_v {V : Nat} {r : Rw} {i : Nat} (hV : V ≤ 149) (h1 : r.1 = keyN i) (h2 : r.2 = List.replicate V 0) : rsz r = 5 + (numL V).length + V - 1 := by
 have hs : r.1.data.toList.length = 2 := by rw [h1]; rfl
 have hn : (numL 2).length = 1 := by decide +kernel
 have hp := numL_pos V
 unfold rsz rowB rowL textL
 simp only [List.length_append]
 rw [hs, hn, h2, List.length_replicate]
 omega
theorem RowsV.same {V j : Nat} {rs : List Rw} (h : RowsV V j rs) (hV : V ≤ 149) : ∀ r ∈ rs, r.1.size ≤ 30 ∧ r.2.length ≤ 150 ∧ rsz r = 5 + (numL V).length + V - 1 := by
 intro r hr
 obtain ⟨⟨i, _, h1⟩, h2⟩ := h.2 r hr
 refine ⟨by rw [h1, keyN_size]; omega, by rw [h2, List.length_replicate]; omega, rsz_v hV h1 h2⟩
theorem RowsV.few {V j : Nat} {rs : List Rw} (h : RowsV V j rs) (hV : V ≤ 149) : ∀ r ∈ rs, r.1.size ≤ 2 ∧ r.2.length ≤ 150 := by
 intro r hr
 obtain ⟨⟨i, _, h1⟩, h2⟩ := h.2 r hr
 exact ⟨by rw [h1, keyN_size]; exact Nat.le_refl _, by rw [h2, List.length_replicate]; omega⟩
theorem RowsV.new {V j : Nat} {rs : List Rw} (h : RowsV V j rs) (hj : j < 40) : hasL (keyN j) rs = false := by
 cases hh : hasL (keyN j) rs with
 | false => rfl
 | true =>
  exfalso
  unfold hasL at hh
  split at hh
  ·rename_i y e
   have hy : y ∈ rs := List.mem_of_getElem? e
   obtain ⟨⟨i, hi, h1⟩, _⟩ := h.2 y hy
   have h2 : y.1 = keyN j := ba_ext (eq_of_beq hh)
   rw [h1] at h2
   have := keyN_inj (by omega) hj h2
   omega
  ·cases hh
theorem RowsV.put {V j : Nat} {rs : List Rw} (h : RowsV V j rs) (hj : j < 40) : RowsV V (j + 1) (stepL rs (keyN j, List.replicate V 0, false)) ∧ (stepL rs (keyN j, List.replicate V 0, false)).length = rs.length + 1 := by
 have hn := h.new hj
 have hp := posL_le (keyN j) rs
 refine ⟨⟨stepL_sorted h.1, fun r hr => ?_⟩, ?_⟩
 ·rw [step_ins h.1 hn] at hr
  rcases List.mem_append.1 hr with hr | hr
  ·obtain ⟨⟨i, hi, h1⟩, h2⟩ := h.2 r (List.mem_of_mem_take hr)
   exact ⟨⟨i, by omega, h1⟩, h2⟩
  ·rcases List.mem_cons.1 hr with rfl | hr
   ·exact ⟨⟨j, by omega, rfl⟩, rfl⟩
   ·obtain ⟨⟨i, hi, h1⟩, h2⟩ := h.2 r (List.mem_of_mem_drop hr)
    exact ⟨⟨i, by omega, h1⟩, h2⟩
 ·rw [step_ins h.1 hn, List.length_append, List.length_cons, List.length_take, List.length_drop]
  omega
theorem RowsV.more {V j j' : Nat} {rs : List Rw} (h : RowsV V j rs) (hj : j ≤ j') : RowsV V j' rs := ⟨h.1, fun r hr => by
 obtain ⟨⟨i, hi, h1⟩, h2⟩ := h.2 r hr
 exact ⟨⟨i, by omega, h1⟩, h2⟩⟩
theorem RowsV.less {V j n : Nat} {r : Rw} {rs : List Rw} (h : RowsV V j (r :: rs)) (hV : V ≤ 149) (hV2 : 100 ≤ V) (hl : (r :: rs).length ≤ 40) (hf : fitB n (r :: rs) = true) : RowsV V j rs ∧ fitB n rs = true := by
 have h' : RowsV V j rs := ⟨(List.pairwise_cons.1 h.1).2, fun y hy => h.2 y (List.mem_cons_of_mem _ hy)⟩
 refine ⟨h', ?_⟩
 rw [fit_few h.1 hl (h.few hV), decide_eq_true_eq] at hf
 rw [fit_few h'.1 (by rw [List.length_cons] at hl; omega) (h'.few hV), decide_eq_true_eq]
 have hnl := numL_len 1 V (by omega)
 have hp := numL_pos V
 exact Nat.le_trans (pgs_less (by omega) (by omega) (by rw [List.length_cons]; omega) (h.same hV) (h'.same hV)) hf
end Go.Proofs.Ytmbkaedhllfoeaa
namespace Go.Proofs.Ytmbkaedhllfoeaa
open Go.RowKit Go.Rst Go.Dv Go.Crc Go.Str Go.Pg
theorem putS_fuse {x : Ss} {cs : List Chg} (h : x.d.fuse = none) : (putS x cs).d.fuse = none := flush_fuse (writeL_fuse h _ _ _)
theorem ckS_fuse {x : Ss} (h : x.d.fuse = none) : (ckS x).d.fuse = none := layS_fuse h _ _ _
theorem commit_fuse {x : Ss} (cs : List Chg) (h : x.d.fuse = none) : (commitR x cs).1.d.fuse = none := by
 unfold commitR
 split
 ·exact h
 ·split
  ·exact h
  ·split
   ·exact h
   ·split
    ·exact h
    ·split
     ·exact putS_fuse h
     ·split
      ·exact h
      ·exact putS_fuse (ckS_fuse h)
end Go.Proofs.Ytmbkaedhllfoeaa
namespace Go.Proofs.Ytmbkaedhllfoeaa
open Go.RowKit Go.Rst Go.Dv Go.Crc Go.Str Go.Pg
theorem below_dl {B : Nat} {w w' : World} (h : Below B w w') : Below B w.drew w' := ⟨h.os, h.tape, h.output, h.size, h.block⟩
def key16 (c : Nat) : ByteArray := ⟨#[UInt8.ofNat (97 + c % 16)]⟩
theorem key16_size (c : Nat) : (key16 c).size = 1 := rfl
theorem one_reads (c : Nat) {v : List UInt8} (hv : v.length ≤ 150) (g : Bool) (hg : g = true → v = []) : readChgs (chgsL [(key16 c, v, g)]) = ([(key16 c, v, g)], 0) := by
 refine readChgs_back _ (by simp) (fun x hx => ?_)
 simp only [List.mem_singleton] at hx
 subst hx
 exact ⟨by show (key16 c).data.toList.length ≤ 30; rw [size_list, key16_size]; omega, by show v.length ≤ 150; exact hv, hg⟩
theorem one_sizes (c : Nat) {v : List UInt8} (hv : v.length ≤ 150) (g : Bool) : sizesC [(key16 c, v, g)] ≤ 90000 := by
 simp only [sizesC, List.map_cons, List.map_nil, List.sum_cons, List.sum_nil, key16_size]
 omega
structure DevI (n : Nat) (s : Sim) : Prop where
 ok : OK s
 fu : s.fuse = none
 lo : s.loose = []
 n : s.firm.length = n
structure FmI (n j : Nat) (x : Ss) : Prop where
 inv : InvS x
 n : x.n = n
 fu : x.d.fuse = none
 ep : x.ep ≤ 2 + j
theorem FmI.step {n j : Nat} {x : Ss} (h : FmI n j x) (c : Nat) {v : List UInt8} (hv : v.length ≤ 150) : FmI n (j + 1) (commitR x [(key16 c, v, false)]).1 := by
 obtain ⟨s1, s2, s3, _⟩ := commit_step (cs := [(key16 c, v, false)]) h.inv (fun _ => one_reads c hv false (by simp))
 exact ⟨s1, s2.trans h.n, commit_fuse _ h.fu, by have := h.ep; omega⟩
theorem FmI.dev {n j : Nat} {x : Ss} (h : FmI n j x) : DevI n x.d := ⟨h.inv.good.ok, h.fu, (h.inv.live (goes_none h.fu)).1, h.n⟩
theorem DevI.opened {n : Nat} {s : Sim} (h : DevI n s) (hn : 64 ≤ n) : openR (formatS s) = (0, openedS s) ∧ FmI n 0 (openedS s) ∧ (formatS s).loose = [] ∧ 64 ≤ (formatS s).firm.length ∧ (openedS s).ep = 2 ∧ (openedS s).rows = [] ∧ (openedS s).us = 0 := by
 obtain ⟨o1, o2, o3, o4, o5, o6⟩ := open_format h.ok h.fu h.lo (by rw [h.n]; exact hn)
 exact ⟨o1, ⟨o2, o4.trans h.n, o3, Nat.le_refl _⟩, o5, o6, rfl, rfl, rfl⟩
end Go.Proofs.Ytmbkaedhllfoeaa
namespace Go.Proofs.Ytmbkaedhllfoeaa
open Go.RowKit Go.Rst Go.Dv Go.Crc Go.Str Go.Pg
theorem stepL_mem {l : List Rw} {c : Chg} (hs : Sorted l) {r : Rw} (h : r ∈ stepL l c) : r = (c.1, c.2.1) ∨ r ∈ l := by
 obtain ⟨k, v, g⟩ := c
 cases g with
 | true =>
  right
  have e : stepL l (k, v, true) = outL k l := rfl
  rw [e] at h
  exact (List.mem_filter.1 h).1
 | false =>
  cases hh : hasL k l with
  | true =>
   rw [step_set hs hh] at h
   rcases List.mem_or_eq_of_mem_set h with h | h
   ·exact .inr h
   ·exact .inl h
  | false =>
   rw [step_ins hs hh] at h
   rcases List.mem_append.1 h with h | h
   ·exact .inr (List.mem_of_mem_take h)
   ·rcases List.mem_cons.1 h with h | h
    ·exact .inl h
    ·exact .inr (List.mem_of_mem_drop h)
structure FewI (n j : Nat) (x : Ss) : Prop where
 inv : InvS x
 n : x.n = n
 fu : x.d.fuse = none
 few : ∀ r ∈ x.rows, r.1.size ≤ 2 ∧ r.2.length ≤ 150
 len : x.rows.length ≤ j
theorem few_fit {n : Nat} {rs : List Rw} (hs : Sorted rs) (hl : rs.length ≤ 40) (hf : ∀ r ∈ rs, r.1.size ≤ 2 ∧ r.2.length ≤ 150) (hn : rs.length + 2 ≤ aN n) : fitB n rs = true := by
 rw [fit_few hs hl hf, decide_eq_true_eq]
 obtain ⟨_, _, _, h3⟩ := build_two hs hl hf
 unfold pgs
 split <;> omega
theorem FewI.put {n j : Nat} {x : Ss} (h : FewI n j x) (hj : j < 40) (hn : j + 3 ≤ aN n) (hep : x.ep ≤ 1000) (c : Nat) {v : List UInt8} {g : Bool} (hv : v.length ≤ 150) (hg : g = true → v = []) :
  (commitR x [(key16 c, v, g)]).2 = 0 ∧ (commitR x [(key16 c, v, g)]).1.rows = stepL x.rows (key16 c, v, g) ∧ FewI n (j + 1) (commitR x [(key16 c, v, g)]).1 ∧ (commitR x [(key16 c, v, g)]).1.ep ≤ x.ep + 1 := by
 have hsort := (rows_few_ h.inv.good).1
 have hstep : ∀ r ∈ stepL x.rows (key16 c, v, g), r.1.size ≤ 2 ∧ r.2.length ≤ 150 := by
  intro r hr
  rcases stepL_mem hsort hr with rfl | hr
  ·exact ⟨by show (key16 c).size ≤ 2; rw [key16_size]; omega, hv⟩
  ·exact h.few r hr
 have hlen := stepL_len x.rows (key16 c, v, g)
 have hl := h.len
 have hfit := few_fit (n := n) (stepL_sorted (c := (key16 c, v, g)) hsort) (by omega) hstep (by omega)
 obtain ⟨s1, s2, s3, _⟩ := commit_step (cs := [(key16 c, v, g)]) h.inv (fun _ => one_reads c hv g hg)
 obtain ⟨o1, o2⟩ := one_commit (k := key16 c) (v := v) (g := g) h.inv (by rw [key16_size]; omega) hv (by omega)
 rw [h.n, if_pos hfit] at o1
 exact ⟨o1, o2 o1, ⟨s1, s2.trans h.n, commit_fuse _ h.fu, by rw [o2 o1]; exact hstep, by rw [o2 o1]; omega⟩, s3⟩
theorem parts_ok {e f : Nat} (c : Nat) {v : List UInt8} {g : Bool} (hv : v.length ≤ 150) (he : e ≤ 1000) (hf : f ≤ 1000) : (partsL (e : Int) (f : Int) [(key16 c, v, g)]).2 = true ∧ (partsL (e : Int) (f : Int) [(key16 c, v, g)]).1.length ≤ 5 := by
 have hcl : (chgsL [(key16 c, v, g)]).length ≤ 176 := by
  rw [chgsL_one]
  have := chgL_few (key16 c, v, g) (by show (key16 c).size ≤ _; rw [key16_size]; omega) (by show v.length ≤ _; omega)
  have h2 : (chgL (key16 c, v, g)).length ≤ 18 + ((key16 c).size + v.length) := this
  rw [key16_size] at h2
  omega
 have hof : ofL (chgsL [(key16 c, v, g)]) ≤ 5 := by unfold ofL; omega
 have hp : (partsL (e : Int) (f : Int) [(key16 c, v, g)]).2 = true := by
  unfold partsL
  rw [if_neg (by omega), if_neg (by omega)]
 exact ⟨hp, by rw [parts_count hp]; exact hof⟩
theorem commit_used {x : Ss} {cs : List Chg} (h0 : (commitR x cs).2 = 0) (hne : cs ≠ []) (hr : x.us + (partsL (x.ep : Int) (x.fr : Int) cs).1.length ≤ jN x.n) :
  (commitR x cs).1.us = x.us + (partsL (x.ep : Int) (x.fr : Int) cs).1.length ∧ (commitR x cs).1.ep = x.ep ∧ (commitR x cs).1.fr = x.fr + 1 := by
 unfold commitR at *
 rw [if_neg hne] at h0 ⊢
 by_cases h1 : cs.any longC = true
 ·rw [if_pos h1] at h0; cases h0
 ·rw [if_neg h1] at h0 ⊢
  by_cases h2 : (partsL (x.ep : Int) (x.fr : Int) cs).2 = false ∨ jN x.n < (partsL (x.ep : Int) (x.fr : Int) cs).1.length
  ·rw [if_pos h2] at h0; cases h0
  ·rw [if_neg h2] at h0 ⊢
   by_cases h3 : fitB x.n (applyL x.rows cs) = false
   ·rw [if_pos h3] at h0; cases h0
   ·rw [if_neg h3, if_pos hr]
    exact ⟨rfl, rfl, rfl⟩
structure UsI (j : Nat) (x : Ss) : Prop where
 few : FewI 400 j x
 ep : x.ep = 2
 fr : x.fr = j
theorem UsI.us {j : Nat} {x : Ss} (h : UsI j x) : x.us ≤ 100 := by
 have := h.few.inv.good.us
 rw [h.few.n] at this
 exact Nat.le_trans this (by decide)
theorem UsI.put {j : Nat} {x : Ss} (h : UsI j x) (hj : j < 30) (c : Nat) {v : List UInt8} (hv : v.length ≤ 150) :
  (commitR x [(key16 c, v, false)]).2 = 0 ∧ (partsL (2 : Int) (j : Int) [(key16 c, v, false)]).2 = true ∧ (partsL (2 : Int) (j : Int) [(key16 c, v, false)]).1.length ≤ 5 ∧
   (x.us + (partsL (2 : Int) (j : Int) [(key16 c, v, false)]).1.length ≤ 100 → UsI (j + 1) (commitR x [(key16 c, v, false)]).1 ∧ (commitR x [(key16 c, v, false)]).1.us = x.us + (partsL (2 : Int) (j : Int) [(key16 c, v, false)]).1.length) := by
 have ha : aN 400 = 37 := by decide
 obtain ⟨p1, p2, p3, _⟩ := h.few.put (by omega) (by omega) (by rw [h.ep]; omega) c (v := v) (g := false) hv (by simp)
 obtain ⟨q1, q2⟩ := parts_ok (e := 2) (f := j) c (v := v) (g := false) hv (by omega) (by omega)
 have hj4 : jN 400 = 100 := by decide
 refine ⟨p1, q1, q2, fun hr => ?_⟩
 have hu := commit_used (x := x) (cs := [(key16 c, v, false)]) p1 (by simp) (by rw [h.ep, h.fr, h.few.n, hj4]; exact hr)
 rw [h.ep, h.fr] at hu
 exact ⟨⟨p3, hu.2.1, hu.2.2⟩, hu.1⟩
theorem UsI.ck {j : Nat} {x : Ss} (h : UsI j x) : InvS (ckS x) ∧ (ckS x).rows = x.rows ∧ (ckS x).us = 0 ∧ (ckS x).ep = 3 := by
 obtain ⟨c1, _, _⟩ := ck_step h.few.inv.good (fun hg => h.few.inv.fnd hg) (by rw [h.ep]; omega)
 exact ⟨c1, rfl, rfl, by show x.ep + 1 = 3; rw [h.ep]⟩
end Go.Proofs.Ytmbkaedhllfoeaa
namespace Go.Proofs.Ytmbkaedhllfoeaa
open Go.RowKit Go.Rst Go.Dv Go.Crc Go.Str Go.Pg
def OCP (P : Nat → Prop) (B : Nat) (w : World) (v : Value) (cs : List Chg) : Prop :=
 ∃ us : List (Chg × Value), us.map (·.1) = cs ∧ w.ownsRow B 33 3 v us.length (chCells us) ∧ (∀ x ∈ us, FB 5 w B x.2 x.1.2.1) ∧ (∀ k, v.ownBlock = some k → P k) ∧ ∀ x ∈ us, ∀ k, x.2.ownBlock = some k → P k
theorem OCP.oc {P : Nat → Prop} {B : Nat} {w : World} {v : Value} {cs : List Chg} (h : OCP P B w v cs) : OC 5 33 w B v cs := by
 obtain ⟨us, h1, h2, h3, _⟩ := h
 exact ⟨us, h1, h2, h3⟩
theorem fb_keep {w w' : World} {B : Nat} {v : Value} {l : List UInt8} (h : FB 5 w B v l) (hk : ∀ k, v.ownBlock = some k → w'.heap[k]? = w.heap[k]?) : FB 5 w' B v l := by
 rcases h with h | ⟨g, c, cur, fr, e1, e2, e3, e4⟩
 ·exact .inl h
 ·exact .inr ⟨g, c, cur, fr, e1, e2, (hk g (by rw [e1]; rfl)).trans e3, e4⟩
theorem OCP.fr {P M : Nat → Prop} {B : Nat} {w w' : World} {v : Value} {cs : List Chg} (h : OCP P B w v cs) (hf : Fr M w w') (hM : ∀ k, M k → ¬ P k) (hP : ∀ k, P k → k < w.heap.size) : OCP P B w' v cs := by
 obtain ⟨us, h1, h2, h3, h4, h5⟩ := h
 refine ⟨us, h1, own_same h2 (fun k hk => hf.block k (hP k (h4 k hk)) (fun hm => hM k hm (h4 k hk))), fun x hx => fb_keep (h3 x hx) (fun k hk => hf.block k (hP k (h5 x hx k hk)) (fun hm => hM k hm (h5 x hx k hk))), h4, h5⟩
theorem OCP.nil_ (P : Nat → Prop) (B : Nat) (w : World) : OCP P B w (.slice none 0 0) [] := ⟨[], rfl, World.ownsRow_nil _ _ _ _, (fun _ h => by cases h), (fun k hk => by cases hk), (fun _ h => by cases h)⟩
theorem wpList_own3 {P : Program} {w : World} {ops : Array Oper} {rest : List Oper} {o : Oper} {a : Act} {Q : Exit → Act → World → Prop} (hgd : o.guard = none) (s x : Operand) (t tx : TypeId)
  (ho : o.op = .call { callee := .builtin .append, args := #[s, x], argTypes := #[t, tx] })
  (base : Nat) (e : TypeId) (z : Value) (size bytes : Nat) (ht : P.underlying t = some (.slice e)) (hinfo : (P.info? e).map (fun i => (i.zero, i.size, i.bytes)) = some (some z, size, bytes))
  (hzs : z.cells.size = size)
  {v : Value} {n : Nat} {xs : List Value} (hs : a.eval s = v) (hown : w.ownsRow base e size v n xs)
  {xv : Value} {m : Nat} {news : List Value} (hx : a.eval x = xv) (hsrc : Src P size tx xv m news w)
  (h63 : n + m ≤ maxLen) (hbytes : (n + m) * bytes ≤ 140737488355328) (hbase : base ≤ w.heap.size)
  (h : ∀ v' w', w'.ownsRow base e size v' (n + m) (xs ++ news) → w.grownBy w' v.ownBlock → (v'.ownBlock = v.ownBlock ∨ v'.ownBlock = some w.heap.size) → wpList P ops Q rest (a.put o.dst v') w') : wpList P ops Q (o :: rest) a w := by
 obtain ⟨i, hi, hz, hsz, hb⟩ := info_parts hinfo
 exact wpList_append_src hgd s x t tx ho base e i z size bytes ht hi hz hsz hb hzs hs hown hx hsrc h63 hbytes hbase fun v' w' h1 h2 h3 => h v' w' h1 h2 h3
structure Ro (R : (Nat → Prop) → World → Prop) : Prop where
 fr : ∀ {M E : Nat → Prop} {w w' : World}, R M w → Fr E w w' → (∀ k, E k → ¬ M k) → R M w'
 lt : ∀ {M : Nat → Prop} {w : World}, R M w → ∀ k, M k → k < w.heap.size
theorem ro_dev (v : Value) (s : Sim) : Ro (fun M w => Dev M w v s) := ⟨fun h hf hE => h.fr hf hE, fun h => h.lt⟩
theorem ro_sto (dg : Nat) (sv : Value) (x : Ss) : Ro (fun M w => Sto dg M w sv x) := ⟨fun h hf hE => h.fr hf hE, fun h => h.lt⟩
def TwoR (B : Nat) (RA RB : (Nat → Prop) → World → Prop) (w : World) : Prop := ∃ Ma Mb : Nat → Prop, RA Ma w ∧ RB Mb w ∧ (∀ k, Ma k → B ≤ k ∧ ¬ Mb k) ∧ (∀ k, Mb k → B ≤ k) ∧ B ≤ w.heap.size
def DidR (R : (Nat → Prop) → World → Prop) (M : Nat → Prop) (w w' : World) : Prop := ∃ M' : Nat → Prop, R M' w' ∧ Fr M w w' ∧ ∀ k, M' k → M k ∨ w.heap.size ≤ k
section
variable {B : Nat} {RA RA' RB RB' : (Nat → Prop) → World → Prop} {w w' : World}
theorem TwoR.below (ha : Ro RA) (hb : Ro RB) (h : TwoR B RA RB w) (hbl : Below w.heap.size w w') : TwoR B RA RB w' := by
 obtain ⟨Ma, Mb, h1, h2, h3, h4, h5⟩ := h
 exact ⟨Ma, Mb, ha.fr (E := fun _ => False) h1 (Fr.of_below hbl) (fun _ h => h.elim), hb.fr (E := fun _ => False) h2 (Fr.of_below hbl) (fun _ h => h.elim), h3, h4, Nat.le_trans h5 hbl.size⟩
theorem TwoR.left (_ha : Ro RA) (hb : Ro RB) (h : TwoR B RA RB w) (hd : ∀ M, RA M w → DidR RA' M w w') : TwoR B RA' RB w' ∧ Below B w w' := by
 obtain ⟨Ma, Mb, h1, h2, h3, h4, h5⟩ := h
 obtain ⟨M', d1, d2, d3⟩ := hd Ma h1
 refine ⟨⟨M', Mb, d1, hb.fr h2 d2 (fun k hk => (h3 k hk).2), fun k hk => ?_, h4, Nat.le_trans h5 d2.size⟩, d2.below (fun k hk => (h3 k hk).1) h5⟩
 rcases d3 k hk with hm | hm
 ·exact h3 k hm
 ·exact ⟨by omega, fun ht => by have := hb.lt h2 k ht; omega⟩
theorem TwoR.swap (h : TwoR B RA RB w) : TwoR B RB RA w := by
 obtain ⟨Ma, Mb, h1, h2, h3, h4, h5⟩ := h
 exact ⟨Mb, Ma, h2, h1, fun k hk => ⟨h4 k hk, fun hm => (h3 k hm).2 hk⟩, fun k hk => (h3 k hk).1, h5⟩
theorem TwoR.right (ha : Ro RA) (hb : Ro RB) (h : TwoR B RA RB w) (hd : ∀ M, RB M w → DidR RB' M w w') : TwoR B RA RB' w' ∧ Below B w w' := by
 obtain ⟨a, b⟩ := h.swap.left hb ha hd
 exact ⟨a.swap, b⟩
end
theorem two_new {B n : Nat} {w w1 w2 : World} {va vb : Value} (hB : B ≤ w.heap.size) (h1 : Dv.Own w.heap.size w1 va (Sim.new n)) (hb1 : Below w.heap.size w w1) (h2 : Dv.Own w1.heap.size w2 vb (Sim.new n)) (hb2 : Below w1.heap.size w1 w2) :
  TwoR B (fun M w => Dev M w va (Sim.new n)) (fun M w => Dev M w vb (Sim.new n)) w2 := by
 obtain ⟨Da, a1, a2, a3⟩ := h1
 obtain ⟨Db, b1, b2, b3⟩ := h2
 have hs := hb1.size
 exact ⟨Da, Db, a1.below hb2, b1, fun k hk => ⟨by have := a2 k hk; omega, fun hb => by have := a1.lt k hk; have := b2 k hb; omega⟩, fun k hk => by have := b2 k hk; omega, by have := hb2.size; omega⟩
theorem two_formatA {B da : Nat} {w : World} {s : Sim} {RB : (Nat → Prop) → World → Prop} (hb : Ro RB) (h : TwoR B (fun M w => Dev M w (dp da) s) RB w) (hn : 64 ≤ s.firm.length) (hl : s.loose.length ≤ 40000) :
  Calls Try.prog 7 #[dp da] w fun e w' => e = .returned (.int .u16 0) ∧ TwoR B (fun M w => Dev M w (dp da) (formatS s)) RB w' ∧ Below B w w' := by
 obtain ⟨Ma, Mb, h1, h2, h3⟩ := h
 refine (format_st h1 hn hl).mono ?_
 rintro e w' ⟨he, hd⟩
 obtain ⟨D', d1, d2, d3⟩ := hd
 obtain ⟨q1, q2⟩ := TwoR.left (RA := fun M w => M = Ma ∧ Dev M w (dp da) s) (RA' := fun M w => Dev M w (dp da) (formatS s)) (w' := w') ⟨fun h hf hE => ⟨h.1, h.2.fr hf hE⟩, fun h => h.2.lt⟩ hb ⟨Ma, Mb, ⟨rfl, h1⟩, h2, h3⟩ (fun M hM => ⟨D', d1, hM.1 ▸ d2, fun k hk => hM.1 ▸ d3 k hk⟩)
 exact ⟨he, q1, q2⟩
theorem two_openA {B da : Nat} {w : World} {s : Sim} {y : Ss} {RB : (Nat → Prop) → World → Prop} (hb : Ro RB) (h : TwoR B (fun M w => Dev M w (dp da) s) RB w) (hn : 64 ≤ s.firm.length) (hl : s.loose = []) (ho : openR s = (0, y)) :
  Calls Try.prog 9 #[dp da] w fun e w' => ∃ sv, e = .returned (.tuple #[sv, .int .u16 0]) ∧ (∃ g, sv = .pointer (some ⟨g, 0, none⟩)) ∧ TwoR B (fun M w => Sto da M w sv y) RB w' ∧ Below B w w' := by
 obtain ⟨Ma, Mb, h1, h2, h3⟩ := h
 refine (open_any h1 hn (by rw [hl]; exact Nat.zero_le _) (fun _ => hl)).mono ?_
 rintro e w' ⟨sv, he, h4⟩
 rw [ho] at he h4
 rcases h4 with ⟨a1, _⟩ | ⟨_, M', a2, a3, a4⟩
 ·exact (a1 rfl).elim
 ·obtain ⟨q1, q2⟩ := TwoR.left (RA := fun M w => M = Ma ∧ Dev M w (dp da) s) (RA' := fun M w => Sto da M w sv y) (w' := w') ⟨fun h hf hE => ⟨h.1, h.2.fr hf hE⟩, fun h => h.2.lt⟩ hb ⟨Ma, Mb, ⟨rfl, h1⟩, h2, h3⟩ (fun M hM => ⟨M', a2, hM.1 ▸ a3, fun k hk => hM.1 ▸ a4 k hk⟩)
  refine ⟨sv, he, ?_, q1, q2⟩
  obtain ⟨_, _, g, _, e2, _⟩ := a2
  exact ⟨g, e2⟩
def TwoS (B da db : Nat) (w : World) (sv tv va : Value) (x y : Ss) (cs : List Chg) : Prop :=
 ∃ Ms Mt P : Nat → Prop, Sto da Ms w sv x ∧ Sto db Mt w tv y ∧ OCP P B w va cs ∧ (∀ k, Ms k → B ≤ k ∧ ¬ Mt k ∧ ¬ P k) ∧ (∀ k, Mt k → B ≤ k ∧ ¬ P k) ∧ (∀ k, P k → k < w.heap.size) ∧ B ≤ w.heap.size
section
variable {B da db : Nat} {w w' : World} {sv tv va : Value} {x y : Ss} {cs : List Chg}
theorem TwoS.size (h : TwoS B da db w sv tv va x y cs) : B ≤ w.heap.size := by obtain ⟨_, _, _, _, _, _, _, _, _, h⟩ := h; exact h
theorem TwoS.below (h : TwoS B da db w sv tv va x y cs) (hb : Below w.heap.size w w') : TwoS B da db w' sv tv va x y cs := by
 obtain ⟨Ms, Mt, P, h1, h2, h3, h4, h5, h6, h7⟩ := h
 exact ⟨Ms, Mt, P, h1.below hb, h2.below hb, h3.fr (M := fun _ => False) (Fr.of_below hb) (fun _ h => h.elim) h6, h4, h5, fun k hk => Nat.lt_of_lt_of_le (h6 k hk) hb.size, Nat.le_trans h7 hb.size⟩
theorem TwoS.rc (h : TwoS B da db w sv tv va x y cs) : RC w va cs := by
 obtain ⟨_, _, _, _, _, h, _⟩ := h
 exact h.oc.rc
theorem TwoS.left (h : TwoS B da db w sv tv va x y cs) : OwnS B da w sv x := by
 obtain ⟨Ms, Mt, P, h1, h2, h3, h4, h5, h6, h7⟩ := h
 exact ⟨Ms, h1, fun k hk => (h4 k hk).1, h7⟩
theorem TwoS.right (h : TwoS B da db w sv tv va x y cs) : OwnS B db w tv y := by
 obtain ⟨Ms, Mt, P, h1, h2, h3, h4, h5, h6, h7⟩ := h
 exact ⟨Mt, h2, fun k hk => (h5 k hk).1, h7⟩
theorem two_ck (h : TwoS B da db w sv tv va x y cs) (hG : GoodX x) (he : x.ep < 1073741824) :
  Calls Try.prog 15 #[sv] w fun e w2 => e = .returned (.int .u16 0) ∧ TwoS B da db w2 sv tv va (ckS x) y cs ∧ Below B w w2 := by
 obtain ⟨Ms, Mt, P, h1, h2, h3, h4, h5, h6, h7⟩ := h
 refine (ck_any h1 hG he).mono ?_
 rintro e w2 ⟨he, Ms', d1, d2, d3⟩
 refine ⟨he, ⟨Ms', Mt, P, d1, h2.fr d2 (fun k hk hm => (h4 k hk).2.1 hm), h3.fr d2 (fun k hk => (h4 k hk).2.2) h6, fun k hk => ?_, h5, fun k hk => Nat.lt_of_lt_of_le (h6 k hk) d2.size, Nat.le_trans h7 d2.size⟩, d2.below (fun k hk => (h4 k hk).1) h7⟩
 rcases d3 k hk with hm | hm
 ·exact h4 k hm
 ·exact ⟨by omega, fun ht => by have := h2.lt k ht; omega, fun hp => by have := h6 k hp; omega⟩
theorem two_all (h : TwoS B da db w sv tv va x y cs) (hG : GoodX y) (hcn : cs.length ≤ 5000) (hcs : sizesC cs ≤ 90000) :
  Calls Try.prog 12 #[tv, va] w fun e w2 => e = .returned (.int .u16 ((commitR y cs).2 : Int)) ∧ OwnS B da w2 sv x ∧ OwnS B db w2 tv (commitR y cs).1 ∧ Below B w w2 := by
 obtain ⟨Ms, Mt, P, h1, h2, h3, h4, h5, h6, h7⟩ := h
 obtain ⟨q1, q2⟩ := chgsB_few cs hcs
 refine (commit_any h2 hG (fun X hX => (h3.fr hX (fun k hk => (h5 k hk).2) h6).oc.rc) (by omega) (by omega) q2).mono ?_
 rintro e w2 ⟨he, Mt', d1, d2, d3⟩
 exact ⟨he, ⟨Ms, h1.fr d2 (fun k hk hm => (h4 k hm).2.1 hk), fun k hk => (h4 k hk).1, Nat.le_trans h7 d2.size⟩, ⟨Mt', d1, fun k hk => by rcases d3 k hk with hm | hm; exact (h5 k hm).1; omega, Nat.le_trans h7 d2.size⟩, d2.below (fun k hk => (h5 k hk).1) h7⟩
theorem TwoS.start (h : TwoR B (fun M w => Sto da M w sv x) (fun M w => Sto db M w tv y) w) : TwoS B da db w sv tv (.slice none 0 0) x y [] := by
 obtain ⟨Ma, Mb, h1, h2, h3, h4, h5⟩ := h
 exact ⟨Ma, Mb, fun _ => False, h1, h2, OCP.nil_ _ _ _, fun k hk => ⟨(h3 k hk).1, (h3 k hk).2, fun h => h⟩, fun k hk => ⟨h4 k hk, fun h => h⟩, fun _ h => h.elim, h5⟩
def TwoU (B da db : Nat) (w : World) (sv tv va : Value) (x y : Ss) (cs : List Chg) (u : Value) (l : List UInt8) : Prop :=
 ∃ Ms Mt P : Nat → Prop, Sto da Ms w sv x ∧ Sto db Mt w tv y ∧ OCP P B w va cs ∧ (∀ k, Ms k → B ≤ k ∧ ¬ Mt k ∧ ¬ P k) ∧ (∀ k, Mt k → B ≤ k ∧ ¬ P k) ∧ (∀ k, P k → k < w.heap.size) ∧ B ≤ w.heap.size ∧ FB 5 w B u l ∧ ∀ k, u.ownBlock = some k → P k
theorem TwoS.grow (h : TwoS B da db w sv tv va x y cs) : ∃ us : List (Chg × Value), us.length = cs.length ∧ w.ownsRow B 33 3 va us.length (chCells us) ∧
  ∀ (w' w1 : World) (va' u : Value) (k : ByteArray) (l : List UInt8) (g : Bool), Below w.heap.size w w' → FB 5 w' w.heap.size u l → w1.ownsRow B 33 3 va' (us.length + 1) (chCells us ++ [.string k, u, .bool g]) → w'.grownBy w1 va.ownBlock → (va'.ownBlock = va.ownBlock ∨ va'.ownBlock = some w'.heap.size) →
   TwoU B da db w1 sv tv va' x y (cs ++ [(k, l, g)]) u l := by
 obtain ⟨Ms, Mt, P, h1, h2, ⟨us2, h3, ho, hf, hva, hvs⟩, h4, h5, h6, h7⟩ := h
 refine ⟨us2, by rw [← h3, List.length_map], ho, fun w' w1 va' u k l g hb hu ho' hg hn => ?_⟩
 have hbs := hb.size
 have hgs := hg.size
 have hFr : Fr (fun k => va.ownBlock = some k) w w1 := by
  have h := (Fr.of_below (D := fun k => va.ownBlock = some k) hb)
  exact h.grown hg (fun k hk => .inl hk)
 have hu1 : FB 5 w1 B u l := (hu.base_ h7).grown (own_below ho hb) (by decide) hg
 have hub : ∀ j, u.ownBlock = some j → w.heap.size ≤ j ∧ j < w1.heap.size := by
  intro j hj
  rcases hu with ⟨e1, _⟩ | ⟨g2, c2, cur, fr, e1, e2, e3, _⟩
  ·rw [e1] at hj; cases hj
  ·rw [e1] at hj
   have hj' : some g2 = some j := hj
   injection hj' with hj'
   subst hj'
   have := (Array.getElem?_eq_some_iff.1 e3).1
   exact ⟨e2, by omega⟩
 refine ⟨Ms, Mt, fun k => P k ∨ (w.heap.size ≤ k ∧ k < w1.heap.size), h1.fr hFr (fun k hk hm => (h4 k hm).2.2 (hva k hk)), h2.fr hFr (fun k hk hm => (h5 k hm).2 (hva k hk)), ⟨us2 ++ [((k, l, g), u)], by simp [h3], ?_, fun z hz => ?_, fun j hj => ?_, fun z hz j hj => ?_⟩, fun k hk => ⟨(h4 k hk).1, (h4 k hk).2.1, ?_⟩, fun k hk => ⟨(h5 k hk).1, ?_⟩, fun k hk => ?_, by omega, hu1, fun j hj => .inr (hub j hj)⟩
 ·unfold chCells at ho' ⊢
  rw [List.length_append, List.flatMap_append]
  exact ho'
 ·rcases List.mem_append.1 hz with hz | hz
  ·exact ((hf z hz).below hb).grown (own_below ho hb) (by decide) hg
  ·simp only [List.mem_singleton] at hz
   subst hz
   exact hu1
 ·rcases hn with hn | hn
  ·exact .inl (hva j (hn ▸ hj))
  ·have hl := (ho'.lt j hj).2
   rw [hn] at hj
   injection hj with hj
   exact .inr ⟨by omega, hl⟩
 ·rcases List.mem_append.1 hz with hz | hz
  ·exact .inl (hvs z hz j hj)
  ·simp only [List.mem_singleton] at hz
   subst hz
   exact .inr (hub j hj)
 ·rintro (hp | hp)
  ·exact (h4 k hk).2.2 hp
  ·have := h1.lt k hk; omega
 ·rintro (hp | hp)
  ·exact (h5 k hk).2 hp
  ·have := h2.lt k hk; omega
 ·rcases hk with hk | hk
  ·have := h6 k hk; omega
  ·exact hk.2
theorem two_lit {u : Value} {k : ByteArray} {l : List UInt8} {g : Bool} (h : TwoU B da db w sv tv va x y cs u l) (hG : GoodX x) (hcs : sizesC [(k, l, g)] ≤ 90000) (hw : w' = w.alloc (.cells #[.string k, u, .bool g] 33)) :
  Calls Try.prog 12 #[sv, .slice (some ⟨w.heap.size, 0, none⟩) 1 1] w' fun e w2 => e = .returned (.int .u16 ((commitR x [(k, l, g)]).2 : Int)) ∧ TwoS B da db w2 sv tv va (commitR x [(k, l, g)]).1 y cs ∧ Below B w' w2 := by
 obtain ⟨Ms, Mt, P, h1, h2, h3, h4, h5, h6, h7, h8, h9⟩ := h
 have hb : Below w.heap.size w w' := by rw [hw]; exact (Below.refl _ _).alloc (Nat.le_refl _) _
 have hsz : w'.heap.size = w.heap.size + 1 := by rw [hw]; simp
 obtain ⟨q1, q2⟩ := chgsB_few [(k, l, g)] hcs
 have hoc : ∀ X, Fr Ms w' X → RC X (.slice (some ⟨w.heap.size, 0, none⟩) 1 1) [(k, l, g)] := by
  intro X hX
  have ho : w'.ownsRow B 33 3 (.slice (some ⟨w.heap.size, 0, none⟩) 1 1) 1 [.string k, u, .bool g] := by
   rw [hw]
   exact ⟨by simp, .inr ⟨w.heap.size, 1, #[.string k, u, .bool g], rfl, h7, heap_alloc_new w _, Nat.le_refl _, by unfold maxLen; omega, by simp, by simp⟩⟩
  have ho2 := own_same (w' := X) ho (fun j hj => by
   have hj' : some w.heap.size = some j := hj
   injection hj' with hj'
   subst hj'
   exact hX.block _ (by omega) (fun hm => by have := h1.lt _ hm; omega))
  have hu2 : FB 5 X B u l := fb_keep (h8.below hb) (fun j hj => hX.block j (by have := h6 j (h9 j hj); omega) (fun hm => (h4 j hm).2.2 (h9 j hj)))
  exact OC.rc (e := 5) (eR := 33) (base := B) ⟨[((k, l, g), u)], rfl, ho2, fun z hz => by
   simp only [List.mem_singleton] at hz
   subst hz
   exact hu2⟩
 have h1l : ([(k, l, g)] : List Chg).length = 1 := rfl
 refine (commit_any (h1.below hb) hG hoc (by omega) (by omega) q2).mono ?_
 rintro e w2 ⟨he, Ms', d1, d2, d3⟩
 refine ⟨he, ⟨Ms', Mt, P, d1, (h2.below hb).fr d2 (fun k hk hm => (h4 k hk).2.1 hm), (h3.fr (M := fun _ => False) (Fr.of_below hb) (fun _ h => h.elim) h6).fr d2 (fun k hk => (h4 k hk).2.2) (fun k hk => Nat.lt_of_lt_of_le (h6 k hk) hb.size), fun k hk => ?_, h5, fun k hk => Nat.lt_of_lt_of_le (h6 k hk) (Nat.le_trans hb.size d2.size), Nat.le_trans h7 (Nat.le_trans hb.size d2.size)⟩, d2.below (fun k hk => (h4 k hk).1) (Nat.le_trans h7 hb.size)⟩
 have hbs := hb.size
 rcases d3 k hk with hm | hm
 ·exact h4 k hm
 ·exact ⟨by omega, fun ht => by have := h2.lt k ht; omega, fun hp => by have := h6 k hp; omega⟩
end
theorem apply_few : ∀ (cs : List Chg) (l : List Rw), Sorted l → (∀ c ∈ cs, c.1.size ≤ 2 ∧ c.2.1.length ≤ 150) → (∀ r ∈ l, r.1.size ≤ 2 ∧ r.2.length ≤ 150) →
  Sorted (applyL l cs) ∧ (∀ r ∈ applyL l cs, r.1.size ≤ 2 ∧ r.2.length ≤ 150) ∧ (applyL l cs).length ≤ l.length + cs.length
 | [], l, hs, _, hl => ⟨hs, hl, Nat.le_refl _⟩
 | c :: cs, l, hs, hc, hl => by
  have h := apply_few cs (stepL l c) (stepL_sorted hs) (fun d hd => hc d (List.mem_cons_of_mem _ hd)) (fun r hr => by
   rcases stepL_mem hs hr with rfl | hr
   ·exact hc c List.mem_cons_self
   ·exact hl r hr)
  have hlen := stepL_len l c
  exact ⟨h.1, h.2.1, by have := h.2.2; simp only [List.length_cons]; show (applyL (stepL l c) cs).length ≤ _; omega⟩
theorem chgsB_small : ∀ (cs : List Chg), (∀ c ∈ cs, c.1.size ≤ 2 ∧ c.2.1.length ≤ 2) → (chgsB cs).length ≤ 22 * cs.length ∧ sizesC cs ≤ 4 * cs.length
 | [], _ => ⟨Nat.zero_le _, Nat.le_refl _⟩
 | c :: cs, h => by
  obtain ⟨h1, h2⟩ := h c List.mem_cons_self
  have ih := chgsB_small cs (fun d hd => h d (List.mem_cons_of_mem _ hd))
  have hc := chgL_few c (by omega) (by omega)
  have e1 : chgsB (c :: cs) = chgL c ++ chgsB cs := by simp [chgsB]
  have e2 : sizesC (c :: cs) = c.1.size + c.2.1.length + sizesC cs := by simp [sizesC]
  rw [e1, e2, List.length_append, List.length_cons]
  omega
theorem all_commit {y : Ss} {cs : List Chg} (hI : InvS y) (hn : y.n = 1000) (hep : y.ep = 2) (hus : y.us = 0) (hfr : y.fr = 0) (hrw : y.rows = []) (hl : cs.length ≤ 40)
  (hc : ∀ c ∈ cs, c.1.size ≤ 2 ∧ c.2.1.length ≤ 2 ∧ (c.2.2 = true → c.2.1 = [])) :
  (commitR y cs).2 = 0 ∧ (commitR y cs).1.rows = applyL [] cs ∧ InvS (commitR y cs).1 ∧ sizesC cs ≤ 90000 := by
 obtain ⟨b1, b2⟩ := chgsB_small cs (fun c h => ⟨(hc c h).1, (hc c h).2.1⟩)
 have hrd : readChgs (chgsL cs) = (cs, 0) := readChgs_back _ (by omega) (fun c h => ⟨by rw [size_list]; have := (hc c h).1; omega, by have := (hc c h).2.1; omega, (hc c h).2.2⟩)
 obtain ⟨s1, s2, s3, _, _, s6, s7⟩ := commit_step (cs := cs) hI (fun _ => hrd)
 by_cases hne : cs = []
 ·subst hne
  have e : commitR y [] = (y, 0) := rfl
  rw [e]
  exact ⟨rfl, hrw, hI, by omega⟩
 have hlong : cs.any longC = false := by
  rw [List.any_eq_false]
  intro c hcm
  unfold longC
  have h1 := (hc c hcm).1
  have h2 := (hc c hcm).2.1
  rw [decide_eq_false (by omega), decide_eq_false (by omega)]
  decide
 have hlen : (chgsL cs).length ≤ 900 := by
  have e : chgsL cs = numL cs.length ++ chgsB cs := rfl
  have := numL_len8 (n := cs.length) (by omega)
  rw [e, List.length_append]
  omega
 have hof : ofL (chgsL cs) ≤ 50 := by unfold ofL; omega
 have hp : (partsL (y.ep : Int) (y.fr : Int) cs).2 = true := by
  unfold partsL
  rw [if_neg (by omega), if_neg (by omega)]
 have hpl := parts_count hp
 have hj : jN 1000 = 250 := by decide
 have ha : aN 1000 = 93 := by decide
 obtain ⟨a1, a2, a3⟩ := apply_few cs [] List.Pairwise.nil (fun c h => ⟨(hc c h).1, by have := (hc c h).2.1; omega⟩) (fun r hr => by cases hr)
 have hfit : fitB 1000 (applyL [] cs) = true := few_fit a1 (by simp only [List.length_nil] at a3; omega) a2 (by simp only [List.length_nil] at a3; omega)
 have h0 : (commitR y cs).2 = 0 := by
  unfold commitR
  rw [if_neg hne, if_neg (by rw [hlong]; decide), if_neg (by rw [hp, hpl, hn, hj]; rintro (h | h); cases h; omega), hrw, hn, if_neg (by rw [hfit]; decide), if_pos (by rw [hus, hpl, hj]; omega)]
 obtain ⟨_, r2⟩ := s6 h0
 exact ⟨h0, by rw [r2, hrw], s1, by omega⟩
end Go.Proofs.Ytmbkaedhllfoeaa
