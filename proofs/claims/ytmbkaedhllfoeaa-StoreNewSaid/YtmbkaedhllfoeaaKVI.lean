/-
 The contract of code.row: a row of a key and a value of at most a billion bytes each makes their texts, one behind the other.; The contract of code.takeChange: at any place of any bytes it tells what the plain function getChange tells.; The contracts of the generic take at changes, and of code.ReadChanges: of any bytes they tell what the plain function readChgs tells.; Plain mathematics: the bytes of rows are read as these rows. No program.; Plain mathematics: bytes that are read as rows, or as changes, are the bytes of these. No program.; Plain mathematics of the log: words, parts, pieces. No program.; The contracts of the reference's word and part.; The contracts of code.change, of the generic list at changes, and of code.Changes: they make the bytes of changes that take at most a billion bytes in all.; The contracts of the generic list at changes, and of code.Changes: they make the bytes of changes that take at most a billion bytes in all.; Plain mathematics of the log: how frames are read. No program.; The contract of page.row: a row of a key and a value of at most a billion bytes each makes their texts, one behind the other.; Plain mathematics of the log: frames that were made are read back. No program.; Plain mathematics of the log: frames one behind the other are read as they were made; behind a sector that is none of theirs nothing is read. No program.; Plain mathematics: changes that choices say: how many, how long.; Plain mathematics: the bytes of changes are read a
-/
import Derived.Deep.RegionHeld3
import Derived.Deep.AppendLies
import Derived.Test.YtmbkaedhllfoeaaKVA
import Derived.Test.YtmbkaedhllfoeaaKVB
import Derived.Test.YtmbkaedhllfoeaaKVG
import Derived.Test.YtmbkaedhllfoeaaKVBC
set_option linter.unusedVariables false
namespace Go.Proofs.Ytmbkaedhllfoeaa
open Go.RowKit Go.Rst
theorem row_keep {w X w3 : World} {g : Nat} {k v : Value} {l : List UInt8} (hb : Below X.heap.size X w3) (h0 : X.cell? ⟨g, 0, none⟩ = some k) (h1 : X.cell? ⟨g, 1, none⟩ = some v)
  (hr : RB X v l) (hB : Below w.heap.size w X) (hs : g < X.heap.size) :
  w3.cell? ⟨g, 0, none⟩ = some k ∧ w3.cell? ⟨g, 1, none⟩ = some v ∧ (convert 22 9 v).run Try.prog w3 = .ok (.string ⟨l.toArray⟩) w3 ∧ RB w3 v l ∧ Below w.heap.size w w3 ∧ g < w3.heap.size :=
 ⟨(hb.cell (p := ⟨g, 0, none⟩) hs).trans h0, (hb.cell (p := ⟨g, 1, none⟩) hs).trans h1, (hr.below hb).str Try.underlying22 Try.underlying5 Try.underlying9, hr.below hb, hB.trans (hb.mono hB.size), by have := hb.size; omega⟩
theorem row_kept {w X w3 : World} {g : Nat} {k v : Value} {l : List UInt8}
  (h : X.cell? ⟨g, 0, none⟩ = some k ∧ X.cell? ⟨g, 1, none⟩ = some v ∧ (convert 22 9 v).run Try.prog X = .ok (.string ⟨l.toArray⟩) X ∧ RB X v l ∧ Below w.heap.size w X ∧ g < X.heap.size)
  (hb : Below X.heap.size X w3) :
  w3.cell? ⟨g, 0, none⟩ = some k ∧ w3.cell? ⟨g, 1, none⟩ = some v ∧ (convert 22 9 v).run Try.prog w3 = .ok (.string ⟨l.toArray⟩) w3 ∧ RB w3 v l ∧ Below w.heap.size w w3 ∧ g < w3.heap.size :=
 row_keep hb h.1 h.2.1 h.2.2.2.1 h.2.2.2.2.1 h.2.2.2.2.2
end Go.Proofs.Ytmbkaedhllfoeaa
namespace Go.Proofs.Ytmbkaedhllfoeaa
open Go.RowKit Go.Rst
def getChange (l : List UInt8) (p : Int) : List UInt8 × List UInt8 × Bool × Int × Int :=
 if (getText l p 30).2.2 ≠ 0 then ([], [], false, 0, (getText l p 30).2.2)
 else if (l.length : Int) ≤ (getText l p 30).2.1 then ([], [], false, 0, 10)
 else if l.getD (getText l p 30).2.1.toNat 0 = 1 then ((getText l p 30).1, [], true, (getText l p 30).2.1 + 1, 0)
 else if l.getD (getText l p 30).2.1.toNat 0 ≠ 0 then ([], [], false, 0, 11)
 else if (getText l ((getText l p 30).2.1 + 1) 150).2.2 ≠ 0 then ([], [], false, 0, (getText l ((getText l p 30).2.1 + 1) 150).2.2)
 else ((getText l p 30).1, (getText l ((getText l p 30).2.1 + 1) 150).1, false, (getText l ((getText l p 30).2.1 + 1) 150).2.1, 0)
def GivesChange (w : World) (r : List UInt8 × List UInt8 × Bool × Int × Int) (x : Ending) (w' : World) : Prop :=
 ∃ u, x = .returned (.tuple #[.agg #[.string ⟨r.1.toArray⟩, u, .bool r.2.2.1], .int .i64 r.2.2.2.1, .int .u16 r.2.2.2.2]) ∧ FB 5 w' w.heap.size u r.2.1 ∧ Below w.heap.size w w'
set_option maxRecDepth 100000 in
set_option maxHeartbeats 3200000 in
theorem takeChange_any (v : Value) (l : List UInt8) (p : Int) (w : World) (hv : RB w v l) : Calls Try.prog 91 #[v, .int .i64 p] w (GivesChange w (getChange l p)) := by
 have hs1 := getText_spec l p 30
 obtain ⟨k, q, e1, hg1⟩ : ∃ k q e, getText l p 30 = (k, q, e) := ⟨_, _, _, rfl⟩
 rw [hg1] at hs1
 have hcall1 : ∀ W, RB W v l → _ := fun W hW => getText_any v l p 30 W hW
 rw [hg1] at hcall1
 have H1 := Lib.hid hcall1
 have G1 := Lib.hid hg1
 have HV := Lib.hid hv
 have hv0 := hv
 obtain ⟨A, c, rfl, hlc, hc, hcells⟩ := hv0
 have HC := Lib.hid hcells
 unfold maxLen at hc
 clear hcall1 hg1 hv hcells
 simp only [] at hs1
 rcases hs1 with ⟨rfl, h1⟩ | ⟨her, rfl, rfl⟩
 ·by_cases hin : (l.length : Int) ≤ q
  ·have e : getChange l p = ([], [], false, 0, 10) := by unfold getChange; rw [G1.out]; simp [hin]
   rw [e]
   clear e
   go_enter Try.func91, Try.ntmps91
   go_wp2
   refine wp_scope_fwd 0 rfl ?_
   go_wp2_with fail
   refine (H1.out _ (HV.out.alloc _)).mono ?_
   rintro x w1 ⟨rfl, rfl⟩
   go_wp2
   go_step3
   refine ⟨rfl, ?_⟩
   unfold Behind
   go_wp2
   rw [Exit.noGoto_ret]
   refine bodyPost_ret (v := .tuple #[.agg #[.string ⟨#[]⟩, .slice none 0 0, .bool false], .int .i64 0, .int .u16 10]) (by simp [results, Try.results91, go_sem]) rfl ⟨.slice none 0 0, rfl, .inl ⟨rfl, rfl⟩, ?_⟩
   exact (Below.refl _ _).alloc (Nat.le_refl _) _
  ·obtain ⟨q, rfl⟩ := Int.eq_ofNat_of_zero_le h1.1
   have hq : q < l.length := by omega
   obtain ⟨b, off, rfl, hb, hcell⟩ : ∃ b off, A = some ⟨b, off, none⟩ ∧ b < w.heap.size ∧ ∀ j (h : j < l.length), w.cell? ⟨b, off + j, none⟩ = some (bv l[j]) := by
    rcases HC.out with rfl | h
    ·simp at hq
    ·exact h
   have hc1 := (World.cell?_alloc_lt w (Obj.cells #[.string ⟨#[]⟩, .slice none 0 0, .bool false] 33) ⟨b, off + q, none⟩ hb).trans (hcell q hq)
   obtain ⟨d, hd⟩ : ∃ d, d = l[q] := ⟨_, rfl⟩
   have hd256 : (d.toNat : Int) < 256 := by have := d.toNat_lt; omega
   have hgd : l.getD (Int.toNat (q : Int)) 0 = d := by rw [Int.toNat_natCast, List.getD_eq_getElem?_getD, List.getElem?_eq_getElem hq, hd]; rfl
   unfold bv at hc1
   rw [← hd] at hc1
   have GD := Lib.hid hgd
   clear hcell hd hgd HC
   by_cases hone : d = 1
   ·have e : getChange l p = (k, [], true, (q : Int) + 1, 0) := by unfold getChange; rw [G1.out]; simp only [GD.out]; simp [hone, hq]
    rw [e]
    subst hone
    clear e
    go_enter Try.func91, Try.ntmps91
    go_wp2
    refine wp_scope_fwd 0 rfl ?_
    go_wp2_with fail
    refine (H1.out _ (HV.out.alloc _)).mono ?_
    rintro x w1 ⟨rfl, rfl⟩
    go_wp2
    simp only [Exit.jump]
    refine bodyPost_ret (v := .tuple #[.agg #[.string ⟨k.toArray⟩, .slice none 0 0, .bool true], .int .i64 ((q : Int) + 1), .int .u16 0]) (by simp [results, Try.results91, go_sem]) rfl ⟨.slice none 0 0, rfl, .inl ⟨rfl, rfl⟩, ?_⟩
    exact (Below.refl _ _).alloc (Nat.le_refl _) _
   ·have hne1 : ((d.toNat : Int) == 1) = false := by
     rw [beq_eq_false_iff_ne]
     intro h
     exact hone (UInt8.toNat_inj.1 (by rw [show (1 : UInt8).toNat = 1 from rfl]; omega))
    by_cases hzero : d = 0
    ·subst hzero
     have hs2 := getText_spec l ((q : Int) + 1) 150
     obtain ⟨u, q2, e2, hg2⟩ : ∃ k q' e, getText l ((q : Int) + 1) 150 = (k, q', e) := ⟨_, _, _, rfl⟩
     rw [hg2] at hs2
     have hcall2 : ∀ W, RB W _ l → _ := fun W hW => getText_any (.slice (some ⟨b, off, none⟩) l.length c) l ((q : Int) + 1) 150 W hW
     rw [hg2] at hcall2
     have H2 := Lib.hid hcall2
     have G2 := Lib.hid hg2
     clear hcall2 hg2 hne1
     simp only [] at hs2
     rcases hs2 with ⟨rfl, h2⟩ | ⟨her, rfl, rfl⟩
     ·have e : getChange l p = (k, u, false, q2, 0) := by unfold getChange; rw [G1.out]; simp only [GD.out, G2.out]; simp [hq]
      rw [e]
      clear e
      have hlen : u.length ≤ 150 := by have := h2.2.2.2.2.1; omega
      go_enter Try.func91, Try.ntmps91
      go_wp2
      refine wp_scope_fwd 0 rfl ?_
      go_wp2_with fail
      refine (H1.out _ (HV.out.alloc _)).mono ?_
      rintro x w1 ⟨rfl, rfl⟩
      go_wp2_with fail
      refine (H2.out _ (HV.out.alloc _)).mono ?_
      rintro x w1 ⟨rfl, rfl⟩
      go_wp2_with (refine wpList_bytes rfl (.tmp 48) 9 22 5 rfl Try.underlying9 Try.underlying22 Try.underlying5 (by rfl) ?_ ?_)
      ·unfold maxLen; omega
      ·intro g cc w' hfb hb2
       have hx0 : w'.cell? ⟨w.heap.size, 0, none⟩ = some (.string ⟨#[]⟩) := (hb2.cell (p := ⟨w.heap.size, 0, none⟩) (by simp)).trans (by simp)
       have hx1 : w'.cell? ⟨w.heap.size, 1, none⟩ = some (.slice none 0 0) := (hb2.cell (p := ⟨w.heap.size, 1, none⟩) (by simp)).trans (by simp)
       have hx2 : w'.cell? ⟨w.heap.size, 2, none⟩ = some (.bool false) := (hb2.cell (p := ⟨w.heap.size, 2, none⟩) (by simp)).trans (by simp)
       have hf0 : w'.frozen? ⟨w.heap.size, 0, none⟩ = false := (hb2.frozen (p := ⟨w.heap.size, 0, none⟩) (by simp)).trans (by simp)
       have hf1 : w'.frozen? ⟨w.heap.size, 1, none⟩ = false := (hb2.frozen (p := ⟨w.heap.size, 1, none⟩) (by simp)).trans (by simp)
       have hf2 : w'.frozen? ⟨w.heap.size, 2, none⟩ = false := (hb2.frozen (p := ⟨w.heap.size, 2, none⟩) (by simp)).trans (by simp)
       have hb3 : Below w.heap.size w w' := ((Below.refl _ _).alloc (Nat.le_refl _) _).trans (hb2.mono (by simp))
       have hfb' := hfb.base_ (base' := w.heap.size + 1) (Nat.le_refl _)
       clear hc1
       go_wp2
       simp only [Exit.jump]
       refine bodyPost_ret (v := .tuple #[.agg #[.string ⟨k.toArray⟩, .slice (some ⟨g, 0, none⟩) u.length cc, .bool false], .int .i64 q2, .int .u16 0]) (by simp [results, Try.results91, go_sem, hx0, hx1, hx2]) rfl ⟨_, rfl, ?_, ?_⟩
       ·exact (((hfb'.setCell (by simp) _).setCell (by simp) _).setCell (by simp) _).base_ (Nat.le_succ _)
       ·exact ((hb3.setCell (Nat.le_refl _) _).setCell (Nat.le_refl _) _).setCell (Nat.le_refl _) _
     ·have e : getChange l p = ([], [], false, 0, e2) := by unfold getChange; rw [G1.out]; simp only [GD.out, G2.out]; rcases her with rfl | rfl | rfl <;> simp [hq]
      rw [e]
      have hne : (e2 != 0) = true := by rcases her with rfl | rfl | rfl <;> rfl
      clear e her
      go_enter Try.func91, Try.ntmps91
      go_wp2
      refine wp_scope_fwd 0 rfl ?_
      go_wp2_with fail
      refine (H1.out _ (HV.out.alloc _)).mono ?_
      rintro x w1 ⟨rfl, rfl⟩
      go_wp2_with fail
      refine (H2.out _ (HV.out.alloc _)).mono ?_
      rintro x w1 ⟨rfl, rfl⟩
      go_wp2
      go_step3
      refine ⟨rfl, ?_⟩
      unfold Behind
      go_wp2
      rw [Exit.noGoto_ret]
      refine bodyPost_ret (v := .tuple #[.agg #[.string ⟨#[]⟩, .slice none 0 0, .bool false], .int .i64 0, .int .u16 e2]) (by simp [results, Try.results91, go_sem]) rfl ⟨.slice none 0 0, rfl, .inl ⟨rfl, rfl⟩, ?_⟩
      exact (Below.refl _ _).alloc (Nat.le_refl _) _
    ·have e : getChange l p = ([], [], false, 0, 11) := by unfold getChange; rw [G1.out]; simp only [GD.out]; simp [hone, hzero, hq]
     rw [e]
     have hne0 : ((d.toNat : Int) != 0) = true := by
      rw [bne_iff_ne]
      intro h
      exact hzero (UInt8.toNat_inj.1 (by rw [show (0 : UInt8).toNat = 0 from rfl]; omega))
     clear e
     go_enter Try.func91, Try.ntmps91
     go_wp2
     refine wp_scope_fwd 0 rfl ?_
     go_wp2_with fail
     refine (H1.out _ (HV.out.alloc _)).mono ?_
     rintro x w1 ⟨rfl, rfl⟩
     go_wp2
     go_step3
     refine ⟨rfl, ?_⟩
     unfold Behind
     go_wp2
     rw [Exit.noGoto_ret]
     refine bodyPost_ret (v := .tuple #[.agg #[.string ⟨#[]⟩, .slice none 0 0, .bool false], .int .i64 0, .int .u16 11]) (by simp [results, Try.results91, go_sem]) rfl ⟨.slice none 0 0, rfl, .inl ⟨rfl, rfl⟩, ?_⟩
     exact (Below.refl _ _).alloc (Nat.le_refl _) _
 ·have e : getChange l p = ([], [], false, 0, e1) := by unfold getChange; rw [G1.out]; rcases her with rfl | rfl | rfl <;> simp
  rw [e]
  have hne : (e1 != 0) = true := by rcases her with rfl | rfl | rfl <;> rfl
  clear e her
  go_enter Try.func91, Try.ntmps91
  go_wp2
  refine wp_scope_fwd 0 rfl ?_
  go_wp2_with fail
  refine (H1.out _ (HV.out.alloc _)).mono ?_
  rintro x w1 ⟨rfl, rfl⟩
  go_wp2
  go_step3
  refine ⟨rfl, ?_⟩
  unfold Behind
  go_wp2
  rw [Exit.noGoto_ret]
  refine bodyPost_ret (v := .tuple #[.agg #[.string ⟨#[]⟩, .slice none 0 0, .bool false], .int .i64 0, .int .u16 e1]) (by simp [results, Try.results91, go_sem]) rfl ⟨.slice none 0 0, rfl, .inl ⟨rfl, rfl⟩, ?_⟩
  exact (Below.refl _ _).alloc (Nat.le_refl _) _
end Go.Proofs.Ytmbkaedhllfoeaa
namespace Go.Proofs.Ytmbkaedhllfoeaa
open Go.RowKit Go.Rst
theorem info33 : (Try.prog.info? 33).map (fun i => (i.zero, i.size, i.bytes)) = some (some (.agg #[.string ⟨#[]⟩, .slice none 0 0, .bool false]), 3, 48) := by kernel_rfl
def chgsF (l : List UInt8) : Nat → Int → List Chg → List Chg × Int
 | 0, q, acc => if q < l.length then ([], 11) else (acc, 0)
 | f + 1, q, acc => if (getChange l q).2.2.2.2 ≠ 0 then ([], (getChange l q).2.2.2.2) else chgsF l f (getChange l q).2.2.2.1 (acc ++ [(⟨(getChange l q).1.toArray⟩, (getChange l q).2.1, (getChange l q).2.2.1)])
def readChgs (l : List UInt8) : List Chg × Int :=
 if (getNum l 0).2.2 ≠ 0 then ([], (getNum l 0).2.2) else if 5000 < (getNum l 0).1 then ([], 3) else chgsF l (getNum l 0).1.toNat (getNum l 0).2.1 []
def GivesChgs (w : World) (r : List Chg × Int) (x : Ending) (w' : World) : Prop :=
 ∃ v, x = .returned (.tuple #[v, .int .u16 r.2]) ∧ OC 5 33 w' w.heap.size v r.1 ∧ Below w.heap.size w w'
theorem getChange_err (l : List UInt8) (p : Int) : (getChange l p).2.2.2.2 = 0 ∨ (getChange l p).2.2.2.2 = 3 ∨ (getChange l p).2.2.2.2 = 10 ∨ (getChange l p).2.2.2.2 = 11 := by
 have h1 := getText_spec l p 30
 have h2 := getText_spec l ((getText l p 30).2.1 + 1) 150
 unfold getChange
 split
 ·rcases h1 with h1 | h1
  ·exact .inl h1.1
  ·exact .inr h1.1
 ·split
  ·exact .inr (.inr (.inl rfl))
  ·split
   ·exact .inl rfl
   ·split
    ·exact .inr (.inr (.inr rfl))
    ·split
     ·rcases h2 with h2 | h2
      ·exact .inl h2.1
      ·exact .inr h2.1
     ·exact .inl rfl
set_option maxRecDepth 100000 in
set_option maxHeartbeats 1600000 in
theorem takeC_any (v : Value) (l : List UInt8) (w : World) (hv : RB w v l) : Calls Try.prog 90 #[v, .func (Fn.func 91) #[] #[]] w (GivesChgs w (readChgs l)) := by
 have hs1 := getNum_spec l 0
 obtain ⟨n, q, e1, hg1⟩ : ∃ k q e, getNum l 0 = (k, q, e) := ⟨_, _, _, rfl⟩
 rw [hg1] at hs1
 have hcall1 : ∀ W, RB W v l → _ := fun W hW => getNum_any v l 0 W hW
 rw [hg1] at hcall1
 have H1 := Lib.hid hcall1
 have G1 := Lib.hid hg1
 have HV := Lib.hid hv
 have HLEN : ∃ A c, v = .slice A l.length c := by obtain ⟨A, c, h, _⟩ := hv; exact ⟨A, c, h⟩
 obtain ⟨Av, cv, rfl⟩ := HLEN
 clear hcall1 hg1 hv
 simp only [] at hs1
 rcases hs1 with ⟨rfl, h1⟩ | ⟨her, rfl, rfl⟩
 ·by_cases hbig : 5000 < n
  ·have e : readChgs l = ([], 3) := by unfold readChgs; rw [G1.out]; simp [hbig]
   rw [e]
   clear e
   go_enter Try.func90, Try.ntmps90
   go_wp2
   refine wp_scope_fwd 0 rfl ?_
   go_wp2_with fail
   refine (H1.out _ (HV.out.alloc _)).mono ?_
   rintro x w1 ⟨rfl, rfl⟩
   go_wp2
   go_step3
   refine ⟨rfl, ?_⟩
   unfold Behind
   go_wp2
   rw [Exit.noGoto_ret]
   go_ret2
   exact ⟨_, rfl, OC.nil_ _ _ _ _, (Below.refl _ _).alloc (Nat.le_refl _) _⟩
  ·obtain ⟨n, rfl⟩ := Int.eq_ofNat_of_zero_le h1.1
   have e : readChgs l = chgsF l n q [] := by unfold readChgs; rw [G1.out]; simp [show ¬ (5000 : Int) < (n : Int) from hbig]
   rw [e]
   clear e
   have hln : (l.length : Int) ≤ 9223372036854775807 := by
    obtain ⟨A, c, h, h2, h3, _⟩ := HV.out
    unfold maxLen at h3; omega
   go_enter Try.func90, Try.ntmps90
   go_wp2
   refine wp_scope_fwd 0 rfl ?_
   go_wp2_with fail
   refine (H1.out _ (HV.out.alloc _)).mono ?_
   rintro x w1 ⟨rfl, rfl⟩
   go_wp2_with fail
   go_loopw [6, 9, 10, 22] (fun rv qv ev i wr => ∃ (k : Nat) (acc : List Chg) (qq : Int), k ≤ n ∧ i = .int .i64 k ∧ ev = .int .u16 0 ∧ qv = .int .i64 qq ∧ acc.length = k ∧ OC 5 33 wr (w.heap.size + 1) rv acc ∧ Below w.heap.size w wr ∧ w.heap.size < wr.heap.size ∧
     (∃ a b d, wr.cell? ⟨w.heap.size, 0, none⟩ = some a ∧ wr.cell? ⟨w.heap.size, 1, none⟩ = some b ∧ wr.cell? ⟨w.heap.size, 2, none⟩ = some d) ∧ wr.frozen? ⟨w.heap.size, 0, none⟩ = false ∧ wr.frozen? ⟨w.heap.size, 1, none⟩ = false ∧ wr.frozen? ⟨w.heap.size, 2, none⟩ = false ∧ chgsF l (n - k) qq acc = chgsF l n q [])
    (fun _ _ _ i _ => n - (intOf i).toNat)
   case atStart => exact ⟨0, [], q, Nat.zero_le _, rfl, rfl, rfl, rfl, OC.nil_ _ _ _ _, (Below.refl _ _).alloc (Nat.le_refl _) _, by simp, ⟨_, _, _, by simp; rfl, by simp; rfl, by simp; rfl⟩, by simp, by simp, by simp, rfl⟩
   case round =>
    obtain ⟨k, acc, qq, hk, rfl, rfl, rfl, hal, hor, hbel, hsz, ⟨ca, cb, cd, hca, hcb, hcd⟩, hfa, hfb, hfd, heq⟩ := hrel
    have HE := Lib.hid heq
    have HAL := Lib.hid hal
    clear heq hal
    by_cases hlt : k < n
    ·have herr := getChange_err l qq
     have hstep : chgsF l (n - k) qq acc = if (getChange l qq).2.2.2.2 ≠ 0 then ([], (getChange l qq).2.2.2.2) else chgsF l (n - k - 1) (getChange l qq).2.2.2.1 (acc ++ [(⟨(getChange l qq).1.toArray⟩, (getChange l qq).2.1, (getChange l qq).2.2.1)]) := by
      rw [show n - k = (n - k - 1) + 1 from by omega, chgsF]; rfl
     rw [hstep] at HE
     clear hstep
     have hcall := takeChange_any (.slice Av l.length cv) l qq wr (HV.out.below hbel)
     generalize getChange l qq = r at *
     obtain ⟨rk, rl, rg, rq, re⟩ := r
     simp only [] at HE hcall herr
     have HC := Lib.hid hcall
     have hbel0 := Lib.hid hbel
     clear hcall hbel
     go_wp2_with fail
     refine HC.out.mono ?_
     rintro x w2 ⟨u, rfl, hfu, hb2⟩
     obtain ⟨Au, cu, rfl⟩ := hfu.shape
     simp only [] at hfu
     have hc0 := (hb2.cell (p := ⟨w.heap.size, 0, none⟩) hsz).trans hca
     have hc1 := (hb2.cell (p := ⟨w.heap.size, 1, none⟩) hsz).trans hcb
     have hc2 := (hb2.cell (p := ⟨w.heap.size, 2, none⟩) hsz).trans hcd
     have hf2 := (hb2.frozen (p := ⟨w.heap.size, 2, none⟩) hsz).trans hfd
     have hf0 := (hb2.frozen (p := ⟨w.heap.size, 0, none⟩) hsz).trans hfa
     have hf1 := (hb2.frozen (p := ⟨w.heap.size, 1, none⟩) hsz).trans hfb
     have hor2 := hor.below hb2
     have hbel2 : Below w.heap.size w w2 := hbel0.out.trans (hb2.mono (Nat.le_of_lt hsz))
     have hsz2 : w.heap.size < w2.heap.size := by have := hb2.size; omega
     have hfu2 := hfu.base_ (base' := w.heap.size + 1) hsz
     clear hca hcb hcd hfa hfb hfd hor hsz HC hfu hb2 hbel0
     by_cases hre : re = 0
     ·obtain rfl := hre
      have hor3 := (((hor2.setCell (p := ⟨w.heap.size, 0, none⟩) (Nat.lt_succ_self _) (.string ⟨rk.toArray⟩)).setCell (p := ⟨w.heap.size, 1, none⟩) (Nat.lt_succ_self _) (.slice Au rl.length cu)).setCell (p := ⟨w.heap.size, 2, none⟩) (Nat.lt_succ_self _) (.bool rg)).alloc (Obj.cells #[.string ⟨rk.toArray⟩, .slice Au rl.length cu, .bool rg] 33)
      have hfu3 := (((hfu2.setCell (p := ⟨w.heap.size, 0, none⟩) (Nat.lt_succ_self _) (.string ⟨rk.toArray⟩)).setCell (p := ⟨w.heap.size, 1, none⟩) (Nat.lt_succ_self _) (.slice Au rl.length cu)).setCell (p := ⟨w.heap.size, 2, none⟩) (Nat.lt_succ_self _) (.bool rg)).below ((Below.refl _ _).alloc (Nat.le_refl _) (Obj.cells #[.string ⟨rk.toArray⟩, .slice Au rl.length cu, .bool rg] 33))
      have hbx : Below w.heap.size w (((w2.setCell ⟨w.heap.size, 0, none⟩ (.string ⟨rk.toArray⟩)).setCell ⟨w.heap.size, 1, none⟩ (.slice Au rl.length cu)).setCell ⟨w.heap.size, 2, none⟩ (.bool rg)) := ((hbel2.setCell (Nat.le_refl _) _).setCell (Nat.le_refl _) _).setCell (Nat.le_refl _) _
      have hbel3 := hbx.alloc hbx.size (Obj.cells #[.string ⟨rk.toArray⟩, .slice Au rl.length cu, .bool rg] 33)
      obtain ⟨us, hus, ho, hfs⟩ := hor3
      have hlus : us.length = acc.length := by rw [← hus, List.length_map]
      have HLU := Lib.hid hlus
      have HUS := Lib.hid hus
      have HY0 : Hid (((((w2.setCell ⟨w.heap.size, 0, none⟩ (.string ⟨rk.toArray⟩)).setCell ⟨w.heap.size, 1, none⟩ (.slice Au rl.length cu)).setCell ⟨w.heap.size, 2, none⟩ (.bool rg)).alloc (Obj.cells #[.string ⟨rk.toArray⟩, .slice Au rl.length cu, .bool rg] 33)).cell? ⟨w.heap.size, 0, none⟩ = some (.string ⟨rk.toArray⟩)) := Lib.hid (by simp [go_sem, hc0, hsz2])
      have HY1 : Hid (((((w2.setCell ⟨w.heap.size, 0, none⟩ (.string ⟨rk.toArray⟩)).setCell ⟨w.heap.size, 1, none⟩ (.slice Au rl.length cu)).setCell ⟨w.heap.size, 2, none⟩ (.bool rg)).alloc (Obj.cells #[.string ⟨rk.toArray⟩, .slice Au rl.length cu, .bool rg] 33)).cell? ⟨w.heap.size, 1, none⟩ = some (.slice Au rl.length cu)) := Lib.hid (by simp [go_sem, hc1, hsz2])
      have HY2 : Hid (((((w2.setCell ⟨w.heap.size, 0, none⟩ (.string ⟨rk.toArray⟩)).setCell ⟨w.heap.size, 1, none⟩ (.slice Au rl.length cu)).setCell ⟨w.heap.size, 2, none⟩ (.bool rg)).alloc (Obj.cells #[.string ⟨rk.toArray⟩, .slice Au rl.length cu, .bool rg] 33)).cell? ⟨w.heap.size, 2, none⟩ = some (.bool rg)) := Lib.hid (by simp [go_sem, hc2, hsz2])
      have HZ2 : Hid (((((w2.setCell ⟨w.heap.size, 0, none⟩ (.string ⟨rk.toArray⟩)).setCell ⟨w.heap.size, 1, none⟩ (.slice Au rl.length cu)).setCell ⟨w.heap.size, 2, none⟩ (.bool rg)).alloc (Obj.cells #[.string ⟨rk.toArray⟩, .slice Au rl.length cu, .bool rg] 33)).frozen? ⟨w.heap.size, 2, none⟩ = false) := Lib.hid (by simp [go_sem, hf2, hsz2])
      have HZ0 : Hid (((((w2.setCell ⟨w.heap.size, 0, none⟩ (.string ⟨rk.toArray⟩)).setCell ⟨w.heap.size, 1, none⟩ (.slice Au rl.length cu)).setCell ⟨w.heap.size, 2, none⟩ (.bool rg)).alloc (Obj.cells #[.string ⟨rk.toArray⟩, .slice Au rl.length cu, .bool rg] 33)).frozen? ⟨w.heap.size, 0, none⟩ = false) := Lib.hid (by simp [go_sem, hf0, hsz2])
      have HZ1 : Hid (((((w2.setCell ⟨w.heap.size, 0, none⟩ (.string ⟨rk.toArray⟩)).setCell ⟨w.heap.size, 1, none⟩ (.slice Au rl.length cu)).setCell ⟨w.heap.size, 2, none⟩ (.bool rg)).alloc (Obj.cells #[.string ⟨rk.toArray⟩, .slice Au rl.length cu, .bool rg] 33)).frozen? ⟨w.heap.size, 1, none⟩ = false) := Lib.hid (by simp [go_sem, hf1, hsz2])
      clear hor2 hfu2 hbel2 hus hlus hbx
      go_wp2_with (at_builtin; refine wpList_own rfl (.tmp 34) (.tmp 36) 34 34 rfl (w.heap.size + 1) 33 (.agg #[.string ⟨#[]⟩, .slice none 0 0, .bool false]) 3 48 Try.underlying34 info33 rfl rfl ho rfl (src_three _ (by simp) Try.underlying34 33 _ _ _ rfl rfl rfl) hbel3 (Nat.le_succ _) ?_ ?_ ?_ ?_)
      ·have := HLU.out; have := HAL.out; unfold maxLen; omega
      ·have := HLU.out; have := HAL.out; omega
      ·simp; omega
      ·intro v' w4 ho' hb4 hg4
       have hor4 := OC.push (by decide) ho hfs hfu3 ho' hg4
       rw [HUS.out] at hor4
       have hblk : w4.heap[w.heap.size]? = _ := hg4.block w.heap.size (by simp; omega) (fun e => by have := (ho.lt _ e.symm).1; omega)
       have hy0 := (World.cell?_of_block (a := ⟨w.heap.size, 0, none⟩) hblk).trans HY0.out
       have hy1 := (World.cell?_of_block (a := ⟨w.heap.size, 1, none⟩) hblk).trans HY1.out
       have hy2 := (World.cell?_of_block (a := ⟨w.heap.size, 2, none⟩) hblk).trans HY2.out
       have hz2 := (World.frozen?_of_block (a := ⟨w.heap.size, 2, none⟩) hblk).trans HZ2.out
       have hz0 := (World.frozen?_of_block (a := ⟨w.heap.size, 0, none⟩) hblk).trans HZ0.out
       have hz1 := (World.frozen?_of_block (a := ⟨w.heap.size, 1, none⟩) hblk).trans HZ1.out
       clear hblk
       have hsz4 : w.heap.size < w4.heap.size := by have := hg4.size; simp at this; omega
       clear ho hfs hfu3 ho' hg4 hc0 hc1 hc2 hf0 hf1 hf2 hsz2
       have HO4 := Lib.hid hor4
       clear hor4
       go_wp2
       go_roundw
       case rel => exact ⟨k + 1, _, rq, by omega, by go_num, rfl, rfl, by rw [List.length_append, HAL.out]; rfl, HO4.out, hb4, hsz4, ⟨_, _, _, hy0, hy1, hy2⟩, hz0, hz1, hz2, by rw [← HE.out, if_neg (by simp)]; congr 1⟩
       case measure => simp [intOf]; omega
     ·have hE := HE.out
      rw [if_pos hre] at hE
      have HE2 := Lib.hid hE
      have hne : (re != 0) = true := by simpa using hre
      clear herr hE HE hre
      go_wp2
      go_step3
      refine ⟨rfl, ?_⟩
      unfold Behind
      go_wp2
      rw [Exit.noGoto_ret]
      go_ret2
      rw [← HE2.out]
      exact ⟨_, rfl, OC.nil_ _ _ _ _, ((hbel2.setCell (Nat.le_refl _) _).setCell (Nat.le_refl _) _).setCell (Nat.le_refl _) _⟩
    ·obtain rfl : k = n := by omega
     rw [Nat.sub_self, chgsF] at HE
     by_cases hend : qq < (l.length : Int)
     ·rw [if_pos hend] at HE
      go_wp2
      go_step3
      refine ⟨rfl, ?_⟩
      unfold Behind
      go_wp2
      rw [Exit.noGoto_ret]
      go_ret2
      rw [← HE.out]
      exact ⟨_, rfl, OC.nil_ _ _ _ _, hbel⟩
     ·rw [if_neg hend] at HE
      go_wp2
      simp only [Exit.jump]
      go_ret2
      rw [← HE.out]
      exact ⟨_, rfl, hor.base_ (Nat.le_succ _), hbel⟩
 ·have e : readChgs l = ([], e1) := by unfold readChgs; rw [G1.out]; rcases her with rfl | rfl <;> simp
  rw [e]
  have hne : (e1 != 0) = true := by rcases her with rfl | rfl <;> rfl
  clear e her
  go_enter Try.func90, Try.ntmps90
  go_wp2
  refine wp_scope_fwd 0 rfl ?_
  go_wp2_with fail
  refine (H1.out _ (HV.out.alloc _)).mono ?_
  rintro x w1 ⟨rfl, rfl⟩
  go_wp2
  go_step3
  refine ⟨rfl, ?_⟩
  unfold Behind
  go_wp2
  rw [Exit.noGoto_ret]
  go_ret2
  exact ⟨_, rfl, OC.nil_ _ _ _ _, (Below.refl _ _).alloc (Nat.le_refl _) _⟩
set_option maxRecDepth 100000 in
set_option maxHeartbeats 1600000 in
theorem readChgs_any (v : Value) (l : List UInt8) (w : World) (hv : RB w v l) : Calls Try.prog 74 #[v] w (GivesChgs w (readChgs l)) := by
 go_enter Try.func74, Try.ntmps74
 go_wp2_with fail
 refine (takeC_any v l w hv).mono ?_
 rintro x w1 ⟨u, rfl, hor, hb⟩
 go_wp2
 go_ret2
 exact ⟨u, rfl, hor, hb⟩
end Go.Proofs.Ytmbkaedhllfoeaa
namespace Go.Proofs.Ytmbkaedhllfoeaa
open Go.RowKit Go.Rst
theorem ba_eq (k : ByteArray) : (⟨k.data.toList.toArray⟩ : ByteArray) = k := by cases k; simp
end Go.Proofs.Ytmbkaedhllfoeaa
namespace Go.Proofs.Ytmbkaedhllfoeaa
open Go.RowKit Go.Rst
theorem drop_at {l : List UInt8} {p : Nat} (h : p < l.length) : l.drop p = l.getD p 0 :: l.drop (p + 1) := by
 rw [List.drop_eq_getElem_cons h]
 simp [List.getElem?_eq_getElem h]
theorem ofNat_toNat' (c : UInt8) : UInt8.ofNat c.toNat = c := by simp
theorem gnumF_fwd (l : List UInt8) : ∀ (f i acc : Nat) (q : Int), (gnumF l f i acc q).2.2 = 0 →
  ∃ p b n : Nat, q = p ∧ gnumF l f i acc q = (((acc + n * 128 ^ i : Nat) : Int), (b : Int), 0) ∧ l.drop p = numL n ++ l.drop b ∧ (0 < n ∨ i = 0)
 | 0, _, _, _, h => by simp [gnumF] at h
 | f + 1, i, acc, q, h => by
  unfold gnumF at h ⊢
  split at h
  ·simp at h
  ·rename_i h0
   rw [if_neg h0]
   obtain ⟨p, rfl⟩ := Int.eq_ofNat_of_zero_le (show 0 ≤ q by omega)
   have hp : p < l.length := by omega
   have hd := drop_at hp
   simp only [Int.toNat_natCast] at h ⊢
   generalize l.getD p 0 = c at *
   have hc := c.toNat_lt
   split at h
   ·rename_i h1
    rw [if_pos h1]
    obtain ⟨p', b, n, hp', he, hdr, hn⟩ := gnumF_fwd l f (i + 1) _ _ h
    have ep : p' = p + 1 := by omega
    subst ep
    refine ⟨p, b, c.toNat % 128 + 128 * n, rfl, ?_, ?_, .inl (by omega)⟩
    ·rw [he]
     congr 2
     rw [Nat.pow_succ, Nat.add_mul, Nat.add_assoc]
     congr 2
     rw [Nat.mul_comm (128 ^ i) 128, ← Nat.mul_assoc, Nat.mul_comm n 128]
    ·rw [hd, hdr, numL_ge (n := c.toNat % 128 + 128 * n) (by omega)]
     have e1 : (c.toNat % 128 + 128 * n) % 128 + 128 = c.toNat := by omega
     have e2 : (c.toNat % 128 + 128 * n) / 128 = n := by omega
     rw [e1, e2, ofNat_toNat']
     rfl
   ·rename_i h1
    rw [if_neg h1]
    split at h
    ·simp at h
    ·rename_i h2
     rw [if_neg h2]
     refine ⟨p, p + 1, c.toNat, rfl, ?_, ?_, by omega⟩
     ·rw [Nat.mod_eq_of_lt (by omega)]
      simp
     ·rw [hd, numL_lt (by omega), ofNat_toNat']
      rfl
theorem getNum_fwd {l : List UInt8} {q a b : Int} (h : getNum l q = (a, b, 0)) : ∃ p e n : Nat, q = p ∧ a = n ∧ b = e ∧ l.drop p = numL n ++ l.drop e := by
 obtain ⟨p, e, n, h1, h2, h3, _⟩ := gnumF_fwd l 8 0 0 q (by have := congrArg (·.2.2) h; exact this)
 have h4 : getNum l q = (((0 + n * 128 ^ 0 : Nat) : Int), (e : Int), 0) := h2
 rw [h] at h4
 simp at h4
 exact ⟨p, e, n, h1, h4.1, h4.2, h3⟩
theorem getText_fwd {l s : List UInt8} {p most e : Int} (h : getText l p most = (s, e, 0)) : ∃ p' e' : Nat, p = p' ∧ e = e' ∧ l.drop p' = textL s ++ l.drop e' := by
 unfold getText at h
 obtain ⟨a, b, c, hg⟩ : ∃ a b c, getNum l p = (a, b, c) := ⟨_, _, _, rfl⟩
 have hspec := getNum_spec l p
 rw [hg] at h hspec
 simp only [ne_eq] at h hspec
 split at h
 ·rename_i hc
  simp at h
  exact absurd h.2.2 hc
 ·rename_i hc
  have hc0 : c = 0 := by simpa using hc
  subst hc0
  split at h
  ·simp at h
  ·split at h
   ·simp at h
   ·rename_i h1 h2
    obtain ⟨p', e', n, rfl, rfl, rfl, hd⟩ := getNum_fwd hg
    simp only [Int.toNat_natCast, Prod.mk.injEq, and_true] at h
    obtain ⟨rfl, rfl⟩ := h
    refine ⟨p', e' + n, rfl, by omega, ?_⟩
    have hlen : ((l.drop e').take n).length = n := by rw [List.length_take, List.length_drop]; omega
    unfold textL
    rw [hlen, hd, List.append_assoc, ← List.drop_drop, List.take_append_drop]
def chgL (c : Chg) : List UInt8 := textL c.1.data.toList ++ if c.2.2 then [1] else 0 :: textL c.2.1
def chgsB (cs : List Chg) : List UInt8 := cs.flatMap chgL
def chgsL (cs : List Chg) : List UInt8 := numL cs.length ++ chgsB cs
theorem getChange_fwd {l k v : List UInt8} {g : Bool} {p e : Int} (h : getChange l p = (k, v, g, e, 0)) : ∃ p' e' : Nat, p = p' ∧ e = e' ∧ l.drop p' = (textL k ++ if g then [1] else 0 :: textL v) ++ l.drop e' := by
 unfold getChange at h
 obtain ⟨s1, e1, c1, h1⟩ : ∃ a b c, getText l p 30 = (a, b, c) := ⟨_, _, _, rfl⟩
 rw [h1] at h
 simp only [ne_eq] at h
 obtain ⟨s2, e2, c2, h2⟩ : ∃ a b c, getText l (e1 + 1) 150 = (a, b, c) := ⟨_, _, _, rfl⟩
 rw [h2] at h
 simp only at h
 split at h
 ·rename_i hc; simp at h; exact absurd h.2.2.2.2 hc
 ·rename_i hc
  have z1 : c1 = 0 := by simpa using hc
  subst z1
  obtain ⟨p', q', rfl, rfl, hd1⟩ := getText_fwd h1
  simp only [Int.toNat_natCast] at h
  split at h
  ·simp at h
  ·rename_i hlt
   have hq : q' < l.length := by omega
   have hdq := drop_at hq
   split at h
   ·rename_i hone
    simp at h
    obtain ⟨rfl, rfl, rfl, rfl⟩ := h
    refine ⟨p', q' + 1, rfl, by omega, ?_⟩
    rw [hd1, hdq, hone]
    simp
   ·split at h
    ·simp at h
    ·rename_i hz
     have hz' : l.getD q' 0 = 0 := by simpa using hz
     split at h
     ·rename_i hc2; simp at h; exact absurd h.2.2.2.2 hc2
     ·rename_i hc2
      have z2 : c2 = 0 := by simpa using hc2
      subst z2
      simp at h
      obtain ⟨rfl, rfl, rfl, rfl⟩ := h
      obtain ⟨p2, q2, hp2, rfl, hd2⟩ := getText_fwd h2
      have : p2 = q' + 1 := by omega
      subst this
      refine ⟨p', q2, rfl, rfl, ?_⟩
      rw [hd1, hdq, hz', hd2]
      simp
theorem chgsF_fwd (l : List UInt8) : ∀ (f p : Nat) (acc cs : List Chg), chgsF l f (p : Int) acc = (cs, 0) → ∃ new, cs = acc ++ new ∧ new.length = f ∧ l.drop p = chgsB new
 | 0, p, acc, rs, h => by
  unfold chgsF at h
  split at h
  ·simp at h
  ·rename_i h0
   simp at h
   exact ⟨[], by simp [h], rfl, by rw [List.drop_eq_nil_of_le (by omega)]; rfl⟩
 | f + 1, p, acc, rs, h => by
  unfold chgsF at h
  obtain ⟨k, v, g, e, c, hr⟩ : ∃ k v g e c, getChange l p = (k, v, g, e, c) := ⟨_, _, _, _, _, rfl⟩
  rw [hr] at h
  simp only [ne_eq] at h
  split at h
  ·rename_i hc; simp at h; exact absurd h.2 hc
  ·rename_i hc
   have z : c = 0 := by simpa using hc
   subst z
   obtain ⟨p', e', hp, rfl, hd⟩ := getChange_fwd hr
   have : p' = p := by omega
   subst this
   obtain ⟨new, h1, h2, h3⟩ := chgsF_fwd l f e' _ rs h
   refine ⟨(⟨k.toArray⟩, v, g) :: new, by rw [h1]; simp, by simp [h2], ?_⟩
   rw [hd, h3]
   simp [chgsB, chgL]
theorem readChgs_fwd {l : List UInt8} {cs : List Chg} (h : readChgs l = (cs, 0)) : chgsL cs = l := by
 unfold readChgs at h
 obtain ⟨a, b, c, hg⟩ : ∃ a b c, getNum l 0 = (a, b, c) := ⟨_, _, _, rfl⟩
 rw [hg] at h
 simp only [ne_eq] at h
 split at h
 ·rename_i hc; simp at h; exact absurd h.2 hc
 ·rename_i hc
  have z : c = 0 := by simpa using hc
  subst z
  split at h
  ·simp at h
  ·obtain ⟨p, e, n, hp, rfl, rfl, hd⟩ := getNum_fwd hg
   have : p = 0 := by omega
   subst this
   rw [Int.toNat_natCast] at h
   obtain ⟨new, h1, h2, h3⟩ := chgsF_fwd l n e _ cs h
   have h1' : cs = new := by simpa using h1
   subst h1'
   unfold chgsL
   rw [h2, ← h3, ← hd, List.drop_zero]
end Go.Proofs.Ytmbkaedhllfoeaa
namespace Go.Proofs.Ytmbkaedhllfoeaa
open Go.RowKit Go.Rst Go.Crc
def wordL (n : Nat) : List UInt8 := [UInt8.ofNat (n / 16777216), UInt8.ofNat (n / 65536), UInt8.ofNat (n / 256), UInt8.ofNat n]
theorem wordL_length (n : Nat) : (wordL n).length = 4 := rfl
def pad60 (l : List UInt8) : List UInt8 := l ++ List.replicate (60 - l.length) 0
def headL (epoch n i of : Nat) (b : List UInt8) : List UInt8 := wordL epoch ++ wordL n ++ [UInt8.ofNat i, UInt8.ofNat of, UInt8.ofNat b.length] ++ b
def partL (epoch n i of : Nat) (b : List UInt8) : List UInt8 := sealL (pad60 (headL epoch n i of b))
theorem headL_length (epoch n i of : Nat) (b : List UInt8) : (headL epoch n i of b).length = 11 + b.length := by simp [headL, wordL]; omega
theorem partL_length {epoch n i of : Nat} {b : List UInt8} (h : b.length ≤ 49) : (partL epoch n i of b).length = 64 := by
 unfold partL pad60
 rw [sealL_length, List.length_append, List.length_replicate, headL_length]
 omega
def ofL (b : List UInt8) : Nat := (b.length + 48) / 49
def pcL (b : List UInt8) (i : Nat) : List UInt8 := (b.drop (49 * i)).take 49
theorem pcL_length (b : List UInt8) (i : Nat) : (pcL b i).length = min 49 (b.length - 49 * i) := by unfold pcL; rw [List.length_take, List.length_drop]
def secL (epoch n : Nat) (b : List UInt8) (k : Nat) : List (List UInt8) := (List.range k).map fun i => partL epoch n i (ofL b) (pcL b i)
theorem secL_succ (epoch n : Nat) (b : List UInt8) (k : Nat) : secL epoch n b (k + 1) = secL epoch n b k ++ [partL epoch n k (ofL b) (pcL b k)] := by simp [secL, List.range_succ]
theorem secL_length (epoch n : Nat) (b : List UInt8) (k : Nat) : (secL epoch n b k).length = k := by simp [secL]
def partsL (epoch n : Int) (cs : List Chg) : List (List UInt8) × Bool :=
 if epoch < 0 ∨ 1073741824 < epoch ∨ n < 0 ∨ 1073741824 < n then ([], false)
 else if 200 < ofL (chgsL cs) then ([], false) else (secL epoch.toNat n.toNat (chgsL cs) (ofL (chgsL cs)), true)
end Go.Proofs.Ytmbkaedhllfoeaa
namespace Go.Proofs.Ytmbkaedhllfoeaa
open Go.RowKit Go.Rst Go.Crc
theorem word_cells {n : Nat} : #[Value.int .u8 ((n : Int) / 16777216 % 256), .int .u8 ((n : Int) / 65536 % 256), .int .u8 ((n : Int) / 256 % 256), .int .u8 ((n : Int) % 256)] = (bvs (wordL n)).toArray := by
 unfold wordL bvs bv
 simp only [List.map_cons, List.map_nil, UInt8.toNat_ofNat']
 simp
theorem three_cells {i o l : Nat} (hl : l ≤ 255) : #[Value.int .u8 ((i : Int) % 256), .int .u8 ((o : Int) % 256), .int .u8 (l : Int)] = (bvs [UInt8.ofNat i, UInt8.ofNat o, UInt8.ofNat l]).toArray := by
 unfold bvs bv
 simp only [List.map_cons, List.map_nil, UInt8.toNat_ofNat']
 simp
 omega
end Go.Proofs.Ytmbkaedhllfoeaa
namespace Go.Proofs.Ytmbkaedhllfoeaa
open Go.RowKit Go.Rst
set_option maxRecDepth 100000 in
set_option maxHeartbeats 4000000 in
theorem change_any (k : ByteArray) (v : Value) (l : List UInt8) (gn : Bool) (hk : k.size ≤ 1000000000) (hl : l.length ≤ 1000000000) (w : World) (hv : RB w v l) :
  Calls Try.prog 59 #[.agg #[.string k, v, .bool gn]] w (NewB 5 w (chgL (k, l, gn))) := by
 have hkl := textL_len (l := k.data.toList) (by rw [Array.length_toList]; exact hk)
 have htl := textL_len (l := l) hl
 have hsz : (⟨l.toArray⟩ : ByteArray).size ≤ 1000000000 := by show l.toArray.size ≤ _; simpa using hl
 have HSZ := Lib.hid hsz
 have HV := Lib.hid hv
 obtain ⟨A, c, rfl, _, h2, _⟩ := hv
 simp only [maxLen] at h2
 clear hsz
 cases gn
 ·have E : chgL (k, l, false) = (textL k.data.toList ++ [0]) ++ textL l := by simp [chgL]
  have HE := Lib.hid E
  clear E
  go_enter Try.func59, Try.ntmps59
  go_wp2_with fail
  obtain ⟨wb, hwb⟩ : ∃ wb, wb = w.alloc (.cells #[.string k, .slice A l.length c, .bool false] 33) := ⟨_, rfl⟩
  rw [← hwb]
  have HWB := Lib.hid (show Below w.heap.size w wb by rw [hwb]; exact (Below.refl _ _).alloc (Nat.le_refl _) _)
  have HLT := Lib.hid (show w.heap.size < wb.heap.size by rw [hwb]; simp)
  have HC0 := Lib.hid (show wb.cell? ⟨w.heap.size, 0, none⟩ = some (.string k) by rw [hwb]; simp)
  have HCU := Lib.hid (show wb.cell? ⟨w.heap.size, 1, none⟩ = some (.slice A l.length c) by rw [hwb]; simp)
  have HCG := Lib.hid (show wb.cell? ⟨w.heap.size, 2, none⟩ = some (.bool false) by rw [hwb]; simp)
  have HRV := Lib.hid (show RB wb (.slice A l.length c) l by rw [hwb]; exact HV.out.alloc _)
  clear hwb
  refine (text_any k hk _).mono ?_
  rintro e w1 ⟨v1, rfl, hown, hbel⟩
  obtain ⟨A1, c1, rfl, _⟩ := own_shape hown
  have hcg := (hbel.cell (p := ⟨w.heap.size, 2, none⟩) HLT.out).trans HCG.out
  have HO1 := Lib.hid hown
  have HB1 := Lib.hid hbel
  clear hown hbel
  go_wp2
  refine wp_region_held_drew (S := fun X => Below wb.heap.size wb X) (by kernel_rfl) HB1.out.drew (fun hHeld => ?_)
  refine wpAnyH_take (i := 0) (oi := { dst := some 12, op := Op.move (Operand.tmp 3), type := 22, pos := "code.go:63", after := #[], guard := none }) (v := ?_) rfl (by kernel_rfl) (by kernel_rfl) (by kernel_rfl) (fun _ _ _ h => h) (Or.inl ⟨by rfl, ?_⟩) (by assumption) ?_
  rotate_left
  ·intro X hSw; go_simp; try (with_reducible rfl)
  try simp only [Act.put, List.setIfInBounds_toArray, List.set_cons_zero, List.set_cons_succ]
  refine wpAnyH_take (i := 3) (oi := { dst := some 15, op := Op.fieldAddr 33 (Operand.tmp 1) 1, type := 0, pos := "code.go:63", after := #[], guard := none }) (v := ?_) rfl (by kernel_rfl) (by kernel_rfl) (by kernel_rfl) (fun _ _ _ h => h) (Or.inl ⟨by rfl, ?_⟩) (by assumption) ?_
  rotate_left
  ·intro X hSw; go_simp; try (with_reducible rfl)
  try simp only [Act.put, List.setIfInBounds_toArray, List.set_cons_zero, List.set_cons_succ]
  refine wpAnyH_take (i := 4) (oi := { dst := some 16, op := Op.load 22 (Operand.tmp 15), type := 22, pos := "code.go:63", after := #[{ on := 3, ground := Ground.data }], guard := none }) (v := ?_) rfl (by kernel_rfl) (by kernel_rfl) (by kernel_rfl) (fun _ _ _ h => h) (Or.inl ⟨by rfl, ?_⟩) (by assumption) ?_
  rotate_left
  ·intro X hSw; have hq := (hSw.cell (p := ⟨w.heap.size, 1, none⟩) HLT.out).trans HCU.out; go_simp; try (with_reducible rfl)
  try simp only [Act.put, List.setIfInBounds_toArray, List.set_cons_zero, List.set_cons_succ]
  refine wpAnyH_take (i := 5) (oi := { dst := some 17, op := Op.convert 22 9 (Operand.tmp 16), type := 9, pos := "code.go:63", after := #[{ on := 4, ground := Ground.data }], guard := none }) (v := ?_) rfl (by kernel_rfl) (by kernel_rfl) (by kernel_rfl) (fun _ _ _ h => h) (Or.inl ⟨by rfl, ?_⟩) (by assumption) ?_
  rotate_left
  ·intro X hSw; have hq := str22 (HRV.out.below hSw); go_simp; try (with_reducible rfl)
  try simp only [Act.put, List.setIfInBounds_toArray, List.set_cons_zero, List.set_cons_succ]
  refine wpAnyH_ready (rs := [1]) (by kernel_rfl) (by simp) ?_
  refine AllReadyH.cons (o := { dst := some 13, op := Op.buildSlice 22 1 #[(0, Operand.const (Value.int IntKind.u8 0))], type := 22, pos := "code.go:63", after := #[], guard := none }) rfl (fun K hK => ?_) AllReadyH.nil
  go_simp
  refine gen_allocD ?_
  intro w2 hw2 hbw2
  have hHeld' := HB1.out.trans (hbw2.mono HB1.out.size)
  refine hK.out _ _ ?_ (fun _ => ?_)
  ·exact hHeld'
  clear hK K hHeld
  try simp only [Act.put, List.setIfInBounds_toArray, List.set_cons_zero, List.set_cons_succ]
  have hHeld := hHeld'
  clear hHeld'
  have hz : RB w2 (.slice (some ⟨w1.heap.size, 0, none⟩) 1 1) [0] := by rw [hw2]; exact (RB.lit w1 5 (0, 0) [0] _ rfl 1 rfl (by decide)).drew
  have own2 := own_below HO1.out hbw2
  clear hw2
  refine wpAnyH_ready (rs := [2]) (by kernel_rfl) (by simp) ?_
  refine AllReadyH.cons (o := { dst := some 14, op := Op.call { callee := Callee.builtin Builtin.append, args := #[Operand.tmp 12, Operand.tmp 13], argTypes := #[22, 22] }, type := 22, pos := "code.go:63", after := #[{ on := 0, ground := Ground.data }, { on := 1, ground := Ground.data }], guard := none }) rfl (fun K hK => ?_) AllReadyH.nil
  refine step_own (by rfl) (.tmp 12) (.tmp 13) 22 22 (by rfl) wb.heap.size 5 (.int .u8 0) 1 1 Try.underlying22 info5 rfl (by rfl) own2 (by rfl) (hz.src Try.underlying22) hHeld (Nat.le_refl _) (by unfold maxLen; simp; omega) (by simp; omega) hHeld.size ?_
  intro v4 w3 hown3 hbel3 _
  have hHeld' := hbel3
  refine hK.out _ _ ?_ (fun _ => ?_)
  ·exact hHeld'
  clear hK K hHeld
  try simp only [Act.put, List.setIfInBounds_toArray, List.set_cons_zero, List.set_cons_succ]
  have hHeld := hHeld'
  clear hHeld'
  have own3 := hown3
  clear hown3
  obtain ⟨A4, c4, rfl, _⟩ := own_shape own3
  refine wpAnyH_ready (rs := [6]) (by kernel_rfl) (by simp) ?_
  refine AllReadyH.cons (o := { dst := some 18, op := Op.call { callee := Callee.value (Operand.func 83), args := #[Operand.tmp 17], argTypes := #[9] }, type := 22, pos := "code.go:63", after := #[{ on := 5, ground := Ground.data }, { on := 2, ground := Ground.chain }], guard := none }) rfl (fun K hK => ?_) AllReadyH.nil
  go_simp
  refine (text_any _ HSZ.out _).mono ?_
  rintro x w4 ⟨v5, rfl, hown5, hbw5⟩
  try (go_wp2_with fail)
  have hHeld' := hHeld.trans (hbw5.mono hHeld.size)
  refine hK.out _ _ ?_ (fun _ => ?_)
  ·exact hHeld'
  clear hK K hHeld
  try simp only [Act.put, List.setIfInBounds_toArray, List.set_cons_zero, List.set_cons_succ]
  have hHeld := hHeld'
  clear hHeld'
  have own4 := own_below own3 hbw5
  refine wpAnyH_ready (rs := [7]) (by kernel_rfl) (by simp) ?_
  refine AllReadyH.cons (o := { dst := some 19, op := Op.call { callee := Callee.builtin Builtin.append, args := #[Operand.tmp 14, Operand.tmp 18], argTypes := #[22, 22] }, type := 22, pos := "code.go:63", after := #[{ on := 2, ground := Ground.data }, { on := 6, ground := Ground.data }, { on := 6, ground := Ground.chain }], guard := none }) rfl (fun K hK => ?_) AllReadyH.nil
  refine step_own (by rfl) (.tmp 14) (.tmp 18) 22 22 (by rfl) wb.heap.size 5 (.int .u8 0) 1 1 Try.underlying22 info5 rfl (by rfl) own4 (by rfl) ((RB.own hown5).src Try.underlying22) hHeld (Nat.le_refl _) (by unfold maxLen; simp; omega) (by simp; omega) hHeld.size ?_
  intro v6 w5 hown6 hbel6 _
  have hHeld' := hbel6
  refine hK.out _ _ ?_ (fun _ => ?_)
  ·exact hHeld'
  clear hK K hHeld
  try simp only [Act.put, List.setIfInBounds_toArray, List.set_cons_zero, List.set_cons_succ]
  have hHeld := hHeld'
  clear hHeld'
  refine wpAnyH_take (i := 8) (oi := { dst := some 2, op := Op.assign (Operand.tmp 19), type := 22, pos := "code.go:63", after := #[{ on := 7, ground := Ground.data }, { on := 7, ground := Ground.chain }, { on := 0, ground := Ground.phase }, { on := 1, ground := Ground.phase }, { on := 2, ground := Ground.phase }, { on := 3, ground := Ground.phase }, { on := 4, ground := Ground.phase }, { on := 5, ground := Ground.phase }, { on := 6, ground := Ground.phase }, { on := 7, ground := Ground.phase }], guard := none }) (v := ?_) rfl (by kernel_rfl) (by kernel_rfl) (by kernel_rfl) (fun _ _ _ h => h) (Or.inl ⟨by rfl, ?_⟩) (by assumption) ?_
  rotate_left
  ·intro X hSw; go_simp; try (with_reducible rfl)
  try simp only [Act.put, List.setIfInBounds_toArray, List.set_cons_zero, List.set_cons_succ]
  refine wpAnyH_done (by kernel_rfl) ?_ _
  go_wp2
  go_ret
  refine ⟨_, rfl, ?_, HWB.out.trans (hHeld.mono HWB.out.size)⟩
  rw [HE.out]
  exact own_base (own_cat (l := textL k.data.toList ++ [0]) (m := textL l) (by rw [List.length_append, bvs_append]; exact hown6)) HWB.out.size
 ·have E : chgL (k, l, true) = textL k.data.toList ++ [1] := by simp [chgL]
  have HE := Lib.hid E
  clear E
  go_enter Try.func59, Try.ntmps59
  go_wp2_with fail
  obtain ⟨wb, hwb⟩ : ∃ wb, wb = w.alloc (.cells #[.string k, .slice A l.length c, .bool true] 33) := ⟨_, rfl⟩
  rw [← hwb]
  have HWB := Lib.hid (show Below w.heap.size w wb by rw [hwb]; exact (Below.refl _ _).alloc (Nat.le_refl _) _)
  have HLT := Lib.hid (show w.heap.size < wb.heap.size by rw [hwb]; simp)
  have HCG := Lib.hid (show wb.cell? ⟨w.heap.size, 2, none⟩ = some (.bool true) by rw [hwb]; simp)
  clear hwb
  refine (text_any k hk _).mono ?_
  rintro e w1 ⟨v1, rfl, hown, hbel⟩
  have hcg := (hbel.cell (p := ⟨w.heap.size, 2, none⟩) HLT.out).trans HCG.out
  have HO1 := Lib.hid hown
  have HB1 := Lib.hid hbel
  clear hown hbel
  go_wp2_with (at_builtin; refine wpList_own rfl (.tmp 9) (.tmp 10) 22 22 rfl wb.heap.size 5 (.int .u8 0) 1 1 Try.underlying22 info5 rfl rfl (HO1.out.alloc _) rfl (src_one w1 Try.underlying22 5 _ rfl) (HB1.out.alloc HB1.out.size _) (Nat.le_refl _) ?_ ?_ ?_ ?_)
  ·unfold maxLen; omega
  ·omega
  ·have := HB1.out.size; simp; omega
  ·intro v2 w2 hown2 hbel2 _
   go_wp2
   go_ret
   refine ⟨v2, rfl, ?_, HWB.out.trans (hbel2.mono HWB.out.size)⟩
   rw [HE.out]
   exact own_base (own_cat (l := textL k.data.toList) (m := [1]) hown2) HWB.out.size
end Go.Proofs.Ytmbkaedhllfoeaa
namespace Go.Proofs.Ytmbkaedhllfoeaa
open Go.RowKit Go.Rst
theorem chgsB_take {rs : List Chg} {k : Nat} (h : k < rs.length) : chgsB (rs.take (k + 1)) = chgsB (rs.take k) ++ chgL rs[k] := by
 unfold chgsB
 rw [List.take_succ_eq_append_getElem h, List.flatMap_append]
 simp
theorem chgsB_le (rs : List Chg) (k : Nat) : (chgsB (rs.take k)).length ≤ (chgsB rs).length := by
 conv => rhs; rw [← List.take_append_drop k rs]
 unfold chgsB
 rw [List.flatMap_append, List.length_append]
 omega
theorem chgL_len (c : Chg) : c.1.data.toList.length ≤ (chgL c).length := by
 unfold chgL textL
 simp only [List.length_append]
 omega
set_option maxRecDepth 100000 in
set_option maxHeartbeats 1600000 in
theorem listC_any (v : Value) (rs : List Chg) (hbig : (chgsB rs).length ≤ 1000000000) (hn : rs.length ≤ 1000000000) (hvb : ∀ r ∈ rs, r.2.1.length ≤ 1000000000) (w : World) (hv : RC w v rs) :
  Calls Try.prog 58 #[v, .func (Fn.func 59) #[] #[]] w (NewB 5 w (chgsL rs)) := by
 obtain ⟨A, c, rfl, hlc, hc, hcells⟩ := hv
 have HC := Lib.hid hcells
 have HBIG := Lib.hid hvb
 clear hvb
 clear hcells
 unfold maxLen at hc
 go_enter Try.func58, Try.ntmps58
 go_wp2_with fail
 refine (num_any _ _).mono ?_
 rintro e w1 ⟨vn, rfl, hown, hbel⟩
 have e1 : clip (rs.length : Int) = rs.length := by unfold clip; omega
 rw [e1] at hown
 have h8 := numL_len8 (n := rs.length) (by omega)
 clear e1
 go_wp2
 go_loopw [5, 13] (fun b i wr => ∃ k : Nat, k ≤ rs.length ∧ i = .int .i64 k ∧ wr.ownsRow w.heap.size 5 1 b (numL rs.length ++ chgsB (rs.take k)).length (bvs (numL rs.length ++ chgsB (rs.take k))) ∧ Below w.heap.size w wr)
  (fun _ i _ => rs.length - (intOf i).toNat)
 case atStart => exact ⟨0, Nat.zero_le _, rfl, by simpa [chgsB] using hown, hbel⟩
 case round =>
  clear hown hbel
  obtain ⟨k, hk, rfl, hown, hbel⟩ := hrel
  by_cases hlt : k < rs.length
  ·obtain ⟨b, off, rfl, hb, hcell⟩ : ∃ b off, A = some ⟨b, off, none⟩ ∧ b < w.heap.size ∧
     ∀ j (h : j < rs.length), w.cell? ⟨b, off + j * 3, none⟩ = some (.string rs[j].1) ∧ (∃ u, w.cell? ⟨b, off + j * 3 + 1, none⟩ = some u ∧ RB w u rs[j].2.1) ∧ w.cell? ⟨b, off + j * 3 + 2, none⟩ = some (.bool rs[j].2.2) := by
    rcases HC.out with rfl | h
    ·simp at hlt
    ·exact h
   obtain ⟨hc0, ⟨u, hc1, hru⟩, hc2⟩ := hcell k hlt
   have hk0 := (hbel.cell (p := ⟨b, off + k * 3, none⟩) hb).trans hc0
   have hk1 := (hbel.cell (p := ⟨b, off + k * 3 + 1, none⟩) hb).trans hc1
   have hk2 := (hbel.cell (p := ⟨b, off + k * 3 + 2, none⟩) hb).trans hc2
   have hru1 := hru.below hbel
   have htk := chgsB_take hlt
   have hle := chgsB_le rs (k + 1)
   have hrl := chgL_len rs[k]
   have hrv := HBIG.out rs[k] (List.getElem_mem hlt)
   rw [htk, List.length_append] at hle
   generalize rs[k] = r at *
   have HT := Lib.hid htk
   have hsz := hbel.size
   clear hcell hc0 hc1 hc2 htk HC
   obtain ⟨A2, c2, rfl⟩ : ∃ A2 c2, u = .slice A2 r.2.1.length c2 := by
    obtain ⟨A2, c2, h, _⟩ := hru
    exact ⟨A2, c2, h⟩
   have hkl : r.1.size ≤ 1000000000 := by rw [Array.length_toList] at hrl; show r.1.data.size ≤ _; omega
   have hcall : ∀ W, RB W (.slice A2 r.2.1.length c2) r.2.1 → Calls Try.prog 59 #[.agg #[.string r.1, .slice A2 r.2.1.length c2, .bool r.2.2]] W (NewB 5 W (chgL r)) := fun W hW => change_any r.1 (.slice A2 r.2.1.length c2) r.2.1 r.2.2 hkl (by omega) W hW
   have HL := Lib.hid hcall
   clear hcall hru hkl
   go_wp2_with fail
   refine (HL.out _ ?_).mono ?_
   ·exact hru1.alloc _
   rintro e w2 ⟨v2, rfl, hown2, hbel2⟩
   have hb3 : Below w.heap.size w w2 := (hbel.alloc hsz _).trans (hbel2.mono (by simp; omega))
   have hown3 := own_below (hown.alloc _) hbel2
   clear hown hbel hru1 hk0 hk1 hk2
   go_wp2_with (at_builtin; refine wpList_own rfl (.tmp 17) (.tmp 20) 22 22 rfl w.heap.size 5 (.int .u8 0) 1 1 Try.underlying22 info5 rfl rfl hown3 rfl ((RB.own hown2).src Try.underlying22) hb3 (Nat.le_refl _) ?_ ?_ ?_ ?_)
   ·rw [List.length_append]; unfold maxLen; omega
   ·rw [List.length_append]; omega
   ·exact hb3.size
   ·intro v' w4 hown' hbel' _
    go_wp2
    go_roundw
    case rel => exact ⟨k + 1, by omega, by go_num, by rw [HT.out, ← List.append_assoc]; exact own_cat (by rw [List.length_append]; exact hown'), hbel'⟩
    case measure => simp [intOf]; omega
  ·go_wp2
   go_ret
   have : k = rs.length := by omega
   subst this
   rw [List.take_length] at hown
   exact ⟨_, rfl, hown, hbel⟩
set_option maxRecDepth 100000 in
set_option maxHeartbeats 1600000 in
theorem changes_any (v : Value) (rs : List Chg) (hbig : (chgsB rs).length ≤ 1000000000) (hn : rs.length ≤ 1000000000) (hvb : ∀ r ∈ rs, r.2.1.length ≤ 1000000000) (w : World) (hv : RC w v rs) :
  Calls Try.prog 31 #[v] w (NewB 5 w (chgsL rs)) := by
 go_enter Try.func31, Try.ntmps31
 go_wp2_with fail
 refine (listC_any v rs hbig hn hvb w hv).mono ?_
 rintro e w1 ⟨v1, rfl, hown, hbel⟩
 go_wp2
 go_ret
 exact ⟨v1, rfl, hown, hbel⟩
end Go.Proofs.Ytmbkaedhllfoeaa
namespace Go.Proofs.Ytmbkaedhllfoeaa
open Go.RowKit Go.Rst Go.Crc
def b9 (s : List UInt8) : Nat := (s.getD 9 0).toNat
def b10 (s : List UInt8) : Nat := (s.getD 10 0).toNat
def toldL : List (List UInt8) → Nat
 | [] => 0
 | s :: _ => if s.length = 64 then b9 s else 0
def pieceP (s : List UInt8) : List UInt8 := (s.drop 11).take (min (b10 s) 49)
def allP (ss : List (List UInt8)) : List UInt8 := ss.flatMap pieceP
def frameS (ep n : Int) (ss : List (List UInt8)) : List Chg × Nat :=
 if ss.length < toldL ss then ([], 0)
 else if (ss.take (toldL ss)).all (fun s => s.length == 64) = false then ([], 0)
 else if (readChgs (allP (ss.take (toldL ss)))).2 ≠ 0 then ([], 0)
 else if (partsL ep n (readChgs (allP (ss.take (toldL ss)))).1).1 = ss.take (toldL ss) then ((readChgs (allP (ss.take (toldL ss)))).1, toldL ss)
 else ([], 0)
structure GoodS (ep n : Nat) (s : List UInt8) (j of : Nat) : Prop where
 len : s.length = 64
 lo : 1 ≤ b10 s
 hi : b10 s ≤ 49
 eq : s = partL ep n j of (pieceP s)
 full : j + 1 < of → b10 s = 49
structure GoodF (ep n : Nat) (ss : List (List UInt8)) (of : Nat) : Prop where
 told : of = toldL ss
 lo : 1 ≤ of
 hi : of ≤ 200
 le : of ≤ ss.length
 good : ∀ j (h : j < ss.length), j < of → GoodS ep n ss[j] j of
theorem part_bytes {ep n i of : Nat} {p : List UInt8} (hp : p.length ≤ 49) (hof : of ≤ 255) :
  b9 (partL ep n i of p) = of ∧ b10 (partL ep n i of p) = p.length ∧ pieceP (partL ep n i of p) = p := by
 have e : partL ep n i of p = wordL ep ++ (wordL n ++ ([UInt8.ofNat i, UInt8.ofNat of, UInt8.ofNat p.length] ++ (p ++ (List.replicate (60 - (headL ep n i of p).length) 0 ++ tailL (csum (pad60 (headL ep n i of p))))))) := by
  unfold partL sealL
  rw [show pad60 (headL ep n i of p) = headL ep n i of p ++ List.replicate (60 - (headL ep n i of p).length) 0 from rfl]
  unfold headL
  simp only [List.append_assoc]
 have h9 : b9 (partL ep n i of p) = of := by
  unfold b9
  rw [e]
  simp only [wordL, List.cons_append, List.nil_append, List.getD_cons_succ, List.getD_cons_zero, UInt8.toNat_ofNat']
  omega
 have h10 : b10 (partL ep n i of p) = p.length := by
  unfold b10
  rw [e]
  simp only [wordL, List.cons_append, List.nil_append, List.getD_cons_succ, List.getD_cons_zero, UInt8.toNat_ofNat']
  omega
 refine ⟨h9, h10, ?_⟩
 unfold pieceP
 rw [h10, Nat.min_eq_left hp, e]
 simp only [wordL, List.cons_append, List.nil_append, List.drop_succ_cons, List.drop_zero]
 rw [List.take_left' rfl]
theorem allP_take {ss : List (List UInt8)} {k : Nat} (h : k < ss.length) : allP (ss.take (k + 1)) = allP (ss.take k) ++ pieceP ss[k] := by
 unfold allP
 rw [List.take_succ_eq_append_getElem h, List.flatMap_append]
 simp
section
variable {ep n of : Nat} {ss : List (List UInt8)}
theorem parts_secs {epoch num : Int} {cs : List Chg} (h : (partsL epoch num cs).1 ≠ []) : (partsL epoch num cs).1 = secL epoch.toNat num.toNat (chgsL cs) (ofL (chgsL cs)) ∧ ofL (chgsL cs) ≤ 200 ∧ 0 ≤ epoch ∧ epoch ≤ 1073741824 ∧ 0 ≤ num ∧ num ≤ 1073741824 := by
 unfold partsL at h ⊢
 split at h
 ·exact (h rfl).elim
 ·split at h
  ·exact (h rfl).elim
  ·rename_i h1 h2
   rw [if_neg h1, if_neg h2]
   exact ⟨rfl, by omega, by omega, by omega, by omega, by omega⟩
theorem readChgs_nil : (readChgs []).2 ≠ 0 := by
 have : getNum [] 0 = (0, 0, 10) := by unfold getNum gnumF; simp
 unfold readChgs
 rw [this]
 simp
theorem frame_good {epoch num : Int} {l : List Chg} {c : Nat} (h : frameS epoch num ss = (l, c)) (hc : c ≠ 0) :
  GoodF epoch.toNat num.toNat ss c ∧ (readChgs (allP (ss.take c))) = (l, 0) ∧ 0 ≤ epoch ∧ epoch ≤ 1073741824 ∧ 0 ≤ num ∧ num ≤ 1073741824 ∧ chgsL l = allP (ss.take c) := by
 unfold frameS at h
 split at h
 ·injection h with _ h; exact (hc h.symm).elim
 ·rename_i h1
  split at h
  ·injection h with _ h; exact (hc h.symm).elim
  ·rename_i h2
   split at h
   ·injection h with _ h; exact (hc h.symm).elim
   ·rename_i h3
    split at h
    ·rename_i h4
     injection h with hl hcc
     subst hcc
     have hre : readChgs (allP (ss.take (toldL ss))) = (l, 0) := by rw [← hl]; exact Prod.ext rfl (by simpa using h3)
     have hf := readChgs_fwd hre
     rw [hl] at h4
     have hne : (partsL epoch num l).1 ≠ [] := by
      rw [h4]
      intro e
      have := congrArg List.length e
      rw [List.length_take, List.length_nil] at this
      omega
     obtain ⟨p1, p2, p3, p4, p5, p6⟩ := parts_secs hne
     rw [p1, hf] at h4
     rw [hf] at p2
     have hlen := congrArg List.length h4
     rw [secL_length, List.length_take, Nat.min_eq_left (by omega)] at hlen
     have hgood : ∀ j (hj : j < ss.length), j < toldL ss → GoodS epoch.toNat num.toNat ss[j] j (toldL ss) := by
      intro j hj hjt
      have e : ss[j] = partL epoch.toNat num.toNat j (toldL ss) (pcL (allP (ss.take (toldL ss))) j) := by
       have h5 : (secL epoch.toNat num.toNat (allP (ss.take (toldL ss))) (ofL (allP (ss.take (toldL ss)))))[j]'(by rw [secL_length]; omega) = (ss.take (toldL ss))[j]'(by rw [List.length_take]; omega) := by simp only [h4]
       rw [List.getElem_take] at h5
       rw [← h5]
       simp only [secL, List.getElem_map, List.getElem_range]
       rw [hlen]
      have hpl := pcL_length (allP (ss.take (toldL ss))) j
      have hof : ofL (allP (ss.take (toldL ss))) = ((allP (ss.take (toldL ss))).length + 48) / 49 := rfl
      obtain ⟨e1, e2, e3⟩ := part_bytes (ep := epoch.toNat) (n := num.toNat) (i := j) (of := toldL ss) (p := pcL (allP (ss.take (toldL ss))) j) (by omega) (by omega)
      rw [← e] at e1 e2 e3
      exact ⟨by rw [e]; exact partL_length (by omega), by omega, by omega, by rw [e3]; exact e, fun hf => by omega⟩
     exact ⟨⟨rfl, by omega, by omega, by omega, hgood⟩, hre, p3, p4, p5, p6, hf⟩
    ·injection h with _ h; exact (hc h.symm).elim
end
theorem frame_le {epoch num : Int} {ss : List (List UInt8)} : (frameS epoch num ss).2 ≤ ss.length := by
 by_cases hc : (frameS epoch num ss).2 = 0
 ·omega
 ·exact (frame_good (l := (frameS epoch num ss).1) (c := (frameS epoch num ss).2) rfl hc).1.le
def readF : Nat → Int → List (List UInt8) → Nat → List (List Chg) × Nat
 | 0, _, _, _ => ([], 0)
 | f + 1, ep, ss, k => if (frameS ep k ss).2 = 0 then ([], 0) else
  ((frameS ep k ss).1 :: (readF f ep (ss.drop (frameS ep k ss).2) (k + 1)).1, (frameS ep k ss).2 + (readF f ep (ss.drop (frameS ep k ss).2) (k + 1)).2)
def readS (ep : Int) (ss : List (List UInt8)) : List (List Chg) × Nat := readF (ss.length + 1) ep ss 0
theorem getChange_val (l : List UInt8) (p : Int) : (getChange l p).2.1.length ≤ 150 := by
 have h2 := getText_spec l ((getText l p 30).2.1 + 1) 150
 unfold getChange
 split
 ·simp
 ·split
  ·simp
  ·split
   ·simp
   ·split
    ·simp
    ·split
     ·simp
     ·rename_i h
      simp only
      rcases h2 with h2 | h2
      ·have := h2.2.2.2.2.2; omega
      ·exact absurd h2.1 (by intro hh; rcases hh with hh | hh <;> omega)
theorem chgsF_val (l : List UInt8) : ∀ (f : Nat) (q : Int) (acc : List Chg), (∀ c ∈ acc, c.2.1.length ≤ 150) → ∀ c ∈ (chgsF l f q acc).1, c.2.1.length ≤ 150
 | 0, q, acc, h, c, hc => by
  unfold chgsF at hc
  split at hc
  ·cases hc
  ·exact h c hc
 | f + 1, q, acc, h, c, hc => by
  unfold chgsF at hc
  split at hc
  ·cases hc
  ·refine chgsF_val l f _ _ (fun d hd => ?_) c hc
   rcases List.mem_append.1 hd with hd | hd
   ·exact h d hd
   ·simp only [List.mem_singleton] at hd
    subst hd
    exact getChange_val l q
theorem readChgs_val (l : List UInt8) : ∀ c ∈ (readChgs l).1, c.2.1.length ≤ 150 := by
 unfold readChgs
 split
 ·intro c hc; cases hc
 ·split
  ·intro c hc; cases hc
  ·exact chgsF_val l _ _ _ (fun c hc => by cases hc)
theorem chgL_pos (c : Chg) : 1 ≤ (chgL c).length := by
 have := numL_pos c.1.data.toList.length
 unfold chgL textL
 split <;> simp only [List.length_append] <;> omega
theorem chgsB_pos : ∀ cs : List Chg, cs.length ≤ (chgsB cs).length
 | [] => Nat.le_refl _
 | c :: cs => by
  have h1 := chgL_pos c
  have h2 := chgsB_pos cs
  have e : chgsB (c :: cs) = chgL c ++ chgsB cs := by unfold chgsB; rw [List.flatMap_cons]
  rw [e, List.length_append, List.length_cons]
  omega
theorem readChgs_few {l : List UInt8} {cs : List Chg} (h : readChgs l = (cs, 0)) : (chgsB cs).length ≤ l.length ∧ cs.length ≤ l.length := by
 have h1 := readChgs_fwd h
 have h2 := chgsB_pos cs
 have h3 := congrArg List.length h1
 unfold chgsL at h3
 rw [List.length_append] at h3
 omega
theorem allP_len : ∀ ss : List (List UInt8), (allP ss).length ≤ 49 * ss.length
 | [] => by simp [allP]
 | s :: ss => by
  have ih := allP_len ss
  have e : allP (s :: ss) = pieceP s ++ allP ss := by unfold allP; rw [List.flatMap_cons]
  have h : (pieceP s).length ≤ 49 := by unfold pieceP; rw [List.length_take]; omega
  rw [e, List.length_append, List.length_cons]
  omega
end Go.Proofs.Ytmbkaedhllfoeaa
namespace Go.Proofs.Ytmbkaedhllfoeaa
open Go.RowKit Go.Rst
set_option maxRecDepth 100000 in
set_option maxHeartbeats 1600000 in
theorem row_any (k : ByteArray) (v : Value) (l : List UInt8) (hk : k.size ≤ 1000000000) (hl : l.length ≤ 1000000000) (w : World) (hv : RB w v l) : Calls Try.prog 88 #[.agg #[.string k, v]] w (NewB 5 w (rowL k.data.toList l)) := by
 go_enter Try.func88, Try.ntmps88
 go_wp2_with fail
 have hb0 : Below w.heap.size w (w.alloc (Obj.cells #[Value.string k, v] 47)) := (Below.refl _ _).alloc (Nat.le_refl _) _
 have hc0 : (w.alloc (Obj.cells #[Value.string k, v] 47)).cell? ⟨w.heap.size, 0, none⟩ = some (.string k) := by simp
 have hc1 : (w.alloc (Obj.cells #[Value.string k, v] 47)).cell? ⟨w.heap.size, 1, none⟩ = some v := by simp
 have hr := hv.alloc (Obj.cells #[Value.string k, v] 47)
 have hsz : w.heap.size < (w.alloc (Obj.cells #[Value.string k, v] 47)).heap.size := by simp
 generalize w.alloc (Obj.cells #[Value.string k, v] 47) = w2 at *
 have hst := row_keep (w := w) (X := w2) (w3 := w2.drew) (Below.refl _ _).drew hc0 hc1 hr hb0 hsz
 have hk' := textL_len (l := k.data.toList) (by rw [Array.length_toList]; exact hk)
 have hl' := textL_len hl
 have hlen : (⟨l.toArray⟩ : ByteArray).size ≤ 1000000000 := by simpa [ByteArray.size] using hl
 go_region_held3 (fun w' => w'.cell? ⟨w.heap.size, 0, none⟩ = some (.string k) ∧ w'.cell? ⟨w.heap.size, 1, none⟩ = some v ∧ (convert 22 9 v).run Try.prog w' = .ok (.string ⟨l.toArray⟩) w' ∧ RB w' v l ∧ Below w.heap.size w w' ∧ w.heap.size < w'.heap.size)
  (first
   | exact hst
   | exact row_kept (by assumption) hbel1
   | exact row_kept (by assumption) hbel2
   | exact row_kept hst hbel5)
  (first
   | (go_at_call_of 83 (Value.string k); refine (text_any k hk _).mono ?_; rintro e w3 ⟨v1, rfl, hown1, hbel1⟩)
   | (go_at_call_of 83 (Value.string ⟨l.toArray⟩); refine (text_any _ hlen _).mono ?_; rintro e w4 ⟨v2, rfl, hown2, hbel2⟩)
   | (refine step_own (by rfl) (.tmp 5) (.tmp 9) 22 22 (by rfl) w2.drew.heap.size 5 (.int .u8 0) 1 1 Try.underlying22 info5 rfl (by rfl) (own_below hown1 hbel2) (by rfl) (RB.src (RB.own hown2) Try.underlying22) (hbel1.trans (hbel2.mono hbel1.size)) (Nat.le_refl _) (by unfold maxLen; omega) (by omega) (Nat.le_trans hbel1.size hbel2.size) ?_; intro v' w5 hown' hbel5 _))
 go_wp2
 go_ret
 exact ⟨v', rfl, own_cat (own_base hown' (Nat.le_of_lt hsz)), (hb0.drew).trans (hbel5.mono (Nat.le_of_lt hsz))⟩
end Go.Proofs.Ytmbkaedhllfoeaa
namespace Go.Proofs.Ytmbkaedhllfoeaa
open Go.RowKit Go.Rst Go.Pg Go.Crc
theorem allP_append (a b : List (List UInt8)) : allP (a ++ b) = allP a ++ allP b := by unfold allP; rw [List.flatMap_append]
theorem allP_one (s : List UInt8) : allP [s] = pieceP s := by unfold allP; simp
theorem allP_sec (ep n : Nat) (b : List UInt8) (hb : ofL b ≤ 255) : ∀ k, allP (secL ep n b k) = b.take (49 * k)
 | 0 => by simp [allP, secL]
 | k + 1 => by
  rw [secL_succ, allP_append, allP_one, allP_sec ep n b hb k, (part_bytes (by have := pcL_length b k; omega) hb).2.2]
  rw [show 49 * (k + 1) = 49 * k + 49 by omega, List.take_add]
  rfl
theorem ofL_le (b : List UInt8) : b.length ≤ 49 * ofL b := by unfold ofL; omega
theorem secL_len {ep n : Nat} {b : List UInt8} {k : Nat} {s : List UInt8} (h : s ∈ secL ep n b k) : s.length = 64 := by
 unfold secL at h
 rw [List.mem_map] at h
 obtain ⟨i, _, rfl⟩ := h
 exact partL_length (by have := pcL_length b i; omega)
theorem secL_zero {ep n : Nat} {b : List UInt8} {k : Nat} (h : 0 < k) : ∃ t, secL ep n b k = partL ep n 0 (ofL b) (pcL b 0) :: t := by
 obtain ⟨k, rfl⟩ : ∃ j, k = j + 1 := ⟨k - 1, by omega⟩
 unfold secL
 rw [List.range_succ_eq_map, List.map_cons]
 exact ⟨_, rfl⟩
theorem chgsL_pieces (cs : List Chg) : 0 < ofL (chgsL cs) := by
 have h := numL_pos cs.length
 unfold ofL chgsL
 rw [List.length_append]
 omega
theorem parts_of {epoch num : Int} {cs : List Chg} (h : (partsL epoch num cs).2 = true) :
  (partsL epoch num cs).1 = secL epoch.toNat num.toNat (chgsL cs) (ofL (chgsL cs)) ∧ ofL (chgsL cs) ≤ 200 ∧ 0 ≤ epoch ∧ epoch ≤ 1073741824 ∧ 0 ≤ num ∧ num ≤ 1073741824 := by
 unfold partsL at h ⊢
 split at h
 ·cases h
 ·split at h
  ·cases h
  ·rename_i h1 h2
   rw [if_neg h1, if_neg h2]
   exact ⟨rfl, by omega, by omega, by omega, by omega, by omega⟩
theorem parts_count {epoch num : Int} {cs : List Chg} (h : (partsL epoch num cs).2 = true) : (partsL epoch num cs).1.length = ofL (chgsL cs) := by
 rw [(parts_of h).1, secL_length]
theorem made_frame {epoch num : Int} {cs : List Chg} (h : (partsL epoch num cs).2 = true) (hr : readChgs (chgsL cs) = (cs, 0)) (rest : List (List UInt8)) :
  frameS epoch num ((partsL epoch num cs).1 ++ rest) = (cs, (partsL epoch num cs).1.length) := by
 obtain ⟨h1, h2, h3, h4, h5, h6⟩ := parts_of h
 have hpos := chgsL_pieces cs
 obtain ⟨t, ht⟩ := secL_zero (ep := epoch.toNat) (n := num.toNat) (b := chgsL cs) hpos
 have htold : toldL ((partsL epoch num cs).1 ++ rest) = ofL (chgsL cs) := by
  rw [h1, ht, List.cons_append]
  have hpl := pcL_length (chgsL cs) 0
  show (if (partL epoch.toNat num.toNat 0 (ofL (chgsL cs)) (pcL (chgsL cs) 0)).length = 64 then b9 _ else 0) = _
  rw [if_pos (partL_length (by omega)), (part_bytes (by omega) (by omega)).1]
 have hlen := parts_count h
 have htk : ((partsL epoch num cs).1 ++ rest).take (ofL (chgsL cs)) = (partsL epoch num cs).1 := List.take_left' hlen
 have hall : allP (partsL epoch num cs).1 = chgsL cs := by
  rw [h1, allP_sec _ _ _ (by omega), List.take_of_length_le (ofL_le _)]
 have h64 : ((partsL epoch num cs).1.all fun s => s.length == 64) = true := by
  rw [List.all_eq_true, h1]
  intro s hs
  rw [secL_len hs]
  rfl
 unfold frameS
 rw [htold, htk, hall, hr, if_neg (by rw [List.length_append]; omega), if_neg (by rw [h64]; decide), if_neg (by simp), if_pos rfl, hlen]
theorem readF_stop {f : Nat} {ep : Int} {ss : List (List UInt8)} {k : Nat} (h : (frameS ep k ss).2 = 0) : readF f ep ss k = ([], 0) := by
 cases f with
 | zero => rfl
 | succ f => rw [readF, if_pos h]
theorem readF_made {f : Nat} {ep : Int} {cs : List Chg} {k : Nat} (h : (partsL ep k cs).2 = true) (hr : readChgs (chgsL cs) = (cs, 0)) (rest : List (List UInt8)) :
  readF (f + 1) ep ((partsL ep k cs).1 ++ rest) k = (cs :: (readF f ep rest (k + 1)).1, (partsL ep k cs).1.length + (readF f ep rest (k + 1)).2) := by
 have hm := made_frame h hr rest
 have hpos := chgsL_pieces cs
 rw [readF, hm, if_neg (by show ¬ (partsL ep k cs).1.length = 0; rw [parts_count h]; omega)]
 rw [List.drop_left' rfl]
end Go.Proofs.Ytmbkaedhllfoeaa
namespace Go.Proofs.Ytmbkaedhllfoeaa
open Go.RowKit Go.Rst Go.Pg Go.Crc
def secsF (ep : Nat) : Nat → List (List Chg) → List (List UInt8)
 | _, [] => []
 | k, c :: cs => (partsL ep k c).1 ++ secsF ep (k + 1) cs
def MadeF (ep : Nat) : Nat → List (List Chg) → Prop
 | _, [] => True
 | k, c :: cs => (partsL ep k c).2 = true ∧ readChgs (chgsL c) = (c, 0) ∧ MadeF ep (k + 1) cs
theorem secsF_snoc (ep : Nat) (c : List Chg) : ∀ (cs : List (List Chg)) (k : Nat), secsF ep k (cs ++ [c]) = secsF ep k cs ++ (partsL ep ((k + cs.length : Nat) : Int) c).1
 | [], k => by simp [secsF]
 | d :: cs, k => by
  rw [List.cons_append, secsF, secsF, secsF_snoc ep c cs (k + 1), List.append_assoc, List.length_cons, show k + 1 + cs.length = k + (cs.length + 1) by omega]
theorem secsF_len {ep : Nat} : ∀ {cs : List (List Chg)} {k : Nat}, MadeF ep k cs → cs.length ≤ (secsF ep k cs).length
 | [], _, _ => Nat.le_refl _
 | c :: cs, k, h => by
  obtain ⟨h1, _, h3⟩ := h
  have ih := secsF_len h3
  have := parts_count h1
  have := chgsL_pieces c
  rw [secsF, List.length_append, List.length_cons]
  omega
def Bad (ep : Nat) (b : List UInt8) : Prop := ∀ n j of, ¬ GoodS ep n b j of
end Go.Proofs.Ytmbkaedhllfoeaa
namespace Go.Proofs.Ytmbkaedhllfoeaa
open Go.RowKit Go.Rst
theorem size_list (s : ByteArray) : s.data.toList.length = s.size := by rw [Array.length_toList]; rfl
def sizesC (rs : List Chg) : Nat := (rs.map fun r => r.1.size + r.2.1.length).sum
theorem chgL_few (c : Chg) (h1 : c.1.size ≤ 1000000000) (h2 : c.2.1.length ≤ 1000000000) : (chgL c).length ≤ 18 + (c.1.size + c.2.1.length) := by
 have h3 := size_list c.1
 have h4 := numL_len8 (n := c.1.data.toList.length) (by omega)
 have h5 := numL_len8 (n := c.2.1.length) (by omega)
 unfold chgL textL
 split <;> simp only [List.length_append, List.length_cons, List.length_nil] <;> omega
theorem chgsB_few : ∀ (rs : List Chg), sizesC rs ≤ 90000 → (chgsB rs).length ≤ 18 * rs.length + sizesC rs ∧ ∀ r ∈ rs, r.2.1.length ≤ 1000000000
 | [], _ => by simp [chgsB, sizesC]
 | r :: rs, h => by
  have e : sizesC (r :: rs) = r.1.size + r.2.1.length + sizesC rs := by simp [sizesC]
  obtain ⟨ih, ih2⟩ := chgsB_few rs (by omega)
  have h2 := chgL_few r (by omega) (by omega)
  have e2 : chgsB (r :: rs) = chgL r ++ chgsB rs := by unfold chgsB; rw [List.flatMap_cons]
  refine ⟨?_, fun x hx => ?_⟩
  ·rw [e2, e, List.length_append, List.length_cons]
   omega
  ·rcases List.mem_cons.1 hx with rfl | hx
   ·omega
   ·exact ih2 x hx
end Go.Proofs.Ytmbkaedhllfoeaa
namespace Go.Proofs.Ytmbkaedhllfoeaa
open Go.RowKit Go.Rst
theorem drop_first {l t : List UInt8} {p : Nat} {b : UInt8} (h : l.drop p = b :: t) : p < l.length ∧ l.getD p 0 = b := by
 have hp : p < l.length := by
  rcases Nat.lt_or_ge p l.length with hp | hp
  ·exact hp
  ·rw [List.drop_eq_nil_of_le hp] at h; cases h
 refine ⟨hp, ?_⟩
 rw [List.drop_eq_getElem_cons hp] at h
 injection h with h1 _
 simp [List.getD, List.getElem?_eq_getElem hp, h1]
theorem getChange_back {l post : List UInt8} {k : ByteArray} {v : List UInt8} {g : Bool} {q : Nat} (h : l.drop q = chgL (k, v, g) ++ post) (hk : k.data.toList.length ≤ 30) (hv : v.length ≤ 150) (hg : g = true → v = []) :
  getChange l (q : Int) = (k.data.toList, v, g, ((q + (chgL (k, v, g)).length : Nat) : Int), 0) := by
 have e : chgL (k, v, g) = textL k.data.toList ++ if g then [1] else 0 :: textL v := rfl
 rw [e, List.append_assoc] at h
 have h1 := getText_back h (by omega) 30
 rw [if_neg (by omega)] at h1
 have h2 : l.drop (q + (textL k.data.toList).length) = (if g then [1] else 0 :: textL v) ++ post := by rw [← List.drop_drop, h, List.drop_left]
 generalize hP : q + (textL k.data.toList).length = P at *
 cases g with
 | true =>
  obtain rfl := hg rfl
  rw [if_pos rfl, List.cons_append] at h2
  obtain ⟨hp, hb⟩ := drop_first h2
  unfold getChange
  rw [h1]
  simp only [ne_eq, not_true_eq_false, if_false, Int.toNat_natCast]
  rw [if_neg (by omega), hb, if_pos rfl, e]
  simp only [if_true, List.length_append, List.length_singleton]
  congr 4
  omega
 | false =>
  rw [if_neg (by decide), List.cons_append] at h2
  obtain ⟨hp, hb⟩ := drop_first h2
  have h3 : l.drop (P + 1) = textL v ++ post := by rw [← List.drop_drop, h2]; rfl
  have h4 := getText_back h3 (by omega) 150
  rw [if_neg (by omega)] at h4
  have ei : ((P : Nat) : Int) + 1 = ((P + 1 : Nat) : Int) := by omega
  unfold getChange
  rw [h1]
  simp only [ne_eq, not_true_eq_false, if_false, Int.toNat_natCast, ei]
  rw [if_neg (by omega), hb, if_neg (by decide), if_neg (by decide), h4, e]
  simp only [not_true_eq_false, if_false, Bool.false_eq_true, List.length_append, List.length_cons]
  congr 4
  omega
def ShortC (cs : List Chg) : Prop := ∀ c ∈ cs, c.1.data.toList.length ≤ 30 ∧ c.2.1.length ≤ 150 ∧ (c.2.2 = true → c.2.1 = [])
theorem chgsF_back (l : List UInt8) : ∀ (cs : List Chg) (q : Nat) (acc : List Chg), l.drop q = chgsB cs → ShortC cs → chgsF l cs.length (q : Int) acc = (acc ++ cs, 0)
 | [], q, acc, h, _ => by
  have h0 : l.length ≤ q := by simpa [chgsB] using h
  rw [List.length_nil, chgsF, if_neg (by omega), List.append_nil]
 | (k, v, g) :: cs, q, acc, h, hs => by
  have e : chgsB ((k, v, g) :: cs) = chgL (k, v, g) ++ chgsB cs := by unfold chgsB; rw [List.flatMap_cons]
  rw [e] at h
  obtain ⟨a1, a2, a3⟩ := hs _ (List.mem_cons_self ..)
  have hg := getChange_back h a1 a2 a3
  rw [List.length_cons, chgsF, hg]
  simp only [ne_eq, not_true_eq_false, if_false]
  have h2 : l.drop (q + (chgL (k, v, g)).length) = chgsB cs := by rw [← List.drop_drop, h, List.drop_left]
  rw [chgsF_back l cs _ _ h2 (fun x hx => hs x (List.mem_cons_of_mem _ hx)), ba_eq]
  simp
theorem readChgs_back (cs : List Chg) (hn : cs.length ≤ 5000) (hs : ShortC cs) : readChgs (chgsL cs) = (cs, 0) := by
 have hg : getNum (chgsL cs) 0 = _ := getNum_back (q := 0) (n := cs.length) (L := chgsL cs) (post := chgsB cs) rfl (by omega)
 unfold readChgs
 rw [hg]
 simp only [ne_eq, not_true_eq_false, if_false]
 rw [if_neg (by omega), Int.toNat_natCast, chgsF_back _ cs _ _ (by rw [Nat.zero_add]; unfold chgsL; rw [List.drop_left]) hs, List.nil_append]
end Go.Proofs.Ytmbkaedhllfoeaa
