/-
  The contract of code.takeChange: at any place of any bytes it tells what the plain function getChange tells.
-/
import Derived.Test.YtomkbgghljcbfaaGTk
import Derived.Test.YtomkbgghljcbfaaGChg
set_option linter.unusedVariables false

namespace Go.Proofs.Ytomkbgghljcbfaa
open Go.RowKit Go.Rst

def getChange (l : List UInt8) (p : Int) : List UInt8 × List UInt8 × Bool × Int × Int :=
  if (getText l p 30).2.2 ≠ 0 then ([], [], false, 0, (getText l p 30).2.2)
  else if (l.length : Int) ≤ (getText l p 30).2.1 then ([], [], false, 0, 10)
  else if l.getD (getText l p 30).2.1.toNat 0 = 1 then ((getText l p 30).1, [], true, (getText l p 30).2.1 + 1, 0)
  else if l.getD (getText l p 30).2.1.toNat 0 ≠ 0 then ([], [], false, 0, 11)
  else if (getText l ((getText l p 30).2.1 + 1) 150).2.2 ≠ 0 then ([], [], false, 0, (getText l ((getText l p 30).2.1 + 1) 150).2.2)
  else ((getText l p 30).1, (getText l ((getText l p 30).2.1 + 1) 150).1, false, (getText l ((getText l p 30).2.1 + 1) 150).2.1, 0)

/-- What takeChange hands back. -/
def GivesChange (w : World) (r : List UInt8 × List UInt8 × Bool × Int × Int) (x : Ending) (w' : World) : Prop :=
  ∃ u, x = .returned (.tuple #[.agg #[.string ⟨r.1.toArray⟩, u, .bool r.2.2.1], .int .i64 r.2.2.2.1, .int .u16 r.2.2.2.2]) ∧ FB 5 w' w.heap.size u r.2.1 ∧ Below w.heap.size w w'

set_option maxRecDepth 100000 in
set_option maxHeartbeats 3200000 in
theorem takeChange_any (v : Value) (l : List UInt8) (p : Int) (w : World) (hv : RB w v l) : Calls Try.prog 80 #[v, .int .i64 p] w (GivesChange w (getChange l p)) := by
  have hs1 := getText_spec l p 30
  obtain ⟨k, q, e1, hg1⟩ : ∃ k q e, getText l p 30 = (k, q, e) := ⟨_, _, _, rfl⟩
  rw [hg1] at hs1
  have hcall1 : ∀ W, RB W v l → _ := fun W hW => getText_any v l p 30 W hW
  rw [hg1] at hcall1
  have H1 := Lib.hid hcall1
  have G1 := Lib.hid hg1
  have HV := Lib.hid hv
  have hv0 := hv
  obtain ⟨A, c, rfl, hlc, hc, hcells⟩ := hv0
  have HC := Lib.hid hcells
  unfold maxLen at hc
  clear hcall1 hg1 hv hcells
  simp only [] at hs1
  rcases hs1 with ⟨rfl, h1⟩ | ⟨her, rfl, rfl⟩
  · by_cases hin : (l.length : Int) ≤ q
    · have e : getChange l p = ([], [], false, 0, 10) := by unfold getChange; rw [G1.out]; simp [hin]
      rw [e]
      clear e
      go_enter Try.func80, Try.ntmps80
      go_wp2
      refine wp_scope_fwd 0 rfl ?_
      go_wp2_with fail
      refine (H1.out _ (HV.out.alloc _)).mono ?_
      rintro x w1 ⟨rfl, rfl⟩
      go_wp2
      go_step3
      refine ⟨rfl, ?_⟩
      unfold Behind
      go_wp2
      rw [Exit.noGoto_ret]
      refine bodyPost_ret (v := .tuple #[.agg #[.string ⟨#[]⟩, .slice none 0 0, .bool false], .int .i64 0, .int .u16 10]) (by simp [results, Try.results80, go_sem]) rfl ⟨.slice none 0 0, rfl, .inl ⟨rfl, rfl⟩, ?_⟩
      exact (Below.refl _ _).alloc (Nat.le_refl _) _
    · obtain ⟨q, rfl⟩ := Int.eq_ofNat_of_zero_le h1.1
      have hq : q < l.length := by omega
      obtain ⟨b, off, rfl, hb, hcell⟩ : ∃ b off, A = some ⟨b, off, none⟩ ∧ b < w.heap.size ∧ ∀ j (h : j < l.length), w.cell? ⟨b, off + j, none⟩ = some (bv l[j]) := by
        rcases HC.out with rfl | h
        · simp at hq
        · exact h
      have hc1 := (World.cell?_alloc_lt w (Obj.cells #[.string ⟨#[]⟩, .slice none 0 0, .bool false] 51) ⟨b, off + q, none⟩ hb).trans (hcell q hq)
      obtain ⟨d, hd⟩ : ∃ d, d = l[q] := ⟨_, rfl⟩
      have hd256 : (d.toNat : Int) < 256 := by have := d.toNat_lt; omega
      have hgd : l.getD (Int.toNat (q : Int)) 0 = d := by rw [Int.toNat_natCast, List.getD_eq_getElem?_getD, List.getElem?_eq_getElem hq, hd]; rfl
      unfold bv at hc1
      rw [← hd] at hc1
      have GD := Lib.hid hgd
      clear hcell hd hgd HC
      by_cases hone : d = 1
      · have e : getChange l p = (k, [], true, (q : Int) + 1, 0) := by unfold getChange; rw [G1.out]; simp only [GD.out]; simp [hone, hq]
        rw [e]
        subst hone
        clear e
        go_enter Try.func80, Try.ntmps80
        go_wp2
        refine wp_scope_fwd 0 rfl ?_
        go_wp2_with fail
        refine (H1.out _ (HV.out.alloc _)).mono ?_
        rintro x w1 ⟨rfl, rfl⟩
        go_wp2
        simp only [Exit.jump]
        refine bodyPost_ret (v := .tuple #[.agg #[.string ⟨k.toArray⟩, .slice none 0 0, .bool true], .int .i64 ((q : Int) + 1), .int .u16 0]) (by simp [results, Try.results80, go_sem]) rfl ⟨.slice none 0 0, rfl, .inl ⟨rfl, rfl⟩, ?_⟩
        exact (Below.refl _ _).alloc (Nat.le_refl _) _
      · have hne1 : ((d.toNat : Int) == 1) = false := by
          rw [beq_eq_false_iff_ne]
          intro h
          exact hone (UInt8.toNat_inj.1 (by rw [show (1 : UInt8).toNat = 1 from rfl]; omega))
        by_cases hzero : d = 0
        · subst hzero
          have hs2 := getText_spec l ((q : Int) + 1) 150
          obtain ⟨u, q2, e2, hg2⟩ : ∃ k q' e, getText l ((q : Int) + 1) 150 = (k, q', e) := ⟨_, _, _, rfl⟩
          rw [hg2] at hs2
          have hcall2 : ∀ W, RB W _ l → _ := fun W hW => getText_any (.slice (some ⟨b, off, none⟩) l.length c) l ((q : Int) + 1) 150 W hW
          rw [hg2] at hcall2
          have H2 := Lib.hid hcall2
          have G2 := Lib.hid hg2
          clear hcall2 hg2 hne1
          simp only [] at hs2
          rcases hs2 with ⟨rfl, h2⟩ | ⟨her, rfl, rfl⟩
          · have e : getChange l p = (k, u, false, q2, 0) := by unfold getChange; rw [G1.out]; simp only [GD.out, G2.out]; simp [hq]
            rw [e]
            clear e
            have hlen : u.length ≤ 150 := by have := h2.2.2.2.2.1; omega
            go_enter Try.func80, Try.ntmps80
            go_wp2
            refine wp_scope_fwd 0 rfl ?_
            go_wp2_with fail
            refine (H1.out _ (HV.out.alloc _)).mono ?_
            rintro x w1 ⟨rfl, rfl⟩
            go_wp2_with fail
            refine (H2.out _ (HV.out.alloc _)).mono ?_
            rintro x w1 ⟨rfl, rfl⟩
            go_wp2_with (refine wpList_bytes rfl (.tmp 48) 9 23 5 rfl Try.underlying9 Try.underlying23 Try.underlying5 (by rfl) ?_ ?_)
            · unfold maxLen; omega
            · intro g cc w' hfb hb2
              have hx0 : w'.cell? ⟨w.heap.size, 0, none⟩ = some (.string ⟨#[]⟩) := (hb2.cell (p := ⟨w.heap.size, 0, none⟩) (by simp)).trans (by simp)
              have hx1 : w'.cell? ⟨w.heap.size, 1, none⟩ = some (.slice none 0 0) := (hb2.cell (p := ⟨w.heap.size, 1, none⟩) (by simp)).trans (by simp)
              have hx2 : w'.cell? ⟨w.heap.size, 2, none⟩ = some (.bool false) := (hb2.cell (p := ⟨w.heap.size, 2, none⟩) (by simp)).trans (by simp)
              have hf0 : w'.frozen? ⟨w.heap.size, 0, none⟩ = false := (hb2.frozen (p := ⟨w.heap.size, 0, none⟩) (by simp)).trans (by simp)
              have hf1 : w'.frozen? ⟨w.heap.size, 1, none⟩ = false := (hb2.frozen (p := ⟨w.heap.size, 1, none⟩) (by simp)).trans (by simp)
              have hf2 : w'.frozen? ⟨w.heap.size, 2, none⟩ = false := (hb2.frozen (p := ⟨w.heap.size, 2, none⟩) (by simp)).trans (by simp)
              have hb3 : Below w.heap.size w w' := ((Below.refl _ _).alloc (Nat.le_refl _) _).trans (hb2.mono (by simp))
              have hfb' := hfb.base_ (base' := w.heap.size + 1) (Nat.le_refl _)
              clear hc1
              go_wp2
              simp only [Exit.jump]
              refine bodyPost_ret (v := .tuple #[.agg #[.string ⟨k.toArray⟩, .slice (some ⟨g, 0, none⟩) u.length cc, .bool false], .int .i64 q2, .int .u16 0]) (by simp [results, Try.results80, go_sem, hx0, hx1, hx2]) rfl ⟨_, rfl, ?_, ?_⟩
              · exact (((hfb'.setCell (by simp) _).setCell (by simp) _).setCell (by simp) _).base_ (Nat.le_succ _)
              · exact ((hb3.setCell (Nat.le_refl _) _).setCell (Nat.le_refl _) _).setCell (Nat.le_refl _) _
          · have e : getChange l p = ([], [], false, 0, e2) := by unfold getChange; rw [G1.out]; simp only [GD.out, G2.out]; rcases her with rfl | rfl | rfl <;> simp [hq]
            rw [e]
            have hne : (e2 != 0) = true := by rcases her with rfl | rfl | rfl <;> rfl
            clear e her
            go_enter Try.func80, Try.ntmps80
            go_wp2
            refine wp_scope_fwd 0 rfl ?_
            go_wp2_with fail
            refine (H1.out _ (HV.out.alloc _)).mono ?_
            rintro x w1 ⟨rfl, rfl⟩
            go_wp2_with fail
            refine (H2.out _ (HV.out.alloc _)).mono ?_
            rintro x w1 ⟨rfl, rfl⟩
            go_wp2
            go_step3
            refine ⟨rfl, ?_⟩
            unfold Behind
            go_wp2
            rw [Exit.noGoto_ret]
            refine bodyPost_ret (v := .tuple #[.agg #[.string ⟨#[]⟩, .slice none 0 0, .bool false], .int .i64 0, .int .u16 e2]) (by simp [results, Try.results80, go_sem]) rfl ⟨.slice none 0 0, rfl, .inl ⟨rfl, rfl⟩, ?_⟩
            exact (Below.refl _ _).alloc (Nat.le_refl _) _
        · have e : getChange l p = ([], [], false, 0, 11) := by unfold getChange; rw [G1.out]; simp only [GD.out]; simp [hone, hzero, hq]
          rw [e]
          have hne0 : ((d.toNat : Int) != 0) = true := by
            rw [bne_iff_ne]
            intro h
            exact hzero (UInt8.toNat_inj.1 (by rw [show (0 : UInt8).toNat = 0 from rfl]; omega))
          clear e
          go_enter Try.func80, Try.ntmps80
          go_wp2
          refine wp_scope_fwd 0 rfl ?_
          go_wp2_with fail
          refine (H1.out _ (HV.out.alloc _)).mono ?_
          rintro x w1 ⟨rfl, rfl⟩
          go_wp2
          go_step3
          refine ⟨rfl, ?_⟩
          unfold Behind
          go_wp2
          rw [Exit.noGoto_ret]
          refine bodyPost_ret (v := .tuple #[.agg #[.string ⟨#[]⟩, .slice none 0 0, .bool false], .int .i64 0, .int .u16 11]) (by simp [results, Try.results80, go_sem]) rfl ⟨.slice none 0 0, rfl, .inl ⟨rfl, rfl⟩, ?_⟩
          exact (Below.refl _ _).alloc (Nat.le_refl _) _
  · have e : getChange l p = ([], [], false, 0, e1) := by unfold getChange; rw [G1.out]; rcases her with rfl | rfl | rfl <;> simp
    rw [e]
    have hne : (e1 != 0) = true := by rcases her with rfl | rfl | rfl <;> rfl
    clear e her
    go_enter Try.func80, Try.ntmps80
    go_wp2
    refine wp_scope_fwd 0 rfl ?_
    go_wp2_with fail
    refine (H1.out _ (HV.out.alloc _)).mono ?_
    rintro x w1 ⟨rfl, rfl⟩
    go_wp2
    go_step3
    refine ⟨rfl, ?_⟩
    unfold Behind
    go_wp2
    rw [Exit.noGoto_ret]
    refine bodyPost_ret (v := .tuple #[.agg #[.string ⟨#[]⟩, .slice none 0 0, .bool false], .int .i64 0, .int .u16 e1]) (by simp [results, Try.results80, go_sem]) rfl ⟨.slice none 0 0, rfl, .inl ⟨rfl, rfl⟩, ?_⟩
    exact (Below.refl _ _).alloc (Nat.le_refl _) _
end Go.Proofs.Ytomkbgghljcbfaa

/-
  The contracts of the generic take at changes, and of code.ReadChanges: of any bytes they tell what the plain function readChgs tells.
-/
namespace Go.Proofs.Ytomkbgghljcbfaa
open Go.RowKit Go.Rst
theorem info51 : (Try.prog.info? 51).map (fun i => (i.zero, i.size, i.bytes)) = some (some (.agg #[.string ⟨#[]⟩, .slice none 0 0, .bool false]), 3, 48) := by kernel_rfl

def chgsF (l : List UInt8) : Nat → Int → List Chg → List Chg × Int
  | 0, q, acc => if q < l.length then ([], 11) else (acc, 0)
  | f + 1, q, acc => if (getChange l q).2.2.2.2 ≠ 0 then ([], (getChange l q).2.2.2.2) else chgsF l f (getChange l q).2.2.2.1 (acc ++ [(⟨(getChange l q).1.toArray⟩, (getChange l q).2.1, (getChange l q).2.2.1)])
def readChgs (l : List UInt8) : List Chg × Int :=
  if (getNum l 0).2.2 ≠ 0 then ([], (getNum l 0).2.2) else if 5000 < (getNum l 0).1 then ([], 3) else chgsF l (getNum l 0).1.toNat (getNum l 0).2.1 []

def GivesChgs (w : World) (r : List Chg × Int) (x : Ending) (w' : World) : Prop :=
  ∃ v, x = .returned (.tuple #[v, .int .u16 r.2]) ∧ OC 5 51 w' w.heap.size v r.1 ∧ Below w.heap.size w w'

theorem getChange_err (l : List UInt8) (p : Int) : (getChange l p).2.2.2.2 = 0 ∨ (getChange l p).2.2.2.2 = 3 ∨ (getChange l p).2.2.2.2 = 10 ∨ (getChange l p).2.2.2.2 = 11 := by
  have h1 := getText_spec l p 30
  have h2 := getText_spec l ((getText l p 30).2.1 + 1) 150
  unfold getChange
  split
  · rcases h1 with h1 | h1
    · exact .inl h1.1
    · exact .inr h1.1
  · split
    · exact .inr (.inr (.inl rfl))
    · split
      · exact .inl rfl
      · split
        · exact .inr (.inr (.inr rfl))
        · split
          · rcases h2 with h2 | h2
            · exact .inl h2.1
            · exact .inr h2.1
          · exact .inl rfl

set_option maxRecDepth 100000 in
set_option maxHeartbeats 1600000 in
theorem takeC_any (v : Value) (l : List UInt8) (w : World) (hv : RB w v l) : Calls Try.prog 79 #[v, .func (Fn.func 80) #[] #[]] w (GivesChgs w (readChgs l)) := by
  have hs1 := getNum_spec l 0
  obtain ⟨n, q, e1, hg1⟩ : ∃ k q e, getNum l 0 = (k, q, e) := ⟨_, _, _, rfl⟩
  rw [hg1] at hs1
  have hcall1 : ∀ W, RB W v l → _ := fun W hW => getNum_any v l 0 W hW
  rw [hg1] at hcall1
  have H1 := Lib.hid hcall1
  have G1 := Lib.hid hg1
  have HV := Lib.hid hv
  have HLEN : ∃ A c, v = .slice A l.length c := by obtain ⟨A, c, h, _⟩ := hv; exact ⟨A, c, h⟩
  obtain ⟨Av, cv, rfl⟩ := HLEN
  clear hcall1 hg1 hv
  simp only [] at hs1
  rcases hs1 with ⟨rfl, h1⟩ | ⟨her, rfl, rfl⟩
  · by_cases hbig : 5000 < n
    · have e : readChgs l = ([], 3) := by unfold readChgs; rw [G1.out]; simp [hbig]
      rw [e]
      clear e
      go_enter Try.func79, Try.ntmps79
      go_wp2
      refine wp_scope_fwd 0 rfl ?_
      go_wp2_with fail
      refine (H1.out _ (HV.out.alloc _)).mono ?_
      rintro x w1 ⟨rfl, rfl⟩
      go_wp2
      go_step3
      refine ⟨rfl, ?_⟩
      unfold Behind
      go_wp2
      rw [Exit.noGoto_ret]
      go_ret2
      exact ⟨_, rfl, OC.nil_ _ _ _ _, (Below.refl _ _).alloc (Nat.le_refl _) _⟩
    · obtain ⟨n, rfl⟩ := Int.eq_ofNat_of_zero_le h1.1
      have e : readChgs l = chgsF l n q [] := by unfold readChgs; rw [G1.out]; simp [show ¬ (5000 : Int) < (n : Int) from hbig]
      rw [e]
      clear e
      have hln : (l.length : Int) ≤ 9223372036854775807 := by
        obtain ⟨A, c, h, h2, h3, _⟩ := HV.out
        unfold maxLen at h3; omega
      go_enter Try.func79, Try.ntmps79
      go_wp2
      refine wp_scope_fwd 0 rfl ?_
      go_wp2_with fail
      refine (H1.out _ (HV.out.alloc _)).mono ?_
      rintro x w1 ⟨rfl, rfl⟩
      go_wp2_with fail
      go_loopw [6, 9, 10, 22] (fun rv qv ev i wr => ∃ (k : Nat) (acc : List Chg) (qq : Int), k ≤ n ∧ i = .int .i64 k ∧ ev = .int .u16 0 ∧ qv = .int .i64 qq ∧ acc.length = k ∧ OC 5 51 wr (w.heap.size + 1) rv acc ∧ Below w.heap.size w wr ∧ w.heap.size < wr.heap.size ∧
          (∃ a b d, wr.cell? ⟨w.heap.size, 0, none⟩ = some a ∧ wr.cell? ⟨w.heap.size, 1, none⟩ = some b ∧ wr.cell? ⟨w.heap.size, 2, none⟩ = some d) ∧ wr.frozen? ⟨w.heap.size, 0, none⟩ = false ∧ wr.frozen? ⟨w.heap.size, 1, none⟩ = false ∧ wr.frozen? ⟨w.heap.size, 2, none⟩ = false ∧ chgsF l (n - k) qq acc = chgsF l n q [])
        (fun _ _ _ i _ => n - (intOf i).toNat)
      case atStart => exact ⟨0, [], q, Nat.zero_le _, rfl, rfl, rfl, rfl, OC.nil_ _ _ _ _, (Below.refl _ _).alloc (Nat.le_refl _) _, by simp, ⟨_, _, _, by simp; rfl, by simp; rfl, by simp; rfl⟩, by simp, by simp, by simp, rfl⟩
      case round =>
        obtain ⟨k, acc, qq, hk, rfl, rfl, rfl, hal, hor, hbel, hsz, ⟨ca, cb, cd, hca, hcb, hcd⟩, hfa, hfb, hfd, heq⟩ := hrel
        have HE := Lib.hid heq
        have HAL := Lib.hid hal
        clear heq hal
        by_cases hlt : k < n
        · have herr := getChange_err l qq
          have hstep : chgsF l (n - k) qq acc = if (getChange l qq).2.2.2.2 ≠ 0 then ([], (getChange l qq).2.2.2.2) else chgsF l (n - k - 1) (getChange l qq).2.2.2.1 (acc ++ [(⟨(getChange l qq).1.toArray⟩, (getChange l qq).2.1, (getChange l qq).2.2.1)]) := by
            rw [show n - k = (n - k - 1) + 1 from by omega, chgsF]; rfl
          rw [hstep] at HE
          clear hstep
          have hcall := takeChange_any (.slice Av l.length cv) l qq wr (HV.out.below hbel)
          generalize getChange l qq = r at *
          obtain ⟨rk, rl, rg, rq, re⟩ := r
          simp only [] at HE hcall herr
          have HC := Lib.hid hcall
          have hbel0 := Lib.hid hbel
          clear hcall hbel
          go_wp2_with fail
          refine HC.out.mono ?_
          rintro x w2 ⟨u, rfl, hfu, hb2⟩
          obtain ⟨Au, cu, rfl⟩ := hfu.shape
          simp only [] at hfu
          have hc0 := (hb2.cell (p := ⟨w.heap.size, 0, none⟩) hsz).trans hca
          have hc1 := (hb2.cell (p := ⟨w.heap.size, 1, none⟩) hsz).trans hcb
          have hc2 := (hb2.cell (p := ⟨w.heap.size, 2, none⟩) hsz).trans hcd
          have hf2 := (hb2.frozen (p := ⟨w.heap.size, 2, none⟩) hsz).trans hfd
          have hf0 := (hb2.frozen (p := ⟨w.heap.size, 0, none⟩) hsz).trans hfa
          have hf1 := (hb2.frozen (p := ⟨w.heap.size, 1, none⟩) hsz).trans hfb
          have hor2 := hor.below hb2
          have hbel2 : Below w.heap.size w w2 := hbel0.out.trans (hb2.mono (Nat.le_of_lt hsz))
          have hsz2 : w.heap.size < w2.heap.size := by have := hb2.size; omega
          have hfu2 := hfu.base_ (base' := w.heap.size + 1) hsz
          clear hca hcb hcd hfa hfb hfd hor hsz HC hfu hb2 hbel0
          by_cases hre : re = 0
          · obtain rfl := hre
            have hor3 := (((hor2.setCell (p := ⟨w.heap.size, 0, none⟩) (Nat.lt_succ_self _) (.string ⟨rk.toArray⟩)).setCell (p := ⟨w.heap.size, 1, none⟩) (Nat.lt_succ_self _) (.slice Au rl.length cu)).setCell (p := ⟨w.heap.size, 2, none⟩) (Nat.lt_succ_self _) (.bool rg)).alloc (Obj.cells #[.string ⟨rk.toArray⟩, .slice Au rl.length cu, .bool rg] 51)
            have hfu3 := (((hfu2.setCell (p := ⟨w.heap.size, 0, none⟩) (Nat.lt_succ_self _) (.string ⟨rk.toArray⟩)).setCell (p := ⟨w.heap.size, 1, none⟩) (Nat.lt_succ_self _) (.slice Au rl.length cu)).setCell (p := ⟨w.heap.size, 2, none⟩) (Nat.lt_succ_self _) (.bool rg)).below ((Below.refl _ _).alloc (Nat.le_refl _) (Obj.cells #[.string ⟨rk.toArray⟩, .slice Au rl.length cu, .bool rg] 51))
            have hbx : Below w.heap.size w (((w2.setCell ⟨w.heap.size, 0, none⟩ (.string ⟨rk.toArray⟩)).setCell ⟨w.heap.size, 1, none⟩ (.slice Au rl.length cu)).setCell ⟨w.heap.size, 2, none⟩ (.bool rg)) := ((hbel2.setCell (Nat.le_refl _) _).setCell (Nat.le_refl _) _).setCell (Nat.le_refl _) _
            have hbel3 := hbx.alloc hbx.size (Obj.cells #[.string ⟨rk.toArray⟩, .slice Au rl.length cu, .bool rg] 51)
            obtain ⟨us, hus, ho, hfs⟩ := hor3
            have hlus : us.length = acc.length := by rw [← hus, List.length_map]
            have HLU := Lib.hid hlus
            have HUS := Lib.hid hus
            have HY0 : Hid (((((w2.setCell ⟨w.heap.size, 0, none⟩ (.string ⟨rk.toArray⟩)).setCell ⟨w.heap.size, 1, none⟩ (.slice Au rl.length cu)).setCell ⟨w.heap.size, 2, none⟩ (.bool rg)).alloc (Obj.cells #[.string ⟨rk.toArray⟩, .slice Au rl.length cu, .bool rg] 51)).cell? ⟨w.heap.size, 0, none⟩ = some (.string ⟨rk.toArray⟩)) := Lib.hid (by simp [go_sem, hc0, hsz2])
            have HY1 : Hid (((((w2.setCell ⟨w.heap.size, 0, none⟩ (.string ⟨rk.toArray⟩)).setCell ⟨w.heap.size, 1, none⟩ (.slice Au rl.length cu)).setCell ⟨w.heap.size, 2, none⟩ (.bool rg)).alloc (Obj.cells #[.string ⟨rk.toArray⟩, .slice Au rl.length cu, .bool rg] 51)).cell? ⟨w.heap.size, 1, none⟩ = some (.slice Au rl.length cu)) := Lib.hid (by simp [go_sem, hc1, hsz2])
            have HY2 : Hid (((((w2.setCell ⟨w.heap.size, 0, none⟩ (.string ⟨rk.toArray⟩)).setCell ⟨w.heap.size, 1, none⟩ (.slice Au rl.length cu)).setCell ⟨w.heap.size, 2, none⟩ (.bool rg)).alloc (Obj.cells #[.string ⟨rk.toArray⟩, .slice Au rl.length cu, .bool rg] 51)).cell? ⟨w.heap.size, 2, none⟩ = some (.bool rg)) := Lib.hid (by simp [go_sem, hc2, hsz2])
            have HZ2 : Hid (((((w2.setCell ⟨w.heap.size, 0, none⟩ (.string ⟨rk.toArray⟩)).setCell ⟨w.heap.size, 1, none⟩ (.slice Au rl.length cu)).setCell ⟨w.heap.size, 2, none⟩ (.bool rg)).alloc (Obj.cells #[.string ⟨rk.toArray⟩, .slice Au rl.length cu, .bool rg] 51)).frozen? ⟨w.heap.size, 2, none⟩ = false) := Lib.hid (by simp [go_sem, hf2, hsz2])
            have HZ0 : Hid (((((w2.setCell ⟨w.heap.size, 0, none⟩ (.string ⟨rk.toArray⟩)).setCell ⟨w.heap.size, 1, none⟩ (.slice Au rl.length cu)).setCell ⟨w.heap.size, 2, none⟩ (.bool rg)).alloc (Obj.cells #[.string ⟨rk.toArray⟩, .slice Au rl.length cu, .bool rg] 51)).frozen? ⟨w.heap.size, 0, none⟩ = false) := Lib.hid (by simp [go_sem, hf0, hsz2])
            have HZ1 : Hid (((((w2.setCell ⟨w.heap.size, 0, none⟩ (.string ⟨rk.toArray⟩)).setCell ⟨w.heap.size, 1, none⟩ (.slice Au rl.length cu)).setCell ⟨w.heap.size, 2, none⟩ (.bool rg)).alloc (Obj.cells #[.string ⟨rk.toArray⟩, .slice Au rl.length cu, .bool rg] 51)).frozen? ⟨w.heap.size, 1, none⟩ = false) := Lib.hid (by simp [go_sem, hf1, hsz2])
            clear hor2 hfu2 hbel2 hus hlus hbx
            go_wp2_with (at_builtin; refine wpList_own rfl (.tmp 34) (.tmp 36) 22 22 rfl (w.heap.size + 1) 51 (.agg #[.string ⟨#[]⟩, .slice none 0 0, .bool false]) 3 48 Try.underlying22 info51 rfl rfl ho rfl (src_three _ (by simp) Try.underlying22 51 _ _ _ rfl rfl rfl) hbel3 (Nat.le_succ _) ?_ ?_ ?_ ?_)
            · have := HLU.out; have := HAL.out; unfold maxLen; omega
            · have := HLU.out; have := HAL.out; omega
            · simp; omega
            · intro v' w4 ho' hb4 hg4
              have hor4 := OC.push (by decide) ho hfs hfu3 ho' hg4
              rw [HUS.out] at hor4
              have hblk : w4.heap[w.heap.size]? = _ := hg4.block w.heap.size (by simp; omega) (fun e => by have := (ho.lt _ e.symm).1; omega)
              have hy0 := (World.cell?_of_block (a := ⟨w.heap.size, 0, none⟩) hblk).trans HY0.out
              have hy1 := (World.cell?_of_block (a := ⟨w.heap.size, 1, none⟩) hblk).trans HY1.out
              have hy2 := (World.cell?_of_block (a := ⟨w.heap.size, 2, none⟩) hblk).trans HY2.out
              have hz2 := (World.frozen?_of_block (a := ⟨w.heap.size, 2, none⟩) hblk).trans HZ2.out
              have hz0 := (World.frozen?_of_block (a := ⟨w.heap.size, 0, none⟩) hblk).trans HZ0.out
              have hz1 := (World.frozen?_of_block (a := ⟨w.heap.size, 1, none⟩) hblk).trans HZ1.out
              clear hblk
              have hsz4 : w.heap.size < w4.heap.size := by have := hg4.size; simp at this; omega
              clear ho hfs hfu3 ho' hg4 hc0 hc1 hc2 hf0 hf1 hf2 hsz2
              have HO4 := Lib.hid hor4
              clear hor4
              go_wp2
              go_roundw
              case rel => exact ⟨k + 1, _, rq, by omega, by go_num, rfl, rfl, by rw [List.length_append, HAL.out]; rfl, HO4.out, hb4, hsz4, ⟨_, _, _, hy0, hy1, hy2⟩, hz0, hz1, hz2, by rw [← HE.out, if_neg (by simp)]; congr 1⟩
              case measure => simp [intOf]; omega
          · have hE := HE.out
            rw [if_pos hre] at hE
            have HE2 := Lib.hid hE
            have hne : (re != 0) = true := by simpa using hre
            clear herr hE HE hre
            go_wp2
            go_step3
            refine ⟨rfl, ?_⟩
            unfold Behind
            go_wp2
            rw [Exit.noGoto_ret]
            go_ret2
            rw [← HE2.out]
            exact ⟨_, rfl, OC.nil_ _ _ _ _, ((hbel2.setCell (Nat.le_refl _) _).setCell (Nat.le_refl _) _).setCell (Nat.le_refl _) _⟩
        · obtain rfl : k = n := by omega
          rw [Nat.sub_self, chgsF] at HE
          by_cases hend : qq < (l.length : Int)
          · rw [if_pos hend] at HE
            go_wp2
            go_step3
            refine ⟨rfl, ?_⟩
            unfold Behind
            go_wp2
            rw [Exit.noGoto_ret]
            go_ret2
            rw [← HE.out]
            exact ⟨_, rfl, OC.nil_ _ _ _ _, hbel⟩
          · rw [if_neg hend] at HE
            go_wp2
            simp only [Exit.jump]
            go_ret2
            rw [← HE.out]
            exact ⟨_, rfl, hor.base_ (Nat.le_succ _), hbel⟩
  · have e : readChgs l = ([], e1) := by unfold readChgs; rw [G1.out]; rcases her with rfl | rfl <;> simp
    rw [e]
    have hne : (e1 != 0) = true := by rcases her with rfl | rfl <;> rfl
    clear e her
    go_enter Try.func79, Try.ntmps79
    go_wp2
    refine wp_scope_fwd 0 rfl ?_
    go_wp2_with fail
    refine (H1.out _ (HV.out.alloc _)).mono ?_
    rintro x w1 ⟨rfl, rfl⟩
    go_wp2
    go_step3
    refine ⟨rfl, ?_⟩
    unfold Behind
    go_wp2
    rw [Exit.noGoto_ret]
    go_ret2
    exact ⟨_, rfl, OC.nil_ _ _ _ _, (Below.refl _ _).alloc (Nat.le_refl _) _⟩

set_option maxRecDepth 100000 in
set_option maxHeartbeats 1600000 in
theorem readChgs_any (v : Value) (l : List UInt8) (w : World) (hv : RB w v l) : Calls Try.prog 62 #[v] w (GivesChgs w (readChgs l)) := by
  go_enter Try.func62, Try.ntmps62
  go_wp2_with fail
  refine (takeC_any v l w hv).mono ?_
  rintro x w1 ⟨u, rfl, hor, hb⟩
  go_wp2
  go_ret2
  exact ⟨u, rfl, hor, hb⟩
end Go.Proofs.Ytomkbgghljcbfaa
