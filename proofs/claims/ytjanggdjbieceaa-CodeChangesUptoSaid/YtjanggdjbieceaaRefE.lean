/-
  The contract of the reference's change: at any place of any bytes it tells what the plain function getChange tells.
-/
import Derived.Test.YtjanggdjbieceaaRefC
import Derived.Test.YtjanggdjbieceaaTakeC
namespace Go.Proofs.Ytjanggdjbieceaa
open Go.RowKit Go.Rst

/-- What the reference's change hands back. -/
def GivesChangeI (w : World) (r : List UInt8 × List UInt8 × Bool × Int × Int) (x : Ending) (w' : World) : Prop :=
  ∃ u, x = .returned (.tuple #[.agg #[.string ⟨r.1.toArray⟩, u, .bool r.2.2.1], .int .i64 r.2.2.2.1, .int .i64 r.2.2.2.2]) ∧ FB 5 w' w.heap.size u r.2.1 ∧ Below w.heap.size w w'

set_option maxRecDepth 100000 in
set_option maxHeartbeats 3200000 in
theorem refChange_any (v : Value) (l : List UInt8) (p : Int) (w : World) (hv : RB w v l) : Calls Try.prog 46 #[v, .int .i64 p] w (GivesChangeI w (getChange l p)) := by
  have hs1 := getText_spec l p 30
  obtain ⟨k, q, e1, hg1⟩ : ∃ k q e, getText l p 30 = (k, q, e) := ⟨_, _, _, rfl⟩
  rw [hg1] at hs1
  have hcall1 : ∀ W, RB W v l → _ := fun W hW => refGetText_any v l p 30 W hW
  rw [hg1] at hcall1
  have H1 := Lib.hid hcall1
  have G1 := Lib.hid hg1
  have HV := Lib.hid hv
  have hv0 := hv
  obtain ⟨A, c, rfl, hlc, hc, hcells⟩ := hv0
  have HC := Lib.hid hcells
  unfold maxLen at hc
  clear hcall1 hg1 hv hcells
  simp only [] at hs1
  rcases hs1 with ⟨rfl, h1⟩ | ⟨her, rfl, rfl⟩
  · by_cases hin : (l.length : Int) ≤ q
    · have hq1 : ((q : Int) == (l.length : Int)) = true := by rw [beq_iff_eq]; omega
      have e : getChange l p = ([], [], false, 0, 10) := by unfold getChange; rw [G1.out]; simp [hin]
      rw [e]
      clear e
      go_enter Try.func46, Try.ntmps46
      go_wp2_with fail
      refine (H1.out _ (HV.out.alloc _)).mono ?_
      rintro x w1 ⟨rfl, rfl⟩
      go_wp2
      refine bodyPost_ret (v := .tuple #[.agg #[.string ⟨#[]⟩, .slice none 0 0, .bool false], .int .i64 0, .int .i64 10]) (by simp [results, Try.results46, go_sem]) rfl ⟨.slice none 0 0, rfl, .inl ⟨rfl, rfl⟩, ?_⟩
      exact (Below.refl _ _).alloc (Nat.le_refl _) _
    · obtain ⟨q, rfl⟩ := Int.eq_ofNat_of_zero_le h1.1
      have hq : q < l.length := by omega
      have hq1 : ((q : Int) == (l.length : Int)) = false := by rw [beq_eq_false_iff_ne]; omega
      obtain ⟨b, off, rfl, hb, hcell⟩ : ∃ b off, A = some ⟨b, off, none⟩ ∧ b < w.heap.size ∧ ∀ j (h : j < l.length), w.cell? ⟨b, off + j, none⟩ = some (bv l[j]) := by
        rcases HC.out with rfl | h
        · simp at hq
        · exact h
      have hc1 := (World.cell?_alloc_lt w (Obj.cells #[.string ⟨#[]⟩, .slice none 0 0, .bool false] 49) ⟨b, off + q, none⟩ hb).trans (hcell q hq)
      obtain ⟨d, hd⟩ : ∃ d, d = l[q] := ⟨_, rfl⟩
      have hd256 : (d.toNat : Int) < 256 := by have := d.toNat_lt; omega
      have hgd : l.getD (Int.toNat (q : Int)) 0 = d := by rw [Int.toNat_natCast, List.getD_eq_getElem?_getD, List.getElem?_eq_getElem hq, hd]; rfl
      unfold bv at hc1
      rw [← hd] at hc1
      have GD := Lib.hid hgd
      clear hcell hd hgd HC
      by_cases hone : d = 1
      · have e : getChange l p = (k, [], true, (q : Int) + 1, 0) := by unfold getChange; rw [G1.out]; simp only [GD.out]; simp [hone, hq]
        rw [e]
        subst hone
        clear e
        go_enter Try.func46, Try.ntmps46
        go_wp2_with fail
        refine (H1.out _ (HV.out.alloc _)).mono ?_
        rintro x w1 ⟨rfl, rfl⟩
        go_wp2
        refine bodyPost_ret (v := .tuple #[.agg #[.string ⟨k.toArray⟩, .slice none 0 0, .bool true], .int .i64 ((q : Int) + 1), .int .i64 0]) (by simp [results, Try.results46, go_sem]) rfl ⟨.slice none 0 0, rfl, .inl ⟨rfl, rfl⟩, ?_⟩
        exact (Below.refl _ _).alloc (Nat.le_refl _) _
      · have hne1 : ((d.toNat : Int) == 1) = false := by
          rw [beq_eq_false_iff_ne]
          intro h
          exact hone (UInt8.toNat_inj.1 (by rw [show (1 : UInt8).toNat = 1 from rfl]; omega))
        by_cases hzero : d = 0
        · subst hzero
          have hs2 := getText_spec l ((q : Int) + 1) 150
          obtain ⟨u, q2, e2, hg2⟩ : ∃ k q' e, getText l ((q : Int) + 1) 150 = (k, q', e) := ⟨_, _, _, rfl⟩
          rw [hg2] at hs2
          have hcall2 : ∀ W, RB W _ l → _ := fun W hW => refGetText_any (.slice (some ⟨b, off, none⟩) l.length c) l ((q : Int) + 1) 150 W hW
          rw [hg2] at hcall2
          have H2 := Lib.hid hcall2
          have G2 := Lib.hid hg2
          clear hcall2 hg2 hne1
          simp only [] at hs2
          rcases hs2 with ⟨rfl, h2⟩ | ⟨her, rfl, rfl⟩
          · have e : getChange l p = (k, u, false, q2, 0) := by unfold getChange; rw [G1.out]; simp only [GD.out, G2.out]; simp [hq]
            rw [e]
            clear e
            have hlen : u.length ≤ 150 := by have := h2.2.2.2.2.1; omega
            go_enter Try.func46, Try.ntmps46
            go_wp2_with fail
            refine (H1.out _ (HV.out.alloc _)).mono ?_
            rintro x w1 ⟨rfl, rfl⟩
            go_wp2_with fail
            refine (H2.out _ (HV.out.alloc _)).mono ?_
            rintro x w1 ⟨rfl, rfl⟩
            go_wp2_with (refine wpList_bytes rfl (.tmp 63) 9 22 5 rfl Try.underlying9 Try.underlying22 Try.underlying5 (by rfl) ?_ ?_)
            · unfold maxLen; omega
            · intro g cc w' hfb hb2
              have hx0 : w'.cell? ⟨w.heap.size, 0, none⟩ = some (.string ⟨#[]⟩) := (hb2.cell (p := ⟨w.heap.size, 0, none⟩) (by simp)).trans (by simp)
              have hx1 : w'.cell? ⟨w.heap.size, 1, none⟩ = some (.slice none 0 0) := (hb2.cell (p := ⟨w.heap.size, 1, none⟩) (by simp)).trans (by simp)
              have hx2 : w'.cell? ⟨w.heap.size, 2, none⟩ = some (.bool false) := (hb2.cell (p := ⟨w.heap.size, 2, none⟩) (by simp)).trans (by simp)
              have hf0 : w'.frozen? ⟨w.heap.size, 0, none⟩ = false := (hb2.frozen (p := ⟨w.heap.size, 0, none⟩) (by simp)).trans (by simp)
              have hf1 : w'.frozen? ⟨w.heap.size, 1, none⟩ = false := (hb2.frozen (p := ⟨w.heap.size, 1, none⟩) (by simp)).trans (by simp)
              have hf2 : w'.frozen? ⟨w.heap.size, 2, none⟩ = false := (hb2.frozen (p := ⟨w.heap.size, 2, none⟩) (by simp)).trans (by simp)
              have hb3 : Below w.heap.size w w' := ((Below.refl _ _).alloc (Nat.le_refl _) _).trans (hb2.mono (by simp))
              have hfb' := hfb.base_ (base' := w.heap.size + 1) (Nat.le_refl _)
              clear hc1
              go_wp2
              refine bodyPost_ret (v := .tuple #[.agg #[.string ⟨k.toArray⟩, .slice (some ⟨g, 0, none⟩) u.length cc, .bool false], .int .i64 q2, .int .i64 0]) (by simp [results, Try.results46, go_sem, hx0, hx1, hx2]) rfl ⟨_, rfl, ?_, ?_⟩
              · exact (((hfb'.setCell (by simp) _).setCell (by simp) _).setCell (by simp) _).base_ (Nat.le_succ _)
              · exact ((hb3.setCell (Nat.le_refl _) _).setCell (Nat.le_refl _) _).setCell (Nat.le_refl _) _
          · have e : getChange l p = ([], [], false, 0, e2) := by unfold getChange; rw [G1.out]; simp only [GD.out, G2.out]; rcases her with rfl | rfl | rfl <;> simp [hq]
            rw [e]
            have hne : (e2 != 0) = true := by rcases her with rfl | rfl | rfl <;> rfl
            have hneb : (e2 == 0) = false := by rcases her with rfl | rfl | rfl <;> rfl
            clear e her
            go_enter Try.func46, Try.ntmps46
            go_wp2_with fail
            refine (H1.out _ (HV.out.alloc _)).mono ?_
            rintro x w1 ⟨rfl, rfl⟩
            go_wp2_with fail
            refine (H2.out _ (HV.out.alloc _)).mono ?_
            rintro x w1 ⟨rfl, rfl⟩
            go_wp2
            refine bodyPost_ret (v := .tuple #[.agg #[.string ⟨#[]⟩, .slice none 0 0, .bool false], .int .i64 0, .int .i64 e2]) (by simp [results, Try.results46, go_sem]) rfl ⟨.slice none 0 0, rfl, .inl ⟨rfl, rfl⟩, ?_⟩
            exact (Below.refl _ _).alloc (Nat.le_refl _) _
        · have e : getChange l p = ([], [], false, 0, 11) := by unfold getChange; rw [G1.out]; simp only [GD.out]; simp [hone, hzero, hq]
          rw [e]
          have hne0 : ((d.toNat : Int) != 0) = true := by
            rw [bne_iff_ne]
            intro h
            exact hzero (UInt8.toNat_inj.1 (by rw [show (0 : UInt8).toNat = 0 from rfl]; omega))
          have hbig : (1 : Int) < (d.toNat : Int) := by
            rcases Nat.lt_or_ge 1 d.toNat with h | h
            · omega
            · exfalso
              rcases (show d.toNat = 0 ∨ d.toNat = 1 from by omega) with h' | h'
              · exact hzero (UInt8.toNat_inj.1 h')
              · exact hone (UInt8.toNat_inj.1 h')
          clear e
          go_enter Try.func46, Try.ntmps46
          go_wp2_with fail
          refine (H1.out _ (HV.out.alloc _)).mono ?_
          rintro x w1 ⟨rfl, rfl⟩
          go_wp2
          refine bodyPost_ret (v := .tuple #[.agg #[.string ⟨#[]⟩, .slice none 0 0, .bool false], .int .i64 0, .int .i64 11]) (by simp [results, Try.results46, go_sem]) rfl ⟨.slice none 0 0, rfl, .inl ⟨rfl, rfl⟩, ?_⟩
          exact (Below.refl _ _).alloc (Nat.le_refl _) _
  · have e : getChange l p = ([], [], false, 0, e1) := by unfold getChange; rw [G1.out]; rcases her with rfl | rfl | rfl <;> simp
    rw [e]
    have hne : (e1 != 0) = true := by rcases her with rfl | rfl | rfl <;> rfl
    have hneb : (e1 == 0) = false := by rcases her with rfl | rfl | rfl <;> rfl
    clear e her
    go_enter Try.func46, Try.ntmps46
    go_wp2_with fail
    refine (H1.out _ (HV.out.alloc _)).mono ?_
    rintro x w1 ⟨rfl, rfl⟩
    go_wp2
    refine bodyPost_ret (v := .tuple #[.agg #[.string ⟨#[]⟩, .slice none 0 0, .bool false], .int .i64 0, .int .i64 e1]) (by simp [results, Try.results46, go_sem]) rfl ⟨.slice none 0 0, rfl, .inl ⟨rfl, rfl⟩, ?_⟩
    exact (Below.refl _ _).alloc (Nat.le_refl _) _
end Go.Proofs.Ytjanggdjbieceaa
