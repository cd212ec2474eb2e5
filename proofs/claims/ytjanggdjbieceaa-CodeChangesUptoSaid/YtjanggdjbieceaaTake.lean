/-
  The contract of code.takeRow: at any place of any bytes it tells what the plain function getRow tells.
-/
import Derived.Test.YtjanggdjbieceaaGet
import Derived.Test.YtjanggdjbieceaaRows1
namespace Go.Proofs.Ytjanggdjbieceaa
open Go.RowKit Go.Rst

def getRow (l : List UInt8) (p : Int) : List UInt8 × List UInt8 × Int × Int :=
  if (getText l p 30).2.2 ≠ 0 then ([], [], 0, (getText l p 30).2.2)
  else if (getText l (getText l p 30).2.1 150).2.2 ≠ 0 then ([], [], 0, (getText l (getText l p 30).2.1 150).2.2)
  else ((getText l p 30).1, (getText l (getText l p 30).2.1 150).1, (getText l (getText l p 30).2.1 150).2.1, 0)

/-- What takeRow hands back. -/
def GivesRow (w : World) (r : List UInt8 × List UInt8 × Int × Int) (x : Ending) (w' : World) : Prop :=
  ∃ u, x = .returned (.tuple #[.agg #[.string ⟨r.1.toArray⟩, u], .int .i64 r.2.2.1, .int .u16 r.2.2.2]) ∧ FB 5 w' w.heap.size u r.2.1 ∧ Below w.heap.size w w'

theorem getText_spec (l : List UInt8) (p most : Int) : ((getText l p most).2.2 = 0 ∧ 0 ≤ (getText l p most).2.1 ∧ (getText l p most).2.1 ≤ l.length ∧ p < (getText l p most).2.1 ∧ 0 ≤ p ∧ ((getText l p most).1.length : Int) ≤ most ∧ (getText l p most).1.length ≤ l.length) ∨
    (((getText l p most).2.2 = 3 ∨ (getText l p most).2.2 = 10 ∨ (getText l p most).2.2 = 11) ∧ (getText l p most).1 = [] ∧ (getText l p most).2.1 = 0) := by
  have h := getNum_spec l p
  unfold getText
  split
  · rename_i hne
    rcases h with h | h
    · exact absurd h.1 hne
    · exact .inr ⟨by simp only []; omega, rfl, rfl⟩
  · rename_i hz
    rcases h with h | h
    · split
      · exact .inr ⟨.inl rfl, rfl, rfl⟩
      · split
        · exact .inr ⟨.inr (.inl rfl), rfl, rfl⟩
        · refine .inl ⟨rfl, by simp only []; omega, by simp only []; omega, by simp only []; omega, by omega, ?_, ?_⟩
          · simp only [List.length_take, List.length_drop]; omega
          · simp only [List.length_take, List.length_drop]; omega
    · exfalso; omega

set_option maxRecDepth 100000 in
set_option maxHeartbeats 1600000 in
theorem takeRow_any (v : Value) (l : List UInt8) (p : Int) (w : World) (hv : RB w v l) : Calls Try.prog 34 #[v, .int .i64 p] w (GivesRow w (getRow l p)) := by
  have hs1 := getText_spec l p 30
  obtain ⟨k, q, e1, hg1⟩ : ∃ k q e, getText l p 30 = (k, q, e) := ⟨_, _, _, rfl⟩
  have hs2 := getText_spec l q 150
  obtain ⟨u, q2, e2, hg2⟩ : ∃ k q' e, getText l q 150 = (k, q', e) := ⟨_, _, _, rfl⟩
  rw [hg1] at hs1
  rw [hg2] at hs2
  have hcall1 : ∀ W, RB W v l → _ := fun W hW => getText_any v l p 30 W hW
  have hcall2 : ∀ W, RB W v l → _ := fun W hW => getText_any v l q 150 W hW
  rw [hg1] at hcall1
  rw [hg2] at hcall2
  have H1 := Lib.hid hcall1
  have H2 := Lib.hid hcall2
  have G1 := Lib.hid hg1
  have G2 := Lib.hid hg2
  have HV := Lib.hid hv
  clear hcall1 hcall2 hg1 hg2 hv
  simp only [] at hs1 hs2
  rcases hs1 with ⟨rfl, h1⟩ | ⟨her, rfl, rfl⟩
  · rcases hs2 with ⟨rfl, h2⟩ | ⟨her, rfl, rfl⟩
    · have e : getRow l p = (k, u, q2, 0) := by unfold getRow; rw [G1.out]; simp only [G2.out]; simp
      rw [e]
      clear e
      have hlen : u.length ≤ 150 := by have := h2.2.2.2.2.1; omega
      go_enter Try.func34, Try.ntmps34
      go_wp2
      refine wp_scope_fwd 0 rfl ?_
      go_wp2_with fail
      refine (H1.out _ (HV.out.alloc _)).mono ?_
      rintro x w1 ⟨rfl, rfl⟩
      go_wp2_with fail
      refine (H2.out _ (HV.out.alloc _)).mono ?_
      rintro x w1 ⟨rfl, rfl⟩
      go_wp2_with (refine wpList_bytes rfl (.tmp 29) 9 22 5 rfl Try.underlying9 Try.underlying22 Try.underlying5 (by rfl) ?_ ?_)
      · unfold maxLen; omega
      · intro g c w' hfb hb2
        have hx0 : w'.cell? ⟨w.heap.size, 0, none⟩ = some (.string ⟨#[]⟩) := (hb2.cell (p := ⟨w.heap.size, 0, none⟩) (by simp)).trans (by simp)
        have hx1 : w'.cell? ⟨w.heap.size, 1, none⟩ = some (.slice none 0 0) := (hb2.cell (p := ⟨w.heap.size, 1, none⟩) (by simp)).trans (by simp)
        have hf0 : w'.frozen? ⟨w.heap.size, 0, none⟩ = false := (hb2.frozen (p := ⟨w.heap.size, 0, none⟩) (by simp)).trans (by simp)
        have hf1 : w'.frozen? ⟨w.heap.size, 1, none⟩ = false := (hb2.frozen (p := ⟨w.heap.size, 1, none⟩) (by simp)).trans (by simp)
        have hb3 : Below w.heap.size w w' := ((Below.refl _ _).alloc (Nat.le_refl _) _).trans (hb2.mono (by simp))
        have hfb' := hfb.base_ (base' := w.heap.size + 1) (Nat.le_refl _)
        go_wp2
        simp only [Exit.jump]
        refine bodyPost_ret (v := .tuple #[.agg #[.string ⟨k.toArray⟩, .slice (some ⟨g, 0, none⟩) u.length c], .int .i64 q2, .int .u16 0]) (by simp [results, Try.results34, go_sem, hx0, hx1]) rfl ⟨_, rfl, ?_, ?_⟩
        · exact ((hfb'.setCell (by simp) _).setCell (by simp) _).base_ (Nat.le_succ _)
        · exact (hb3.setCell (Nat.le_refl _) _).setCell (Nat.le_refl _) _
    · have e : getRow l p = ([], [], 0, e2) := by unfold getRow; rw [G1.out]; simp only [G2.out]; rcases her with rfl | rfl | rfl <;> simp
      rw [e]
      have hne : (e2 != 0) = true := by rcases her with rfl | rfl | rfl <;> rfl
      clear e her
      go_enter Try.func34, Try.ntmps34
      go_wp2
      refine wp_scope_fwd 0 rfl ?_
      go_wp2_with fail
      refine (H1.out _ (HV.out.alloc _)).mono ?_
      rintro x w1 ⟨rfl, rfl⟩
      go_wp2_with fail
      refine (H2.out _ (HV.out.alloc _)).mono ?_
      rintro x w1 ⟨rfl, rfl⟩
      go_wp2
      go_step3
      refine ⟨rfl, ?_⟩
      unfold Behind
      go_wp2
      rw [Exit.noGoto_ret]
      refine bodyPost_ret (v := .tuple #[.agg #[.string ⟨#[]⟩, .slice none 0 0], .int .i64 0, .int .u16 e2]) (by simp [results, Try.results34, go_sem]) rfl ⟨.slice none 0 0, rfl, .inl ⟨rfl, rfl⟩, ?_⟩
      exact (Below.refl _ _).alloc (Nat.le_refl _) _
  · have e : getRow l p = ([], [], 0, e1) := by unfold getRow; rw [G1.out]; rcases her with rfl | rfl | rfl <;> simp
    rw [e]
    have hne : (e1 != 0) = true := by rcases her with rfl | rfl | rfl <;> rfl
    clear e her
    go_enter Try.func34, Try.ntmps34
    go_wp2
    refine wp_scope_fwd 0 rfl ?_
    go_wp2_with fail
    refine (H1.out _ (HV.out.alloc _)).mono ?_
    rintro x w1 ⟨rfl, rfl⟩
    go_wp2
    go_step3
    refine ⟨rfl, ?_⟩
    unfold Behind
    go_wp2
    rw [Exit.noGoto_ret]
    refine bodyPost_ret (v := .tuple #[.agg #[.string ⟨#[]⟩, .slice none 0 0], .int .i64 0, .int .u16 e1]) (by simp [results, Try.results34, go_sem]) rfl ⟨.slice none 0 0, rfl, .inl ⟨rfl, rfl⟩, ?_⟩
    exact (Below.refl _ _).alloc (Nat.le_refl _) _
end Go.Proofs.Ytjanggdjbieceaa
