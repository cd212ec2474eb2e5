/-
  The contract of the document's own row of a page: the row that ends at a place.
-/
import Derived.Test.YthhopfpgnjjpdaaPMath2
import Derived.Test.YthhopfpgnjjpdaaRefC
import Derived.Test.YthhopfpgnjjpdaaRowList
namespace Go.Proofs.Ythhopfpgnjjpdaa
open Go.RowKit Go.Rst Go.Pg Go.Crc

def GivesRR (w : World) (r : Option (Rw × Nat)) (e : Ending) (w' : World) : Prop :=
  ∃ (k : ByteArray) (u : Value) (y : Int) (ul : List UInt8), e = .returned (.tuple #[.agg #[.string k, u], .int .i64 y, .bool r.isSome]) ∧ FB 5 w' w.heap.size u ul ∧ Below w.heap.size w w' ∧
    ∀ row s, r = some (row, s) → k = row.1 ∧ ul = row.2 ∧ y = s
theorem GivesRR.none_ {w w' : World} {r : Option (Rw × Nat)} {k : ByteArray} {u : Value} {y : Int} {ul : List UInt8} (h : r = none) (hf : FB 5 w' w.heap.size u ul) (hb : Below w.heap.size w w') :
    GivesRR w r (.returned (.tuple #[.agg #[.string k, u], .int .i64 y, .bool false])) w' := by
  subst h
  exact ⟨k, u, y, ul, rfl, hf, hb, fun _ _ h => by cases h⟩
theorem GivesRR.some_ {w w' : World} {r : Option (Rw × Nat)} {k : ByteArray} {u : Value} {s : Nat} {ul : List UInt8} (h : r = some ((k, ul), s)) (hf : FB 5 w' w.heap.size u ul) (hb : Below w.heap.size w w') :
    GivesRR w r (.returned (.tuple #[.agg #[.string k, u], .int .i64 s, .bool true])) w' := by
  subst h
  refine ⟨k, u, s, ul, rfl, hf, hb, fun row s' h => ?_⟩
  injection h with h
  injection h with h1 h2
  subst h1
  subst h2
  exact ⟨rfl, rfl, rfl⟩

set_option maxRecDepth 100000 in
set_option maxHeartbeats 4000000 in
theorem refRow_any (v : Value) (l : List UInt8) (hl : l.length = 256) (i e : Nat) (hi : i ≤ 255) (he : e ≤ 252) (w : World) (hv : RB w v l) :
    Calls Try.prog 39 #[v, .int .i64 i, .int .i64 e] w (GivesRR w (refRow l i e)) := by
  have HV := Lib.hid hv
  obtain ⟨A, c, rfl, hlc, hc, _⟩ := hv
  unfold maxLen at hc
  have hR : refRow l i e = if e ≤ 2 + i then none else if e ≤ (l.getD (2 + i) 0).toNat then none else
    if (getText (l.take e) (l.getD (2 + i) 0).toNat 30).2.2 ≠ 0 then none else
    if (getText (l.take e) (getText (l.take e) (l.getD (2 + i) 0).toNat 30).2.1 150).2.2 = 0 ∧ (getText (l.take e) (getText (l.take e) (l.getD (2 + i) 0).toNat 30).2.1 150).2.1 = e
    then some ((⟨(getText (l.take e) (l.getD (2 + i) 0).toNat 30).1.toArray⟩, (getText (l.take e) (getText (l.take e) (l.getD (2 + i) 0).toNat 30).2.1 150).1), (l.getD (2 + i) 0).toNat) else none := rfl
  by_cases h1 : e ≤ 2 + i
  · rw [if_pos h1] at hR
    have HR := Lib.hid hR
    have h1' : (e : Int) ≤ 2 + (i : Int) := by omega
    clear hR
    go_enter Try.func39, Try.ntmps39
    go_wp2
    refine bodyPost_ret (v := .tuple #[.agg #[.string ⟨#[]⟩, .slice none 0 0], .int .i64 0, .bool false]) (by simp [results, Try.results39, go_sem]) rfl (GivesRR.none_ (ul := []) HR.out (.inl ⟨rfl, rfl⟩) ?_)
    exact (Below.refl _ _).alloc (Nat.le_refl _) _
  · rw [if_neg h1] at hR
    have h1' : 2 + (i : Int) < (e : Int) := by omega
    obtain ⟨b, off, rfl, hb, hs⟩ := rb_cell HV.out (k := 2 + i) (by omega)
    have hg : l.getD (2 + i) 0 = l[2 + i]'(by omega) := by rw [List.getD_eq_getElem?_getD, List.getElem?_eq_getElem (by omega)]; rfl
    rw [hg] at hR
    obtain ⟨x, hx⟩ : ∃ x, x = l[2 + i]'(by omega) := ⟨_, rfl⟩
    rw [← hx] at hR hs
    unfold bv at hs
    have hxb := x.toNat_lt
    obtain ⟨s, hs1⟩ : ∃ s, s = x.toNat := ⟨_, rfl⟩
    rw [← hs1] at hR hs hxb
    have hln : (l.length : Int) = 256 := by omega
    have hec : (e : Int) ≤ (c : Int) := by omega
    have hce : (256 : Int) ≤ (c : Int) := by omega
    have hi2 : (2 : Int) + (i : Int) < 256 := by omega
    have hhead : RB w (.slice (some ⟨b, off, none⟩) e c) (l.take e) := HV.out.head (by omega)
    clear hx hs1 hg
    by_cases h2 : e ≤ s
    · rw [if_pos h2] at hR
      have HR := Lib.hid hR
      have h2' : (e : Int) ≤ (s : Int) := by omega
      clear hR hhead
      go_enter Try.func39, Try.ntmps39
      go_wp2
      refine bodyPost_ret (v := .tuple #[.agg #[.string ⟨#[]⟩, .slice none 0 0], .int .i64 0, .bool false]) (by simp [results, Try.results39, go_sem]) rfl (GivesRR.none_ (ul := []) HR.out (.inl ⟨rfl, rfl⟩) ?_)
      exact (Below.refl _ _).alloc (Nat.le_refl _) _
    · rw [if_neg h2] at hR
      have h2' : (s : Int) < (e : Int) := by omega
      have hle : (l.take e).length = e := by rw [List.length_take]; omega
      generalize l.take e = le at *
      have c1 := fun W hW => refGetText_any (.slice (some ⟨b, off, none⟩) e c) le (s : Int) 30 W hW
      have s1 := getText_spec le (s : Int) 30
      obtain ⟨tk, q1, e1, ht1⟩ : ∃ a b c, getText le (s : Int) 30 = (a, b, c) := ⟨_, _, _, rfl⟩
      rw [ht1] at hR c1 s1
      simp only [] at hR s1 c1
      have c2 := fun W hW => refGetText_any (.slice (some ⟨b, off, none⟩) e c) le q1 150 W hW
      have s2 := getText_spec le q1 150
      obtain ⟨tv, q2, e2, ht2⟩ : ∃ a b c, getText le q1 150 = (a, b, c) := ⟨_, _, _, rfl⟩
      rw [ht2] at hR c2 s2
      simp only [] at hR s2 c2
      have C1 := Lib.hid c1
      have C2 := Lib.hid c2
      have HH := Lib.hid hhead
      clear c1 c2 ht1 ht2 hhead
      by_cases he1 : e1 = 0
      · subst he1
        rw [if_neg (by simp)] at hR
        have htl : tv.length ≤ 150 := by
          rcases s2 with s2 | s2
          · omega
          · rw [s2.2.1]; simp
        have H3 : ∀ (bb : Bool), ((e2 == 0) && (q2 == (e : Int))) = bb → (bb = true → refRow l i e = some ((⟨tk.toArray⟩, tv), s)) ∧ (bb = false → refRow l i e = none) := by
          intro bb hbb
          constructor
          · intro h; rw [h] at hbb; rw [hR, if_pos (by simpa using hbb)]
          · intro h; rw [h] at hbb; rw [hR, if_neg (by simpa using hbb)]
        have HH3 := Lib.hid H3
        clear hR s1 s2 H3
        rcases (show ((e2 == 0) = false) ∨ ((e2 == 0) = true ∧ (q2 == (e : Int)) = false) ∨ ((e2 == 0) = true ∧ (q2 == (e : Int)) = true) from by
          cases (e2 == 0) <;> cases (q2 == (e : Int)) <;> simp) with hA | ⟨hA, hB⟩ | ⟨hA, hB⟩
        all_goals
          have HQ := Lib.hid hA
          go_enter Try.func39, Try.ntmps39
          go_wp2_with fail
          refine (C1.out _ (HH.out.alloc _)).mono ?_
          rintro x w1 ⟨rfl, rfl⟩
          go_wp2_with fail
          refine (C2.out _ (HH.out.alloc _)).mono ?_
          rintro x w1 ⟨rfl, rfl⟩
          go_wp2_with (refine wpList_bytes rfl (.tmp 59) 9 22 5 rfl Try.underlying9 Try.underlying22 Try.underlying5 (by rfl) ?_ ?_)
          · unfold maxLen; omega
          intro g c' w' hfb hb2
          have hx0 : w'.cell? ⟨w.heap.size, 0, none⟩ = some (.string ⟨#[]⟩) := (hb2.cell (p := ⟨w.heap.size, 0, none⟩) (by simp)).trans (by simp)
          have hx1 : w'.cell? ⟨w.heap.size, 1, none⟩ = some (.slice none 0 0) := (hb2.cell (p := ⟨w.heap.size, 1, none⟩) (by simp)).trans (by simp)
          have hf0 : w'.frozen? ⟨w.heap.size, 0, none⟩ = false := (hb2.frozen (p := ⟨w.heap.size, 0, none⟩) (by simp)).trans (by simp)
          have hf1 : w'.frozen? ⟨w.heap.size, 1, none⟩ = false := (hb2.frozen (p := ⟨w.heap.size, 1, none⟩) (by simp)).trans (by simp)
          have hb3 : Below w.heap.size w w' := ((Below.refl _ _).alloc (Nat.le_refl _) _).trans (hb2.mono (by simp))
          have hfb' := hfb.base_ (base' := w.heap.size + 1) (Nat.le_refl _)
          have HF := Lib.hid hfb'
          have HB := Lib.hid hb3
          clear hfb hfb' hb2 hb3
          go_wp2
        · refine bodyPost_ret (v := .tuple #[.agg #[.string ⟨tk.toArray⟩, .slice (some ⟨g, 0, none⟩) tv.length c'], .int .i64 s, .bool false]) (by simp [results, Try.results39, go_sem, hx0, hx1]) rfl (GivesRR.none_ (ul := tv) ((HH3.out false (by rw [hA]; rfl)).2 rfl) ?_ ?_)
          · exact ((HF.out.setCell (by simp) _).setCell (by simp) _).base_ (Nat.le_succ _)
          · exact (HB.out.setCell (Nat.le_refl _) _).setCell (Nat.le_refl _) _
        · refine bodyPost_ret (v := .tuple #[.agg #[.string ⟨tk.toArray⟩, .slice (some ⟨g, 0, none⟩) tv.length c'], .int .i64 s, .bool false]) (by simp [results, Try.results39, go_sem, hx0, hx1]) rfl (GivesRR.none_ (ul := tv) ((HH3.out false (by rw [hA, hB]; rfl)).2 rfl) ?_ ?_)
          · exact ((HF.out.setCell (by simp) _).setCell (by simp) _).base_ (Nat.le_succ _)
          · exact (HB.out.setCell (Nat.le_refl _) _).setCell (Nat.le_refl _) _
        · refine bodyPost_ret (v := .tuple #[.agg #[.string ⟨tk.toArray⟩, .slice (some ⟨g, 0, none⟩) tv.length c'], .int .i64 s, .bool true]) (by simp [results, Try.results39, go_sem, hx0, hx1]) rfl (GivesRR.some_ ((HH3.out true (by rw [hA, hB]; rfl)).1 rfl) ?_ ?_)
          · exact ((HF.out.setCell (by simp) _).setCell (by simp) _).base_ (Nat.le_succ _)
          · exact (HB.out.setCell (Nat.le_refl _) _).setCell (Nat.le_refl _) _
      · rw [if_pos he1] at hR
        have hne : (e1 != 0) = true := by simpa using he1
        have HR := Lib.hid hR
        clear hR s1 s2 he1
        go_enter Try.func39, Try.ntmps39
        go_wp2_with fail
        refine (C1.out _ (HH.out.alloc _)).mono ?_
        rintro x w1 ⟨rfl, rfl⟩
        go_wp2
        refine bodyPost_ret (v := .tuple #[.agg #[.string ⟨#[]⟩, .slice none 0 0], .int .i64 0, .bool false]) (by simp [results, Try.results39, go_sem]) rfl (GivesRR.none_ (ul := []) HR.out (.inl ⟨rfl, rfl⟩) ?_)
        exact (Below.refl _ _).alloc (Nat.le_refl _) _
end Go.Proofs.Ythhopfpgnjjpdaa
