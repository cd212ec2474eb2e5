/-
  The contract of page.row: a row of a key and a value of at most a billion bytes each makes their texts, one behind the other.
-/
import Derived.Test.YtbacdeogggcbfaaText
import Derived.Deep.RegionHeld3
import Derived.Deep.AppendLies
namespace Go.Proofs.Ytbacdeogggcbfaa
open Go.RowKit Go.Rst

theorem row_keep {w X w3 : World} {g : Nat} {k v : Value} {l : List UInt8} (hb : Below X.heap.size X w3) (h0 : X.cell? ⟨g, 0, none⟩ = some k) (h1 : X.cell? ⟨g, 1, none⟩ = some v)
    (hr : RB X v l) (hB : Below w.heap.size w X) (hs : g < X.heap.size) :
    w3.cell? ⟨g, 0, none⟩ = some k ∧ w3.cell? ⟨g, 1, none⟩ = some v ∧ (convert 23 9 v).run Try.prog w3 = .ok (.string ⟨l.toArray⟩) w3 ∧ RB w3 v l ∧ Below w.heap.size w w3 ∧ g < w3.heap.size :=
  ⟨(hb.cell (p := ⟨g, 0, none⟩) hs).trans h0, (hb.cell (p := ⟨g, 1, none⟩) hs).trans h1, (hr.below hb).str Try.underlying23 Try.underlying5 Try.underlying9, hr.below hb, hB.trans (hb.mono hB.size), by have := hb.size; omega⟩

theorem row_kept {w X w3 : World} {g : Nat} {k v : Value} {l : List UInt8}
    (h : X.cell? ⟨g, 0, none⟩ = some k ∧ X.cell? ⟨g, 1, none⟩ = some v ∧ (convert 23 9 v).run Try.prog X = .ok (.string ⟨l.toArray⟩) X ∧ RB X v l ∧ Below w.heap.size w X ∧ g < X.heap.size)
    (hb : Below X.heap.size X w3) :
    w3.cell? ⟨g, 0, none⟩ = some k ∧ w3.cell? ⟨g, 1, none⟩ = some v ∧ (convert 23 9 v).run Try.prog w3 = .ok (.string ⟨l.toArray⟩) w3 ∧ RB w3 v l ∧ Below w.heap.size w w3 ∧ g < w3.heap.size :=
  row_keep hb h.1 h.2.1 h.2.2.2.1 h.2.2.2.2.1 h.2.2.2.2.2

theorem row_bel {w X : World} {g : Nat} {k v : Value} {l : List UInt8}
    (h : X.cell? ⟨g, 0, none⟩ = some k ∧ X.cell? ⟨g, 1, none⟩ = some v ∧ (convert 23 9 v).run Try.prog X = .ok (.string ⟨l.toArray⟩) X ∧ RB X v l ∧ Below w.heap.size w X ∧ g < X.heap.size) : Below w.heap.size w X := h.2.2.2.2.1

set_option maxRecDepth 100000 in
set_option maxHeartbeats 1600000 in
theorem row_any (k : ByteArray) (v : Value) (l : List UInt8) (hk : k.size ≤ 1000000000) (hl : l.length ≤ 1000000000) (w : World) (hv : RB w v l) : Calls Try.prog 35 #[.agg #[.string k, v]] w (NewB 5 w (rowL k.data.toList l)) := by
  go_enter Try.func35, Try.ntmps35
  go_wp2_with fail
  have hb0 : Below w.heap.size w (w.alloc (Obj.cells #[Value.string k, v] 25)) := (Below.refl _ _).alloc (Nat.le_refl _) _
  have hc0 : (w.alloc (Obj.cells #[Value.string k, v] 25)).cell? ⟨w.heap.size, 0, none⟩ = some (.string k) := by simp
  have hc1 : (w.alloc (Obj.cells #[Value.string k, v] 25)).cell? ⟨w.heap.size, 1, none⟩ = some v := by simp
  have hr := hv.alloc (Obj.cells #[Value.string k, v] 25)
  have hsz : w.heap.size < (w.alloc (Obj.cells #[Value.string k, v] 25)).heap.size := by simp
  generalize w.alloc (Obj.cells #[Value.string k, v] 25) = w2 at *
  have hst := row_keep (w := w) (X := w2) (w3 := w2.drew) (Below.refl _ _).drew hc0 hc1 hr hb0 hsz
  have hk' := textL_len (l := k.data.toList) (by rw [Array.length_toList]; exact hk)
  have hl' := textL_len hl
  have hlen : (⟨l.toArray⟩ : ByteArray).size ≤ 1000000000 := by simpa [ByteArray.size] using hl
  go_region_held3 (fun w' => w'.cell? ⟨w.heap.size, 0, none⟩ = some (.string k) ∧ w'.cell? ⟨w.heap.size, 1, none⟩ = some v ∧ (convert 23 9 v).run Try.prog w' = .ok (.string ⟨l.toArray⟩) w' ∧ RB w' v l ∧ Below w.heap.size w w' ∧ w.heap.size < w'.heap.size)
    (first
      | exact hst
      | exact row_kept (by assumption) hbel1
      | exact row_kept (by assumption) hbel2
      | exact row_kept hst hbel5)
    (first
      | (go_at_call_of 44 (Value.string k); refine (text_any k hk _).mono ?_; rintro e w3 ⟨v1, rfl, hown1, hbel1⟩)
      | (go_at_call_of 44 (Value.string ⟨l.toArray⟩); refine (text_any _ hlen _).mono ?_; rintro e w4 ⟨v2, rfl, hown2, hbel2⟩)
      | (refine step_own (by rfl) (.tmp 5) (.tmp 9) 23 23 (by rfl) w2.drew.heap.size 5 (.int .u8 0) 1 1 Try.underlying23 info5 rfl (by rfl) (own_below hown1 hbel2) (by rfl) (RB.src (RB.own hown2) Try.underlying23) (hbel1.trans (hbel2.mono hbel1.size)) (Nat.le_refl _) (by unfold maxLen; omega) (by omega) (Nat.le_trans hbel1.size hbel2.size) ?_; intro v' w5 hown' hbel5 _))
  go_wp2
  go_ret
  exact ⟨v', rfl, own_cat (own_base hown' (Nat.le_of_lt hsz)), (hb0.drew).trans (hbel5.mono (Nat.le_of_lt hsz))⟩
end Go.Proofs.Ytbacdeogggcbfaa
