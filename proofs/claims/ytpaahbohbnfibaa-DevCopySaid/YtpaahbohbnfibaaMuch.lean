/-
  The contract of much: where it tells false, there are at most sixty deeds.
-/
import Derived.Test.YtpaahbohbnfibaaOpen4
import Derived.Test.YtpaahbohbnfibaaOwn
import Derived.BigQuiet
namespace Go.Proofs.Ytpaahbohbnfibaa
open Go.RowKit Go.Rst Go.Dv
theorem DS.below {w w' : World} {v : Value} {l : List Deed} (h : DS w v l) (hb : Below w.heap.size w w') : DS w' v l := by
  obtain ⟨A, c, rfl, h1, h2⟩ := h
  refine ⟨A, c, rfl, h1, ?_⟩
  rcases h2 with h2 | ⟨b, off, rfl, hbb, hd⟩
  · exact .inl h2
  · refine .inr ⟨b, off, rfl, Nat.lt_of_lt_of_le hbb hb.size, fun j hj => ?_⟩
    obtain ⟨d0, d1, ⟨u2, d2, d3⟩, ⟨u3, d4, d5⟩, d6, d7⟩ := hd j hj
    have e : ∀ o, w'.cell? ⟨b, o, none⟩ = w.cell? ⟨b, o, none⟩ := fun o => hb.cell (p := ⟨b, o, none⟩) hbb
    refine ⟨(e _).trans d0, (e _).trans d1, ⟨u2, (e _).trans d2, d3.below hb⟩, ⟨u3, (e _).trans d4, ?_⟩, (e _).trans d6, d7⟩
    obtain ⟨A, c, rfl, h1⟩ := d5
    refine ⟨A, c, rfl, ?_⟩
    rcases h1 with h1 | ⟨b, off, rfl, hbb, hc⟩
    · exact .inl h1
    · exact .inr ⟨b, off, rfl, Nat.lt_of_lt_of_le hbb hb.size, fun j hj => (hb.cell (p := ⟨b, off + j, none⟩) hbb).trans (hc j hj)⟩
theorem DS.at_ {w : World} {A : Option Addr} {c m k : Nat} {l : List Deed} (h : DS w (.slice A m c) l) (hm : m = l.length) (hk : k < m) :
    ∃ b off x, A = some ⟨b, off, none⟩ ∧ b < w.heap.size ∧ l[k]? = some x ∧ DeedAt w b (off + k * 5) x := by
  subst hm
  obtain ⟨A', c', he, _, h2⟩ := h
  injection he with he _ _
  subst he
  rcases h2 with h2 | ⟨b, off, rfl, hb, hd⟩
  · rw [h2] at hk; cases hk
  · exact ⟨b, off, _, rfl, hb, List.getElem?_eq_getElem hk, hd k hk⟩
/-- What much tells. -/
def MuchR (n : Nat) (w : World) (e : Ending) (w' : World) : Prop := ∃ r : Bool, e = .returned (.bool r) ∧ (r = false → n ≤ 60) ∧ Below w.heap.size w w'
set_option maxRecDepth 100000 in
set_option maxHeartbeats 1000000 in
theorem much_any {v : Value} {l : List Deed} {w : World} (h : DS w v l) :
    Calls Try.prog 16 #[v] w (MuchR l.length w) := by
  have HD := Lib.hid h
  obtain ⟨A, c, rfl, hl, _⟩ := h
  obtain ⟨m, hm⟩ : ∃ m, m = l.length := ⟨_, rfl⟩
  rw [← hm] at HD hl ⊢
  have HM := Lib.hid hm
  clear hm
  go_enter Try.func16, Try.ntmps16
  go_wp2
  go_loopw [3, 4] (fun n i wr => ∃ (z : Int) (k : Nat), n = .int .i64 z ∧ k ≤ m ∧ i = .int .i64 k ∧ Below w.heap.size w wr) (fun _ i _ => m - (intOf i).toNat)
  case atStart => exact ⟨_, 0, rfl, Nat.zero_le _, rfl, Below.refl _ _⟩
  case round =>
    obtain ⟨z, k, rfl, hk, rfl, hbel⟩ := hrel
    by_cases hlt : k < m
    · obtain ⟨b, off, x, hA, hbb, _, hd⟩ := (HD.out.below hbel).at_ HM.out hlt
      subst hA
      obtain ⟨_, _, ⟨u2, d2, A2, c2, e2, q2, q3, _⟩, ⟨u3, d3, A3, c3, e3, _⟩, _, _, _, _, l2, l3⟩ := hd
      subst e2
      subst e3
      have HBr := Lib.hid hbel
      clear hbel
      have i6 : (k : Int) < (m : Int) := by omega
      go_wp2_with fail
      go_quiet (fail)
      go_wp2
      go_roundw
      case rel => exact ⟨_, k + 1, rfl, by omega, by go_num, HBr.out.trans (below_drewN _ _ |>.mono HBr.out.size)⟩
      case measure => simp [intOf]; omega
    · have hm2 : ¬ (k : Int) < (m : Int) := by omega
      have HBr := Lib.hid hbel
      clear hbel
      by_cases h60 : 60 < m
      · have h601 : (60 : Int) < (m : Int) := by omega
        go_wp2
        go_ret
        exact ⟨true, rfl, fun h => (by cases h), HBr.out⟩
      · have h601 : ¬ (60 : Int) < (m : Int) := by omega
        go_wp2
        go_ret
        exact ⟨_, rfl, fun _ => by omega, HBr.out⟩
end Go.Proofs.Ytpaahbohbnfibaa
