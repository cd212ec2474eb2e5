/-
  The contracts of bytes.Equal, slices.Grow of nil, slices.Concat of two, and crc.Seal.
-/
import Derived.Test.YtomkbgghljcbfaaGTail
import Derived.Test.YtomkbgghljcbfaaCMore
import Derived.Lib.AppendZerosOnto
namespace Go.Proofs.Ytomkbgghljcbfaa
open Go.RowKit Go.Rst Go.Crc

set_option maxRecDepth 100000 in
set_option maxHeartbeats 400000 in
theorem equal_any (v u : Value) (l m : List UInt8) (w : World) (hv : RB w v l) (hu : RB w u m) :
    Calls Try.prog 40 #[v, u] w fun e w' => e = .returned (.bool (l == m)) ∧ w = w' := by
  have h1 : ∀ w', w' = w → (convert 23 9 v).run Try.prog w' = .ok (.string ⟨l.toArray⟩) w' := fun w' h => by rw [h]; exact hv.str Try.underlying23 Try.underlying5 Try.underlying9
  have h2 := hu.str (P := Try.prog) (src := 23) (dst := 9) Try.underlying23 Try.underlying5 Try.underlying9
  have h1' := h1 w rfl
  obtain ⟨A, c, rfl, _⟩ := hv
  obtain ⟨A', c', rfl, _⟩ := hu
  clear h1
  go_enter Try.func40, Try.ntmps40
  go_wp2
  go_ret
  exact ⟨rfl, rfl⟩
set_option maxRecDepth 100000 in
set_option maxHeartbeats 400000 in
theorem grow_zero (w : World) : Calls Try.prog 85 #[.slice none 0 0, .int .i64 0] w fun e w' => e = .returned (.slice none 0 0) ∧ w = w' := by
  go_enter Try.func85, Try.ntmps85
  go_wp2
  go_ret
  exact ⟨rfl, rfl⟩

/-- What Grow hands back: no element, but room. -/
def Room (w : World) (e : Ending) (w' : World) : Prop := ∃ v, e = .returned v ∧ w'.ownsRow w.heap.size 5 1 v 0 [] ∧ Below w.heap.size w w'
theorem room_new {w : World} {c : Nat} {cs : Array Value} (hm : c ≤ maxLen) (hs : cs.size = c) :
    Room w (.returned (.slice (some ⟨w.heap.size, 0, none⟩) 0 c)) (w.drew.alloc (.cells cs 5)) :=
  ⟨_, rfl, ⟨by simp, .inr ⟨w.heap.size, c, cs, rfl, Nat.le_refl _, heap_alloc_new w.drew _, Nat.zero_le _, hm, by simpa using hs, by simp⟩⟩, (Below.refl _ _).drew.alloc (Nat.le_refl _) _⟩

set_option maxRecDepth 100000 in
set_option maxHeartbeats 400000 in
theorem grow_pos (n : Nat) (h0 : 0 < n) (hn : n ≤ 2000000) (w : World) : Calls Try.prog 85 #[.slice none 0 0, .int .i64 n] w (Room w) := by
  obtain ⟨i, hi, hz, hsz, hb⟩ := info_parts info5
  have hcap : n ≤ grownCap w n 0 5 := grownCap_ge w n 0 5
  have hcm : grownCap w n 0 5 ≤ maxLen := grownCap_le_maxLen w n 0 5 (by unfold maxLen; omega)
  have hrun : ∀ ty, (Builtin.append_ #[23, 3] ty #[.slice none 0 0, .int .i64 n]).run Try.prog w =
      .ok (.slice (some ⟨w.heap.size, 0, none⟩) n (grownCap w n 0 5)) (w.drew.alloc (.cells ((#[] : Array Value) ++ Builtin.zeroCells (Value.cells (.int .u8 0)) n ++ Builtin.zeroCells (Value.cells (.int .u8 0)) (grownCap w n 0 5 - n)) 5)) := fun ty => by
    have h := Lib.run_append_grow_zeros (P := Try.prog) w 23 3 ty 5 i (.int .u8 0) .i64 .i64 Try.underlying23 Try.underlying3 hi hz none 0 0 [] (by rw [hsz]; exact run_firstCells_none w.drew 1 0 0 0) n h0 (by rw [hsz]; decide) (by omega) (by omega) (by rw [hb]; omega)
      (growslice_fits (by omega) (by rw [hb]; omega))
    simpa using h
  have hsize : ((#[] : Array Value) ++ Builtin.zeroCells (Value.cells (.int .u8 0)) n ++ Builtin.zeroCells (Value.cells (.int .u8 0)) (grownCap w n 0 5 - n)).size = grownCap w n 0 5 := by
    simp only [Array.size_append, size_zeroCells]
    simp [Value.cells]
    omega
  generalize ((#[] : Array Value) ++ Builtin.zeroCells (Value.cells (.int .u8 0)) n ++ Builtin.zeroCells (Value.cells (.int .u8 0)) (grownCap w n 0 5 - n)) = cs at *
  generalize grownCap w n 0 5 = c at *
  have hend := room_new (w := w) hcm hsize
  have HE := Lib.hid hend
  have hc63 : c ≤ 9223372036854775807 := by unfold maxLen at hcm; omega
  have HR := Lib.hid hrun
  clear hend hcm hsize hrun hi hz hsz hb
  go_enter Try.func85, Try.ntmps85
  go_wp2_with (at_builtin; refine Lib.wpList_append_run _ rfl _ _ _ _ rfl _ _ rfl rfl _ _ (HR.out _) ?_)
  go_ret
  exact HE.out
theorem grow_any (n : Nat) (hn : n ≤ 2000000) (w : World) : Calls Try.prog 85 #[.slice none 0 0, .int .i64 n] w (Room w) := by
  rcases Nat.eq_zero_or_pos n with h | h
  · subst h
    refine (grow_zero w).mono ?_
    rintro e w' ⟨rfl, rfl⟩
    exact ⟨_, rfl, World.ownsRow_nil _ _ _ _, Below.refl _ _⟩
  · exact grow_pos n h hn w
end Go.Proofs.Ytomkbgghljcbfaa
