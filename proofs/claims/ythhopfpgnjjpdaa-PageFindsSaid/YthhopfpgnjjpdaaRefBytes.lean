/-
  The contract of the document's own bytes of a row: they are the row's.
-/
import Derived.Test.YthhopfpgnjjpdaaPRow
import Derived.Test.YthhopfpgnjjpdaaRefA
namespace Go.Proofs.Ythhopfpgnjjpdaa
open Go.RowKit Go.Rst

set_option maxRecDepth 100000 in
set_option maxHeartbeats 1600000 in
theorem refBytes_any (k : ByteArray) (v : Value) (l : List UInt8) (hk : k.size ≤ 100000000) (hl : l.length ≤ 100000000) (w : World) (hv : RB w v l) : Calls Try.prog 28 #[.agg #[.string k, v]] w (NewB 5 w (rowL k.data.toList l)) := by
  have hlen : (⟨l.toArray⟩ : ByteArray).size ≤ 1000000000 := by simp [ByteArray.size]; omega
  have t1 := textL_len (l := k.data.toList) (by rw [Array.length_toList]; show k.size ≤ _; omega)
  have t2 := textL_len (l := l) (by omega)
  have hW := hv.alloc (Obj.cells #[Value.string k, v] 35)
  have hb0 : Below w.heap.size w (w.alloc (Obj.cells #[Value.string k, v] 35)) := (Below.refl _ _).alloc (Nat.le_refl _) _
  have hs0 : w.heap.size < (w.alloc (Obj.cells #[Value.string k, v] 35)).heap.size := by simp
  have hc0 : (w.alloc (Obj.cells #[Value.string k, v] 35)).cell? ⟨w.heap.size, 0, none⟩ = some (.string k) := by simp
  have hc1 : (w.alloc (Obj.cells #[Value.string k, v] 35)).cell? ⟨w.heap.size, 1, none⟩ = some v := by simp
  obtain ⟨A, c, rfl, h1, h2, _⟩ := hv
  unfold maxLen at h2
  go_enter Try.func28, Try.ntmps28
  go_wp2_with fail
  generalize w.alloc (Obj.cells #[Value.string k, Value.slice A l.length c] 35) = W at *
  refine (refText_any k (by omega) _).mono ?_
  rintro e w1 ⟨v1, rfl, hown, hbel⟩
  have hy := (hbel.cell (p := ⟨w.heap.size, 1, none⟩) hs0).trans hc1
  have hstr := str22 (hW.below hbel)
  have HO := Lib.hid hown
  have HB := Lib.hid (hb0.trans (hbel.mono (Nat.le_of_lt hs0)))
  clear hown hbel hc0 hc1
  go_wp2_with fail
  refine (refText_any ⟨l.toArray⟩ hlen _).mono ?_
  rintro e w2 ⟨v2, rfl, hown2, hbel2⟩
  have HO2 := Lib.hid hown2
  have HO1 := Lib.hid (own_below HO.out hbel2)
  have HB2 := Lib.hid (HB.out.trans (hbel2.mono HB.out.size))
  clear hown2 hbel2 HO hstr hy
  go_wp2_with (at_builtin; refine wpList_own rfl (.tmp 12) (.tmp 13) 22 22 rfl w.heap.size 5 (.int .u8 0) 1 1 Try.underlying22 info5 rfl rfl (own_base HO1.out (Nat.le_of_lt hs0)) rfl ((RB.own HO2.out).src Try.underlying22) HB2.out (Nat.le_refl _) ?_ ?_ ?_ ?_)
  · unfold maxLen; omega
  · omega
  · exact HB2.out.size
  intro v3 w3 hown3 hbel3 _
  go_wp2
  go_ret
  exact ⟨v3, rfl, own_cat hown3, hbel3⟩
end Go.Proofs.Ythhopfpgnjjpdaa
