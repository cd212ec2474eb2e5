/-
  The chapter's example of trees holds: known returns true.
-/
import Derived.Test.YtbacdeogggcbfaaGRows
import Derived.Test.YtbacdeogggcbfaaGTreeM
namespace Go.Pg
open Go.Rst Go.Crc
theorem ok_nil : pageOk (0 : Nat) [] = true := by have := ok_fit (lev := ((0 : Nat) : Int)) (by omega) (by omega) []; simpa using this
theorem build_nil : buildL [] = some [encL (0 : Nat) []] := by
  unfold buildL
  rw [if_neg (by simp [risingL]), build_next (by omega) (by rw [groups_nil, List.all_cons, ok_nil]; rfl), groups_nil]
  rfl
theorem rows_nil : rowsT [encL (0 : Nat) []] = ([], 0) := rows_tree build_nil
theorem build_ba : buildL [(⟨#[98]⟩, []), (⟨#[97]⟩, [])] = none := by
  unfold buildL
  rw [if_pos]
  left
  decide +kernel
end Go.Pg
namespace Go.Proofs.Ytbacdeogggcbfaa
open Go.RowKit Go.Rst Go.Pg Go.Crc
theorem rr_lit2 (w : World) (a b : ByteArray) (e : TypeId) : RR (w.alloc (.cells #[.string a, .slice none 0 0, .string b, .slice none 0 0] e)) (.slice (some ⟨w.heap.size, 0, none⟩) 2 2) [(a, []), (b, [])] := by
  have hc : ∀ i, (w.alloc (.cells #[.string a, .slice none 0 0, .string b, .slice none 0 0] e)).cell? ⟨w.heap.size, i, none⟩ = (#[.string a, .slice none 0 0, .string b, .slice none 0 0] : Array Value)[i]? :=
    fun i => cell_of_row _ _ i _ e (0, 0) (World.alloc_heap_new w _)
  refine ⟨_, 2, rfl, Nat.le_refl _, by decide, .inr ⟨w.heap.size, 0, rfl, by simp, fun j hj => ?_⟩⟩
  rw [hc, hc]
  match j, hj with
  | 0, _ => exact ⟨rfl, _, rfl, RB.nil_ _⟩
  | 1, _ => exact ⟨rfl, _, rfl, RB.nil_ _⟩

set_option maxRecDepth 100000 in
set_option maxHeartbeats 1600000 in
theorem known_any (w : World) : Calls Try.prog 8 #[] w fun e w' => e = .returned (.bool true) ∧ Below w.heap.size w w' := by
  have H0 := Lib.hid (build_any (.slice none 0 0) [] w (rr_nil w))
  rw [build_nil] at H0
  go_enter Try.func8, Try.ntmps8
  go_wp2_with fail
  refine H0.out.mono ?_
  rintro e w1 ⟨p1, rfl, hop, hb1⟩
  have hop : OP 5 23 w1 w.heap.size p1 [encL (0 : Nat) []] := hop
  have H1 := Lib.hid (rows_any p1 _ w1 hop.rp)
  rw [rows_nil] at H1
  obtain ⟨A1, c1, rfl, _, _⟩ := hop.shape
  have HB1 := Lib.hid hb1
  clear hop hb1 H0
  go_wp2_with fail
  refine H1.out.mono ?_
  rintro e w2 ⟨v2, rfl, ho2, hb2⟩
  have ho2 : OR 5 25 w2 w1.heap.size v2 [] := ho2
  obtain ⟨A2, c2, rfl⟩ := or_shape ho2
  have HB2 := Lib.hid (HB1.out.trans (hb2.mono HB1.out.size))
  clear ho2 hb2 H1
  have H3 := Lib.hid (build_any _ _ _ (rr_lit2 w2 ⟨#[98]⟩ ⟨#[97]⟩ 25))
  rw [build_ba] at H3
  have hb4 := HB2.out.alloc HB2.out.size (Obj.cells #[Value.string ⟨#[98]⟩, .slice none 0 0, .string ⟨#[97]⟩, .slice none 0 0] 25)
  have HB4 := Lib.hid hb4
  clear hb4
  go_wp2_with fail
  refine H3.out.mono ?_
  rintro e w3 ⟨p3, rfl, hp3, hb3⟩
  obtain ⟨A3, c3, rfl, _, _⟩ := hp3.shape
  have HB5 := Lib.hid (HB4.out.trans (hb3.mono HB4.out.size))
  clear hp3 hb3
  go_wp2
  go_ret
  exact ⟨rfl, HB5.out⟩
end Go.Proofs.Ytbacdeogggcbfaa
