/-
  The contract of the statements' own function Bend: bytes with one other, or cut, or one more, as its choices say.
-/
import Derived.Test.YtjanggdjbieceaaText
import Derived.Test.YtjanggdjbieceaaMath2
import Derived.Deep.AppendLies
namespace Go.Proofs.Ytjanggdjbieceaa
open Go.RowKit Go.Rst

def bendL (l : List UInt8) (a : Nat) (v : UInt8) (h : Nat) : List UInt8 :=
  if h % 3 = 0 then l.set (a % l.length) v else if h % 3 = 1 then l.take (a % (l.length + 1)) else if h % 9 = 2 then l ++ [v] else l
def GivesB (w : World) (l : List UInt8) (x : Ending) (w' : World) : Prop := ∃ v, x = .returned v ∧ RB w' v l ∧ Below w.heap.size w w'
theorem bvs_set (l : List UInt8) (j : Nat) (d : UInt8) : (bvs l).set j (bv d) = bvs (l.set j d) := by simp [bvs, List.map_set]

set_option maxRecDepth 100000 in
set_option maxHeartbeats 800000 in
theorem bend_any (vb : Value) (l : List UInt8) (hl : l.length ≤ 1000000000) (a h : Nat) (ha : a ≤ 65535) (hh : h ≤ 255) (d : UInt8) (w : World) (hv : RB w vb l) :
    Calls Try.prog 28 #[vb, .int .u16 a, .int .u8 (d.toNat : Int), .int .u8 h] w (GivesB w (bendL l a d h)) := by
  have H1 := Lib.hid hv
  obtain ⟨A1, c1, rfl, _⟩ := hv
  have hd : (d.toNat : Int) ≤ 255 := by have := d.toNat_lt; omega
  have hsrc := Lib.hid (H1.out.src (P := Try.prog) (tx := 22) Try.underlying22)
  rcases (show h % 3 = 0 ∨ h % 3 = 1 ∨ (h % 3 = 2 ∧ h % 9 = 2) ∨ (h % 3 = 2 ∧ h % 9 ≠ 2) from by omega) with h3 | h3 | ⟨h3, h9⟩ | ⟨h3, h9⟩
  · by_cases h0 : l = []
    · have E := Lib.hid (show bendL l a d h = l by unfold bendL; rw [if_pos h3, h0]; rfl)
      have t1 : ((h : Int) % 3 == 0) = true := by rw [beq_iff_eq]; omega
      have t2 : ((h : Int) % 3 == 1) = false := by rw [beq_eq_false_iff_ne]; omega
      have t3 : ((h : Int) % 9 == 2) = false := by rw [beq_eq_false_iff_ne]; omega
      have hlen : (l.length : Int) ≤ 0 := by rw [h0]; simp
      clear h0 h3
      go_enter Try.func28, Try.ntmps28
      go_wp2_with (at_builtin; refine wpList_own rfl (.tmp 10) (.tmp 11) 22 22 rfl w.heap.size 5 (.int .u8 0) 1 1 Try.underlying22 info5 rfl rfl (World.ownsRow_nil _ _ _ _) rfl hsrc.out (Below.refl w.heap.size w) (Nat.le_refl _) ?_ ?_ ?_ ?_)
      · unfold maxLen; omega
      · omega
      · exact Nat.le_refl _
      intro v1 w1 hown hbel _
      have hown' : w1.ownsRow w.heap.size 5 1 v1 l.length (bvs l) := by simpa using hown
      clear hown
      obtain ⟨A2, c2, rfl, _⟩ := own_shape hown'
      have HO := Lib.hid hown'
      clear hown'
      go_wp2
      go_ret
      rw [E.out]
      exact ⟨_, rfl, RB.own HO.out, hbel⟩
    · have hpos : 0 < l.length := List.length_pos_iff.2 h0
      have E := Lib.hid (show bendL l a d h = l.set (a % l.length) d by unfold bendL; rw [if_pos h3])
      have t1 : ((h : Int) % 3 == 0) = true := by rw [beq_iff_eq]; omega
      have t2 : ((h : Int) % 3 == 1) = false := by rw [beq_eq_false_iff_ne]; omega
      have t3 : ((h : Int) % 9 == 2) = false := by rw [beq_eq_false_iff_ne]; omega
      have hmod : a % l.length < l.length := Nat.mod_lt _ hpos
      clear h0 h3
      go_enter Try.func28, Try.ntmps28
      go_wp2_with (at_builtin; refine wpList_own rfl (.tmp 10) (.tmp 11) 22 22 rfl w.heap.size 5 (.int .u8 0) 1 1 Try.underlying22 info5 rfl rfl (World.ownsRow_nil _ _ _ _) rfl hsrc.out (Below.refl w.heap.size w) (Nat.le_refl _) ?_ ?_ ?_ ?_)
      · unfold maxLen; omega
      · omega
      · exact Nat.le_refl _
      intro v1 w1 hown hbel _
      have hown' : w1.ownsRow w.heap.size 5 1 v1 l.length (bvs l) := by simpa using hown
      clear hown
      obtain ⟨g, c3, rfl, hg, hg'⟩ := hown'.form hpos
      have hcell := hown'.cellAt (a % l.length) (by omega)
      have hfr := hown'.frozenAt (a % l.length)
      rw [bvs_get hmod] at hcell
      have hset := (hown'.stored (a % l.length) (bv d)).1
      have hb3 := hbel.setCell (p := ⟨g, a % l.length, none⟩) hg (bv d)
      rw [bvs_set] at hset
      have hset' : (w1.setCell ⟨g, a % l.length, none⟩ (bv d)).ownsRow w.heap.size 5 1 (.slice (some ⟨g, 0, none⟩) l.length c3) (l.set (a % l.length) d).length (bvs (l.set (a % l.length) d)) := by rw [List.length_set]; exact hset
      unfold bv at hcell
      have HS := Lib.hid hset'
      have HB := Lib.hid hb3
      have hm0 : 0 ≤ (a : Int) % (l.length : Int) := Int.emod_nonneg _ (by omega)
      have hm1 : (a : Int) % (l.length : Int) < (l.length : Int) := Int.emod_lt_of_pos _ (by omega)
      have hm2 : ((a : Int) % (l.length : Int)).toNat = a % l.length := by rw [← Int.natCast_emod]; rfl
      clear hset hset' hb3 hown'
      go_wp2
      go_ret
      rw [E.out]
      exact ⟨_, rfl, RB.own HS.out, HB.out⟩
  · have E := Lib.hid (show bendL l a d h = l.take (a % (l.length + 1)) by unfold bendL; rw [if_neg (by omega), if_pos h3])
    have t1 : ((h : Int) % 3 == 0) = false := by rw [beq_eq_false_iff_ne]; omega
    have t2 : ((h : Int) % 3 == 1) = true := by rw [beq_iff_eq]; omega
    have t3 : ((h : Int) % 9 == 2) = false := by rw [beq_eq_false_iff_ne]; omega
    have hmod : a % (l.length + 1) < l.length + 1 := Nat.mod_lt _ (by omega)
    have hm0 : 0 ≤ (a : Int) % ((l.length : Int) + 1) := Int.emod_nonneg _ (by omega)
    have hm1 : (a : Int) % ((l.length : Int) + 1) < (l.length : Int) + 1 := Int.emod_lt_of_pos _ (by omega)
    have hm2 : ((a : Int) % ((l.length : Int) + 1)).toNat = a % (l.length + 1) := by rw [show ((l.length : Int) + 1) = ((l.length + 1 : Nat) : Int) from rfl, ← Int.natCast_emod]; rfl
    clear h3
    rcases Nat.lt_or_ge 0 l.length with hz | hz
    all_goals
      go_enter Try.func28, Try.ntmps28
      go_wp2_with (at_builtin; refine wpList_own rfl (.tmp 10) (.tmp 11) 22 22 rfl w.heap.size 5 (.int .u8 0) 1 1 Try.underlying22 info5 rfl rfl (World.ownsRow_nil _ _ _ _) rfl hsrc.out (Below.refl w.heap.size w) (Nat.le_refl _) ?_ ?_ ?_ ?_)
      · unfold maxLen; omega
      · omega
      · exact Nat.le_refl _
      intro v1 w1 hown hbel _
      have hown' : w1.ownsRow w.heap.size 5 1 v1 l.length (bvs l) := by simpa using hown
      clear hown
      obtain ⟨A2, c2, rfl, hc2⟩ := own_shape hown'
      have HO := Lib.hid (RB.head (n := a % (l.length + 1)) (RB.own hown') (by omega))
      clear hown'
      go_wp2
      go_ret
      rw [E.out]
      exact ⟨_, rfl, HO.out, hbel⟩
  · have E := Lib.hid (show bendL l a d h = l ++ [d] by unfold bendL; rw [if_neg (by omega), if_neg (by omega), if_pos h9])
    have t1 : ((h : Int) % 3 == 0) = false := by rw [beq_eq_false_iff_ne]; omega
    have t2 : ((h : Int) % 3 == 1) = false := by rw [beq_eq_false_iff_ne]; omega
    have t3 : ((h : Int) % 9 == 2) = true := by rw [beq_iff_eq]; omega
    clear h3 h9
    rcases Nat.lt_or_ge 0 l.length with hz | hz
    all_goals
      go_enter Try.func28, Try.ntmps28
      go_wp2_with (at_builtin; refine wpList_own rfl (.tmp 10) (.tmp 11) 22 22 rfl w.heap.size 5 (.int .u8 0) 1 1 Try.underlying22 info5 rfl rfl (World.ownsRow_nil _ _ _ _) rfl hsrc.out (Below.refl w.heap.size w) (Nat.le_refl _) ?_ ?_ ?_ ?_)
      · unfold maxLen; omega
      · omega
      · exact Nat.le_refl _
      intro v1 w1 hown hbel _
      have hown' : w1.ownsRow w.heap.size 5 1 v1 l.length (bvs l) := by simpa using hown
      clear hown
      obtain ⟨A2, c2, rfl, hc2⟩ := own_shape hown'
      have HO := Lib.hid hown'
      have HB := Lib.hid hbel
      clear hown' hbel
      go_wp2_with (at_builtin; refine wpList_own (n := l.length) (xs := bvs l) rfl (.tmp 43) (.tmp 45) 22 22 rfl w.heap.size 5 (.int .u8 0) 1 1 Try.underlying22 info5 rfl rfl (HO.out.alloc _) rfl (src_one w1 Try.underlying22 5 _ rfl) (HB.out.alloc HB.out.size _) (Nat.le_refl _) ?_ ?_ ?_ ?_)
      · unfold maxLen; omega
      · omega
      · have := HB.out.size; simp; omega
      intro v4 w4 hown4 hb4 _
      go_wp2
      go_ret
      rw [E.out]
      exact ⟨_, rfl, RB.own (own_snoc hown4), hb4⟩
  · have E := Lib.hid (show bendL l a d h = l by unfold bendL; rw [if_neg (by omega), if_neg (by omega), if_neg h9])
    have t1 : ((h : Int) % 3 == 0) = false := by rw [beq_eq_false_iff_ne]; omega
    have t2 : ((h : Int) % 3 == 1) = false := by rw [beq_eq_false_iff_ne]; omega
    have t3 : ((h : Int) % 9 == 2) = false := by rw [beq_eq_false_iff_ne]; omega
    clear h3 h9
    rcases Nat.lt_or_ge 0 l.length with hz | hz
    all_goals
      go_enter Try.func28, Try.ntmps28
      go_wp2_with (at_builtin; refine wpList_own rfl (.tmp 10) (.tmp 11) 22 22 rfl w.heap.size 5 (.int .u8 0) 1 1 Try.underlying22 info5 rfl rfl (World.ownsRow_nil _ _ _ _) rfl hsrc.out (Below.refl w.heap.size w) (Nat.le_refl _) ?_ ?_ ?_ ?_)
      · unfold maxLen; omega
      · omega
      · exact Nat.le_refl _
      intro v1 w1 hown hbel _
      have hown' : w1.ownsRow w.heap.size 5 1 v1 l.length (bvs l) := by simpa using hown
      clear hown
      obtain ⟨A2, c2, rfl, hc2⟩ := own_shape hown'
      have HO := Lib.hid hown'
      clear hown'
      go_wp2
      go_ret
      rw [E.out]
      exact ⟨_, rfl, RB.own HO.out, hbel⟩
end Go.Proofs.Ytjanggdjbieceaa
