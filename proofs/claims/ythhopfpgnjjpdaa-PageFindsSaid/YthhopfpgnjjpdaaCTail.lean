/-
  The contracts of crc.tail and of the reference's Seal: four bytes of a number, the least first; bytes with their check behind.
-/
import Derived.Test.YthhopfpgnjjpdaaCRef
namespace Go.Proofs.Ythhopfpgnjjpdaa
open Go.RowKit Go.Rst Go.Crc
/-- A literal of bytes in a block of its own. -/
theorem own_lit {w : World} {e : TypeId} {l : List UInt8} {cs : Array Value} {n : Nat} (hcs : cs = (bvs l).toArray) (hn : n = l.length) (hm : n ≤ 1000000) :
    (w.alloc (.cells cs e)).ownsRow w.heap.size e 1 (.slice (some ⟨w.heap.size, 0, none⟩) n n) l.length (bvs l) := by
  subst hcs
  subst hn
  refine ⟨by simp [bvs_length], .inr ⟨w.heap.size, l.length, _, rfl, Nat.le_refl _, heap_alloc_new w _, Nat.le_refl _, by unfold maxLen; omega, by simp [bvs_length], ?_⟩⟩
  simp only [Nat.mul_one]
  rw [List.take_of_length_le (by simp [bvs_length])]
theorem tail_cells {n : Nat} (hn : n ≤ 4294967295) : #[Value.int .u8 ((n : Int) % 256), .int .u8 ((n : Int) / 256 % 256), .int .u8 ((n : Int) / 65536 % 256), .int .u8 ((n : Int) / 16777216)] = (bvs (tailL n)).toArray := by
  have e : (n : Int) / 16777216 = (n : Int) / 16777216 % 256 := by omega
  rw [e]
  unfold tailL bvs bv
  simp only [List.map_cons, List.map_nil, UInt8.toNat_ofNat']
  simp

theorem tail_own {n : Nat} {cs : Array Value} (h : cs = (bvs (tailL n)).toArray) (w : World) (e : TypeId) : (w.alloc (.cells cs e)).ownsRow w.heap.size e 1 (.slice (some ⟨w.heap.size, 0, none⟩) 4 4) (tailL n).length (bvs (tailL n)) :=
  own_lit h (tailL_length n).symm (by decide)

set_option maxRecDepth 100000 in
set_option maxHeartbeats 400000 in
theorem tail_any (n : Nat) (hn : n < B32) (w : World) : Calls Try.prog 33 #[.int .u32 n] w (NewB 5 w (tailL n)) := by
  have hb : n ≤ 4294967295 := by unfold B32 at hn; omega
  go_enter Try.func33, Try.ntmps33
  go_wp2
  go_ret
  exact ⟨_, rfl, own_lit (l := tailL n) (tail_cells hb) rfl (by decide), (Below.refl _ _).alloc (Nat.le_refl _) _⟩

set_option maxRecDepth 100000 in
set_option maxHeartbeats 1000000 in
theorem refSeal_any (v : Value) (l : List UInt8) (w : World) (hv : RB w v l) (hl : l.length ≤ 1000000) :
    Calls Try.prog 18 #[v] w (NewB 5 w (sealL l)) := by
  have hs := csum_lt l
  have HV := Lib.hid hv
  obtain ⟨A, c, rfl, _⟩ := hv
  go_enter Try.func18, Try.ntmps18
  go_wp2_with fail
  refine (refSum_any _ l _ HV.out).mono ?_
  rintro e w1 ⟨rfl, rfl⟩
  have e0 : sealL l = l ++ tailL (csum l) := rfl
  generalize csum l = n at *
  have E0 := Lib.hid e0
  clear e0
  have hb : n ≤ 4294967295 := by unfold B32 at hs; omega
  have HC := Lib.hid (tail_cells hb)
  go_wp2_with (at_builtin; refine wpList_own rfl (.tmp 7) (.tmp 8) 22 22 rfl w.heap.size 5 (.int .u8 0) 1 1 Try.underlying22 info5 rfl rfl (World.ownsRow_nil _ _ _ _) rfl (HV.out.src Try.underlying22) (Below.refl _ _) (Nat.le_refl _) ?_ ?_ ?_ ?_)
  · unfold maxLen; omega
  · omega
  · exact Nat.le_refl _
  · intro v1 w1 hown hbel _
    have hsz := hbel.size
    have HO := Lib.hid hown
    have HB := Lib.hid hbel
    clear hown hbel
    go_wp2_with (at_builtin; (refine wpList_own rfl (.tmp 10) (.tmp 25) 22 22 rfl w.heap.size 5 (.int .u8 0) 1 1 Try.underlying22 info5 rfl rfl (HO.out.alloc _) rfl ((RB.own (tail_own HC.out w1 5)).src Try.underlying22) (HB.out.alloc HB.out.size _) (Nat.le_refl _) ?_ ?_ ?_ ?_))
    · rw [tailL_length]; unfold maxLen; omega
    · rw [tailL_length]; omega
    · simp; omega
    · intro v2 w2 hown2 hbel2 _
      go_wp2
      go_ret
      refine ⟨v2, rfl, ?_, hbel2⟩
      rw [E0.out]
      exact own_cat (by simpa using hown2)
end Go.Proofs.Ythhopfpgnjjpdaa
