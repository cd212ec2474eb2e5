/-
  The contract of page.Encode: a page of any rows at any level, or none.
-/
import Derived.Test.YtbacdeogggcbfaaFit
import Derived.Test.YtbacdeogggcbfaaEncD
import Derived.Test.YtbacdeogggcbfaaCConcat
import Derived.Laws.CopyOwn
namespace Go.Proofs.Ytbacdeogggcbfaa
open Go.RowKit Go.Rst Go.Pg Go.Crc
theorem info64 : (Try.prog.info? 64).map (fun i => (i.zero, i.size, i.bytes)) = some (some (.agg (Array.replicate 256 (.int .u8 0))), 256, 256) := by kernel_rfl
theorem zero256 : ∀ w, (zeroValue 64).run Try.prog w = .ok (.agg (Array.replicate 256 (.int .u8 0))) w := by
  intro w
  obtain ⟨i, hi, hz, _, _⟩ := info_parts info64
  simp [zeroValue, typeInfo, hi, hz]
theorem page_from (W : World) (H Q : Nat) (h : Q < 256) : (Instr.sliceAt 64 (.pointer (some ⟨H, 0, none⟩)) (some (.int .i64 (Q : Int))) none none).run Try.prog W = .ok (.slice (some ⟨H, Q, none⟩) (256 - Q) (256 - Q)) W := by
  have ha : Try.prog.arrayLen 64 = 256 := by kernel_rfl
  have he : Try.prog.elem 64 = 5 := by kernel_rfl
  obtain ⟨i, hi, _, hs, _⟩ := info_parts info5
  rw [run_sliceAt_array_l W 64 _ (by rw [ha, he]; exact Try.underlying64) .i64 (Q : Int) (by omega) (by rw [ha]; omega), ha, he]
  simp [sizeOf, typeInfo, hi, hs, slicedAt, Result.andThen, show ¬ 256 = Q from by omega, Addr.add]
  exact fun h => h.symm
/-- An array that is a page under way. -/
def PB (w : World) (g : Nat) (P : List UInt8) : Prop := P.length = 252 ∧ Blk w g 64 (bvs (P ++ [0, 0, 0, 0])).toArray
theorem PB.lt {w : World} {g : Nat} {P : List UInt8} (h : PB w g P) : g < w.heap.size := h.2.lt
theorem PB.start {w : World} {lev n : UInt8} {Z : Array Value} (hZ : Z = Array.replicate 256 (.int .u8 0)) :
    PB (w.alloc (.cells ((Z.setIfInBounds 0 (bv lev)).setIfInBounds 1 (bv n)) 64)) w.heap.size (pageA lev n [] []) := by
  subst hZ
  refine ⟨by rw [pageA_length (by simp)], ?_⟩
  have e1 : List.replicate 250 (0 : UInt8) ++ [0, 0, 0, 0] = List.replicate 254 0 := by
    rw [show ([0, 0, 0, 0] : List UInt8) = List.replicate 4 0 from rfl, List.replicate_append_replicate]
  have e2 : List.replicate 256 (Value.int .u8 0) = .int .u8 0 :: .int .u8 0 :: List.replicate 254 (.int .u8 0) := by
    rw [show (256 : Nat) = 254 + 1 + 1 from rfl, List.replicate_succ, List.replicate_succ]
  have e3 : bvs (List.replicate 254 0) = List.replicate 254 (.int .u8 0) := by unfold bvs; rw [List.map_replicate]; rfl
  have e : ((Array.replicate 256 (Value.int .u8 0)).setIfInBounds 0 (bv lev)).setIfInBounds 1 (bv n) = (bvs (pageA lev n [] [] ++ [0, 0, 0, 0])).toArray := by
    rw [pageA_nil, List.cons_append, List.cons_append, e1, ← List.toArray_replicate, e2, List.setIfInBounds_toArray, List.setIfInBounds_toArray, List.set_cons_zero, List.set_cons_succ, List.set_cons_zero, ← e3]
    rfl
  rw [e]
  exact heap_alloc_new w _
theorem PB.below {B : Nat} {w w' : World} {g : Nat} {P : List UInt8} (h : PB w g P) (hb : Below B w w') (hg : g < B) : PB w' g P := ⟨h.1, h.2.below hb hg⟩
theorem PB.rb {w : World} {g : Nat} {P : List UInt8} (h : PB w g P) : RB w (.slice (some ⟨g, 0, none⟩) 252 256) P := by
  refine ⟨_, 256, by rw [h.1], by rw [h.1]; decide, by decide, .inr ⟨g, 0, rfl, h.2.lt, fun j hj => ?_⟩⟩
  rw [Nat.zero_add, h.2.cell, bva_get (by rw [List.length_append]; omega)]
  congr 2
  rw [List.getElem_append_left hj]
theorem PB.set_ {w : World} {g : Nat} {P : List UInt8} (h : PB w g P) (k : Nat) (hk : k < 252) (c : UInt8) : PB (w.setCell ⟨g, k, none⟩ (bv c)) g (P.set k c) := by
  refine ⟨by rw [List.length_set, h.1], ?_⟩
  have := h.2.set_ k (bv c)
  have e : (bvs (P ++ [0, 0, 0, 0])).toArray.setIfInBounds k (bv c) = (bvs (P.set k c ++ [0, 0, 0, 0])).toArray := by
    rw [List.setIfInBounds_toArray]
    unfold bvs
    rw [← List.map_set, List.set_append_left _ _ (by rw [h.1]; exact hk)]
  rw [e] at this
  exact this
theorem bvs_splice (P row : List UInt8) (at_ : Nat) : splice (bvs P) at_ (bvs row) = bvs (P.take at_ ++ (row ++ P.drop (at_ + row.length))) := by
  unfold splice bvs
  simp [List.map_take, List.map_drop]
theorem page_splice {lev n : UInt8} {ss bd row : List UInt8} (h : ss.length + row.length + bd.length ≤ 250) :
    splice (bvs (pageA lev n ss bd ++ [0, 0, 0, 0])) (252 - bd.length - row.length) (bvs row) = bvs (pageA lev n ss (row ++ bd) ++ [0, 0, 0, 0]) := by
  have hl : (pageA lev n ss bd).length = 252 := pageA_length (by omega)
  rw [bvs_splice, ← pageA_lay h, List.take_append_of_le_length (by omega), List.drop_append_of_le_length (by omega)]
  simp only [List.append_assoc]

set_option maxRecDepth 100000 in
set_option maxHeartbeats 1600000 in
theorem enc_low (lev : Int) (h : lev < 0 ∨ 4 < lev) (v : Value) (rs : List Rw) (w : World) (hv : RR w v rs) :
    Calls Try.prog 25 #[.int .i64 lev, v] w (GivesEnc w lev rs) := by
  have E := Lib.hid (show pageOk lev rs = false by unfold pageOk; simp; omega)
  obtain ⟨A, c, rfl, hlc, hc, _⟩ := hv
  rcases h with h | h
  · go_enter Try.func25, Try.ntmps25
    go_wp2
    go_ret2
    exact GivesEnc.not E.out (Below.refl _ _)
  · have h0 : 0 ≤ lev := by omega
    go_enter Try.func25, Try.ntmps25
    go_wp2
    go_ret2
    exact GivesEnc.not E.out (Below.refl _ _)
set_option maxRecDepth 100000 in
set_option maxHeartbeats 1600000 in
theorem enc_full (lev : Int) (h0 : 0 ≤ lev) (h4 : lev ≤ 4) (v : Value) (rs : List Rw) (hf : fitN rs < rs.length) (w : World) (hv : RR w v rs) :
    Calls Try.prog 25 #[.int .i64 lev, v] w (GivesEnc w lev rs) := by
  have E := Lib.hid (show pageOk lev rs = false by unfold pageOk; simp; omega)
  have hc := fit_any v rs w hv
  obtain ⟨A, c, rfl, _⟩ := hv
  have hf' : ((fitN rs : Nat) : Int) < (rs.length : Int) := by omega
  go_enter Try.func25, Try.ntmps25
  go_wp2_with fail
  refine hc.mono ?_
  rintro e w1 ⟨rfl, hbel⟩
  have HB := Lib.hid hbel
  clear hbel
  go_wp2
  go_ret2
  exact GivesEnc.not E.out HB.out
end Go.Proofs.Ytbacdeogggcbfaa
