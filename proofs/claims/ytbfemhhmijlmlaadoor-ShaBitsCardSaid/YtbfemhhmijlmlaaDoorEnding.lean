/-
  The contract of sha.ending: it makes the end of some bytes: these, the byte 128, noughts, and how many bits there are in all; for fewer than 64 bytes.
-/
import Derived.Test.YtbfemhhmijlmlaaDoorDigest
import Derived.Laws.CopyOwn
namespace Go.Proofs.YtbfemhhmijlmlaaDoor
open Go.RowKit Go.Rst Go.Sha

theorem set_mid (A B : List UInt8) (a x : UInt8) (n : Nat) (hn : n = A.length) : (bva (A ++ a :: B)).setIfInBounds n (bv x) = bva (A ++ x :: B) := by
  subst hn
  unfold bva bvs
  apply Array.toList_inj.1
  simp
theorem be64_at (m i : Nat) (h : i < 8) : (be64 m).drop (7 - i) = UInt8.ofNat (m / 2 ^ (8 * i)) :: (be64 m).drop (8 - i) := by
  match i, h with
  | 0, _ => simp [be64]
  | 1, _ => rfl
  | 2, _ => rfl
  | 3, _ => rfl
  | 4, _ => rfl
  | 5, _ => rfl
  | 6, _ => rfl
  | 7, _ => rfl
/-- The end, of whose last eight bytes i are there. -/
def endL (l : List UInt8) (z m i : Nat) : List UInt8 := l ++ (128 :: (List.replicate (z + (8 - i)) 0 ++ (be64 m).drop (8 - i)))
theorem endL_length (l : List UInt8) (z m i : Nat) (h : i ≤ 8) : (endL l z m i).length = l.length + z + 9 := by
  simp [endL, be64_length]; omega
theorem endL_set (l : List UInt8) (z m i : Nat) (h : i < 8) (n : Nat) (hn : n = l.length + 1 + z + (7 - i)) :
    (bva (endL l z m i)).setIfInBounds n (bv (UInt8.ofNat (m / 2 ^ (8 * i)))) = bva (endL l z m (i + 1)) := by
  have e : z + (8 - i) = (z + (7 - i)) + 1 := by omega
  have h1 : endL l z m i = (l ++ (128 :: List.replicate (z + (7 - i)) 0)) ++ 0 :: (be64 m).drop (8 - i) := by
    unfold endL
    rw [e, List.replicate_succ']
    simp
  have h2 : endL l z m (i + 1) = (l ++ (128 :: List.replicate (z + (7 - i)) 0)) ++ UInt8.ofNat (m / 2 ^ (8 * i)) :: (be64 m).drop (8 - i) := by
    unfold endL
    rw [show 8 - (i + 1) = 7 - i from by omega, be64_at m i h]
    simp
  rw [h1, h2]
  exact set_mid _ _ _ _ _ (by rw [hn]; simp; omega)
theorem endL_any (l : List UInt8) (z m i n : Nat) (h : i ≤ 8) (hn : n < l.length + z + 9) : ∃ x : UInt8, (bva (endL l z m i))[n]? = some (bv x) :=
  ⟨_, bva_get (by rw [endL_length l z m i h]; exact hn)⟩
/-- Noughts, with some bytes laid over their head, and the byte 128 behind these. -/
theorem endL_start (l : List UInt8) (z m n : Nat) (hn : n = l.length + z + 9) :
    ((splice (bvs (List.replicate n 0)) 0 (bvs l)).toArray).setIfInBounds l.length (.int .u8 128) = bva (endL l z m 0) := by
  have h1 : splice (bvs (List.replicate n 0)) 0 (bvs l) = bvs (l ++ 0 :: List.replicate (z + 8) 0) := by
    unfold splice bvs
    rw [show n = l.length + (z + 8 + 1) from by omega]
    simp [List.replicate_succ]
  have h2 : endL l z m 0 = l ++ 128 :: List.replicate (z + 8) 0 := by
    unfold endL
    simp [be64]
  rw [h1, h2]
  exact set_mid l (List.replicate (z + 8) 0) 0 128 _ rfl
theorem splice_any (l : List UInt8) (n : Nat) (hn : l.length < n) : ∃ x : UInt8, ((splice (bvs (List.replicate n 0)) 0 (bvs l)).toArray)[l.length]? = some (bv x) := by
  have h1 : splice (bvs (List.replicate n 0)) 0 (bvs l) = bvs (l ++ List.replicate (n - l.length) 0) := by
    unfold splice bvs
    simp
  rw [h1]
  exact ⟨_, bva_get (by simp; omega)⟩
theorem byte_shift (m j : Nat) : (m : Int) * 8 / 2 ^ (8 * j) % 256 = ((UInt8.ofNat (m * 8 / 2 ^ (8 * j))).toNat : Int) := by
  rw [← byte_of]
  simp
theorem make64 : ∀ w, (Instr.makeSlice 22 (.int .i64 64) (.int .i64 64)).run Tryd.prog w = .ok (.slice (some ⟨w.heap.size, 0, none⟩) 64 64) (w.alloc (.cells (bvs (List.replicate 64 0)).toArray 5)) := fun _ => by kernel_rfl
theorem make128 : ∀ w, (Instr.makeSlice 22 (.int .i64 128) (.int .i64 128)).run Tryd.prog w = .ok (.slice (some ⟨w.heap.size, 0, none⟩) 128 128) (w.alloc (.cells (bvs (List.replicate 128 0)).toArray 5)) := fun _ => by kernel_rfl
theorem one5 : (Tryd.prog.info? 5).map (·.size) = some 1 := by kernel_rfl
theorem RB.cells_ {w : World} {A : Option Addr} {c : Nat} {l : List UInt8} (h : RB w (.slice A l.length c) l) (h0 : 0 < l.length) : ∃ b off, A = some ⟨b, off, none⟩ ∧ b < w.heap.size ∧ ∀ j (hj : j < l.length), w.cell? ⟨b, off + j, none⟩ = some (bv l[j]) := by
  obtain ⟨A', c', he, _, _, h3⟩ := h
  injection he with e1 _ _
  subst e1
  rcases h3 with h3 | ⟨b, off, h4, h5, h6⟩
  · rw [h3] at h0; simp at h0
  · exact ⟨b, off, h4, h5, h6⟩
/-- A block of bytes known whole reads as these. -/
theorem Blk.rb {w : World} {g : Nat} {l : List UInt8} (h : Blk w g 5 (bva l)) (n : Nat) (hn : n = l.length) (hm : n ≤ maxLen) : RB w (.slice (some ⟨g, 0, none⟩) n n) l := by
  subst hn
  refine ⟨_, _, rfl, Nat.le_refl _, hm, .inr ⟨g, 0, rfl, h.lt, fun j hj => ?_⟩⟩
  rw [Nat.zero_add, h.cell, bva_get hj]
  simp [List.getElem?_eq_getElem hj]

set_option maxRecDepth 100000 in
set_option maxHeartbeats 400000 in
theorem ending64_any (v : Value) (l : List UInt8) (m : Nat) (w : World) (hv : RB w v l) (hl : l.length < 64) (hc : l.length ≤ 55) (hm : m ≤ 1125899906842624) :
    Calls Tryd.prog 15 #[v, .int .i64 m] w fun e w' => ∃ v', e = .returned v' ∧ RB w' v' (Go.Sha.ending l m) ∧ Below w.heap.size w w' := by
  obtain ⟨A, c, rfl, h1, h2, h3⟩ := hv
  have hv : RB w (.slice A l.length c) l := ⟨A, c, rfl, h1, h2, h3⟩
  obtain ⟨k, hk⟩ : ∃ k, k = l.length := ⟨_, rfl⟩
  have hz : noughts l.length = 64 - 9 - l.length := by unfold noughts; omega
  have hend : Go.Sha.ending l m = endL l (noughts l.length) (m * 8) 8 := by unfold Go.Sha.ending endL; simp
  rw [hz] at hend
  rw [hend]
  obtain ⟨z, hzz⟩ : ∃ z, z = 64 - 9 - l.length := ⟨_, rfl⟩
  rw [← hzz]
  have hnz : 64 = l.length + z + 9 := by omega
  have HV := Lib.hid hv
  have HK := Lib.hid hk
  have HNZ := Lib.hid hnz
  have mk := make64
  have hbl := bvs_length l
  obtain ⟨Zs, hZs⟩ : ∃ Zs, Zs = bvs (List.replicate 64 0) := ⟨_, rfl⟩
  have hzl : Zs.length = 64 := by rw [hZs]; simp [bvs]
  rw [← hZs] at mk
  obtain ⟨Xs, hXs⟩ : ∃ Xs, Xs = bvs l := ⟨_, rfl⟩
  have HZS := Lib.hid hZs
  have HXS := Lib.hid hXs
  have HZL := Lib.hid hzl
  rw [← hk] at h1 hl hc ⊢
  clear hv hz hend hzz hnz hZs hXs hzl hbl h3 hk
  unfold maxLen at h2
  go_enter Tryd.func15, Tryd.ntmps15
  go_wp2_with (refine wpList_copy_splice rfl (.tmp 19) (.tmp 20) 22 22 rfl 5 Tryd.underlying22 one5 _ A 64 64 k c rfl rfl w.heap.size 0 Zs 5 (heap_alloc_new w _) Xs ?h1 ?h2 ?h3 ?h4 w.heap.size w ?h5 (Nat.le_refl _) ?_)
  case h1 => rw [HXS.out, bvs_length, ← HK.out]; show k = min k 64; omega
  case h2 =>
    intro h0
    rw [HXS.out, bvs_length] at h0
    obtain ⟨b, off, rfl, hb, hcell⟩ := RB.cells_ HV.out h0
    refine ⟨⟨b, off, none⟩, rfl, fun j u hu => ?_⟩
    rw [HXS.out] at hu
    have hj : j < l.length := by have := (List.getElem?_eq_some_iff.1 hu).1; simpa [bvs_length] using this
    rw [bvs_get hj] at hu
    rw [Addr.add_lit]
    have := (Below.refl w.heap.size w).alloc (Nat.le_refl _) (Obj.cells Zs.toArray 5)
    rw [this.cell (p := ⟨b, off + j, none⟩) hb, hcell j hj]
    exact hu
  case h3 => rw [HXS.out, HZL.out, bvs_length, ← HK.out]; omega
  case h4 => rw [HXS.out]; exact bvs_one
  case h5 => exact (Below.refl _ _).alloc (Nat.le_refl _) _
  intro w2 HG hbel
  obtain ⟨H, hH⟩ : ∃ H, H = w.heap.size := ⟨_, rfl⟩
  rw [← hH] at HG hbel ⊢
  have hG : Blk w2 H 5 (splice Zs 0 Xs).toArray := HG.out
  have hst := endL_start l z (m * 8) 64 HNZ.out
  obtain ⟨x0, hx0⟩ := splice_any l 64 (by rw [← HK.out]; omega)
  rw [← HZS.out, ← HXS.out, ← HK.out] at hst hx0
  generalize (splice Zs 0 Xs).toArray = cs at *
  have hx := (hG.cell k).trans hx0
  have hf := hG.frozen k
  unfold bv at hx
  have hG1 : Blk (w2.setCell ⟨H, k, none⟩ (.int .u8 128)) H 5 (bva (endL l z (m * 8) 0)) := by
    have := hG.set_ k (.int .u8 128)
    rw [hst] at this
    exact this
  have HG1 := Lib.hid hG1
  have HB := Lib.hid (hbel.setCell (p := ⟨H, k, none⟩) (Nat.le_refl _) (.int .u8 128))
  have HH := Lib.hid hH
  have hk0 : (0 : Int) ≤ (k : Int) := by omega
  have hk1 : (k : Int) < 64 := by omega
  clear hG hst hx0 HG hbel hG1 hH mk
  go_wp2
  go_loopw [29] (fun i wr => ∃ j : Nat, j ≤ 8 ∧ i = .int .i64 j ∧ Blk wr H 5 (bva (endL l z (m * 8) j)) ∧ Below H w wr) (fun i _ => 8 - (intOf i).toNat)
  case atStart => exact ⟨0, by omega, rfl, HG1.out, HB.out⟩
  case round =>
    obtain ⟨j, hj, rfl, hG, hB⟩ := hrel
    by_cases hlt : j < 8
    · obtain ⟨p, hp⟩ : ∃ p, p = 64 - 1 - j := ⟨_, rfl⟩
      have hset := endL_set l z (m * 8) j hlt p (by rw [hp]; have := HNZ.out; omega)
      obtain ⟨x1, hx1⟩ := endL_any l z (m * 8) j p hj (by rw [hp, ← HNZ.out]; omega)
      have hx2 := (hG.cell p).trans hx1
      have hf2 := hG.frozen p
      unfold bv at hx2
      have hp0 : (63 : Int) - (j : Int) = (p : Int) := by omega
      have hp1 : (p : Int) < 64 := by omega
      have hp2 : (0 : Int) ≤ (p : Int) := by omega
      have HSET := Lib.hid hset
      have HG2 := Lib.hid hG
      have HB2 := Lib.hid hB
      have hj1 : (j : Int) ≤ 7 := by omega
      clear hset hx1 hG hB hp HG1 HB hx hf
      go_wp2
      go_roundw
      case rel =>
        refine ⟨j + 1, by omega, by go_num, ?_, HB2.out.setCell (Nat.le_refl _) _⟩
        rw [byte_shift]
        have := HG2.out.set_ p (bv (UInt8.ofNat (m * 8 / 2 ^ (8 * j))))
        rw [HSET.out] at this
        exact this
      case measure => simp [intOf]; omega
    · obtain rfl : j = 8 := by omega
      have HG2 := Lib.hid hG
      have HB2 := Lib.hid (HH.out ▸ hB : Below w.heap.size w wr)
      have hlen := endL_length l z (m * 8) 8 (by omega)
      clear hG hB HG1 HB hx hf
      go_wp2
      go_ret
      exact ⟨_, rfl, HG2.out.rb 64 (by rw [hlen]; exact HNZ.out) (by unfold maxLen; omega), HB2.out⟩

set_option maxRecDepth 100000 in
set_option maxHeartbeats 400000 in
theorem ending128_any (v : Value) (l : List UInt8) (m : Nat) (w : World) (hv : RB w v l) (hl : l.length < 64) (hc : 56 ≤ l.length) (hm : m ≤ 1125899906842624) :
    Calls Tryd.prog 15 #[v, .int .i64 m] w fun e w' => ∃ v', e = .returned v' ∧ RB w' v' (Go.Sha.ending l m) ∧ Below w.heap.size w w' := by
  obtain ⟨A, c, rfl, h1, h2, h3⟩ := hv
  have hv : RB w (.slice A l.length c) l := ⟨A, c, rfl, h1, h2, h3⟩
  obtain ⟨k, hk⟩ : ∃ k, k = l.length := ⟨_, rfl⟩
  have hz : noughts l.length = 128 - 9 - l.length := by unfold noughts; omega
  have hend : Go.Sha.ending l m = endL l (noughts l.length) (m * 8) 8 := by unfold Go.Sha.ending endL; simp
  rw [hz] at hend
  rw [hend]
  obtain ⟨z, hzz⟩ : ∃ z, z = 128 - 9 - l.length := ⟨_, rfl⟩
  rw [← hzz]
  have hnz : 128 = l.length + z + 9 := by omega
  have HV := Lib.hid hv
  have HK := Lib.hid hk
  have HNZ := Lib.hid hnz
  have mk := make128
  have hbl := bvs_length l
  obtain ⟨Zs, hZs⟩ : ∃ Zs, Zs = bvs (List.replicate 128 0) := ⟨_, rfl⟩
  have hzl : Zs.length = 128 := by rw [hZs]; simp [bvs]
  rw [← hZs] at mk
  obtain ⟨Xs, hXs⟩ : ∃ Xs, Xs = bvs l := ⟨_, rfl⟩
  have HZS := Lib.hid hZs
  have HXS := Lib.hid hXs
  have HZL := Lib.hid hzl
  rw [← hk] at h1 hl hc ⊢
  clear hv hz hend hzz hnz hZs hXs hzl hbl h3 hk
  unfold maxLen at h2
  go_enter Tryd.func15, Tryd.ntmps15
  go_wp2_with (refine wpList_copy_splice rfl (.tmp 19) (.tmp 20) 22 22 rfl 5 Tryd.underlying22 one5 _ A 128 128 k c rfl rfl w.heap.size 0 Zs 5 (heap_alloc_new w _) Xs ?h1 ?h2 ?h3 ?h4 w.heap.size w ?h5 (Nat.le_refl _) ?_)
  case h1 => rw [HXS.out, bvs_length, ← HK.out]; show k = min k 128; omega
  case h2 =>
    intro h0
    rw [HXS.out, bvs_length] at h0
    obtain ⟨b, off, rfl, hb, hcell⟩ := RB.cells_ HV.out h0
    refine ⟨⟨b, off, none⟩, rfl, fun j u hu => ?_⟩
    rw [HXS.out] at hu
    have hj : j < l.length := by have := (List.getElem?_eq_some_iff.1 hu).1; simpa [bvs_length] using this
    rw [bvs_get hj] at hu
    rw [Addr.add_lit]
    have := (Below.refl w.heap.size w).alloc (Nat.le_refl _) (Obj.cells Zs.toArray 5)
    rw [this.cell (p := ⟨b, off + j, none⟩) hb, hcell j hj]
    exact hu
  case h3 => rw [HXS.out, HZL.out, bvs_length, ← HK.out]; omega
  case h4 => rw [HXS.out]; exact bvs_one
  case h5 => exact (Below.refl _ _).alloc (Nat.le_refl _) _
  intro w2 HG hbel
  obtain ⟨H, hH⟩ : ∃ H, H = w.heap.size := ⟨_, rfl⟩
  rw [← hH] at HG hbel ⊢
  have hG : Blk w2 H 5 (splice Zs 0 Xs).toArray := HG.out
  have hst := endL_start l z (m * 8) 128 HNZ.out
  obtain ⟨x0, hx0⟩ := splice_any l 128 (by rw [← HK.out]; omega)
  rw [← HZS.out, ← HXS.out, ← HK.out] at hst hx0
  generalize (splice Zs 0 Xs).toArray = cs at *
  have hx := (hG.cell k).trans hx0
  have hf := hG.frozen k
  unfold bv at hx
  have hG1 : Blk (w2.setCell ⟨H, k, none⟩ (.int .u8 128)) H 5 (bva (endL l z (m * 8) 0)) := by
    have := hG.set_ k (.int .u8 128)
    rw [hst] at this
    exact this
  have HG1 := Lib.hid hG1
  have HB := Lib.hid (hbel.setCell (p := ⟨H, k, none⟩) (Nat.le_refl _) (.int .u8 128))
  have HH := Lib.hid hH
  have hk0 : (0 : Int) ≤ (k : Int) := by omega
  have hk1 : (k : Int) < 128 := by omega
  clear hG hst hx0 HG hbel hG1 hH mk
  go_wp2
  go_loopw [29] (fun i wr => ∃ j : Nat, j ≤ 8 ∧ i = .int .i64 j ∧ Blk wr H 5 (bva (endL l z (m * 8) j)) ∧ Below H w wr) (fun i _ => 8 - (intOf i).toNat)
  case atStart => exact ⟨0, by omega, rfl, HG1.out, HB.out⟩
  case round =>
    obtain ⟨j, hj, rfl, hG, hB⟩ := hrel
    by_cases hlt : j < 8
    · obtain ⟨p, hp⟩ : ∃ p, p = 128 - 1 - j := ⟨_, rfl⟩
      have hset := endL_set l z (m * 8) j hlt p (by rw [hp]; have := HNZ.out; omega)
      obtain ⟨x1, hx1⟩ := endL_any l z (m * 8) j p hj (by rw [hp, ← HNZ.out]; omega)
      have hx2 := (hG.cell p).trans hx1
      have hf2 := hG.frozen p
      unfold bv at hx2
      have hp0 : (127 : Int) - (j : Int) = (p : Int) := by omega
      have hp1 : (p : Int) < 128 := by omega
      have hp2 : (0 : Int) ≤ (p : Int) := by omega
      have HSET := Lib.hid hset
      have HG2 := Lib.hid hG
      have HB2 := Lib.hid hB
      have hj1 : (j : Int) ≤ 7 := by omega
      clear hset hx1 hG hB hp HG1 HB hx hf
      go_wp2
      go_roundw
      case rel =>
        refine ⟨j + 1, by omega, by go_num, ?_, HB2.out.setCell (Nat.le_refl _) _⟩
        rw [byte_shift]
        have := HG2.out.set_ p (bv (UInt8.ofNat (m * 8 / 2 ^ (8 * j))))
        rw [HSET.out] at this
        exact this
      case measure => simp [intOf]; omega
    · obtain rfl : j = 8 := by omega
      have HG2 := Lib.hid hG
      have HB2 := Lib.hid (HH.out ▸ hB : Below w.heap.size w wr)
      have hlen := endL_length l z (m * 8) 8 (by omega)
      clear hG hB HG1 HB hx hf
      go_wp2
      go_ret
      exact ⟨_, rfl, HG2.out.rb 128 (by rw [hlen]; exact HNZ.out) (by unfold maxLen; omega), HB2.out⟩

theorem ending_any (v : Value) (l : List UInt8) (m : Nat) (w : World) (hv : RB w v l) (hl : l.length < 64) (hm : m ≤ 1125899906842624) :
    Calls Tryd.prog 15 #[v, .int .i64 m] w fun e w' => ∃ v', e = .returned v' ∧ RB w' v' (Go.Sha.ending l m) ∧ Below w.heap.size w w' := by
  by_cases h : l.length ≤ 55
  · exact ending64_any v l m w hv hl h hm
  · exact ending128_any v l m w hv hl (by omega) hm

end Go.Proofs.YtbfemhhmijlmlaaDoor
