/-
  The contract of sha.digest: it tells the eight words as 32 bytes, in order.
-/
import Derived.Test.YtbfemhhmijlmlaaDoorSpread
namespace Go.Proofs.YtbfemhhmijlmlaaDoor
open Go.RowKit Go.Rst Go.Sha

theorem info24 : (Tryd.prog.info? 24).map (fun i => (i.zero, i.size, i.bytes)) = some (some (.agg (Array.replicate 32 (.int .u8 0))), 32, 32) := by kernel_rfl
theorem zero24 : ∀ w, (zeroValue 24).run Tryd.prog w = .ok (.agg (Array.replicate 32 (.int .u8 0))) w := by
  intro w
  obtain ⟨i, hi, hz, _, _⟩ := info_parts info24
  simp [zeroValue, typeInfo, hi, hz]
theorem info24s {cs : Array Value} (h : cs.size = 32) : (Tryd.prog.info? 24).map (·.size) = some cs.size := by
  obtain ⟨i, hi, _, hs, _⟩ := info_parts info24
  rw [hi, h, Option.map_some, hs]
/-- Bytes as an array's cells. -/
def bva (l : List UInt8) : Array Value := (bvs l).toArray
theorem bva_get {l : List UInt8} {j : Nat} (h : j < l.length) : (bva l)[j]? = some (bv (l.getD j 0)) := by
  unfold bva
  rw [List.getElem?_toArray, bvs_get h]
  simp [List.getElem?_eq_getElem h]
theorem bva_oneCell (l : List UInt8) : (bva l).all (·.oneCell') = true := by
  rw [Array.all_eq_true]
  intro i hi
  simp [bva, bvs, bv, Value.oneCell']
/-- 32 bytes, of which the first ones are told; the others are 0. -/
def fillB (a : List UInt8) : Array Value := bva (a ++ List.replicate (32 - a.length) 0)
theorem fillB_nil : fillB [] = Array.replicate 32 (.int .u8 0) := by kernel_rfl
theorem fillB_size {a : List UInt8} (h : a.length ≤ 32) : (fillB a).size = 32 := by simp [fillB, bva, bvs]; omega
theorem fillB_any {a : List UInt8} {j : Nat} (h : j < 32) : ∃ x : UInt8, (fillB a)[j]? = some (bv x) := by
  unfold fillB
  exact ⟨_, bva_get (by simp; omega)⟩
theorem fillB_set {a : List UInt8} (h : a.length < 32) (x : UInt8) : (fillB a).setIfInBounds a.length (bv x) = fillB (a ++ [x]) := by
  unfold fillB bva bvs
  have e : 32 - a.length = (32 - (a ++ [x]).length) + 1 := by simp; omega
  rw [e, List.replicate_succ]
  apply Array.toList_inj.1
  simp
theorem fillB_full {a : List UInt8} (h : a.length = 32) : fillB a = bva a := by simp [fillB, h]

/-- How digest's blocks lie. -/
def GB (w : World) (H : Nat) (A : List UInt32) (a : List UInt8) (wr : World) : Prop :=
  Blk wr H 31 (wvs A) ∧ Blk wr (H + 1) 24 (fillB []) ∧ Blk wr (H + 1 + 1) 24 (fillB a) ∧ Below H w wr
theorem GB.step {w wr : World} {H t : Nat} {A : List UInt32} {a : List UInt8} (h : GB w H A a wr) (ht : a.length = t) (h64 : t < 32) (x : UInt8) : GB w H A (a ++ [x]) (wr.setCell ⟨H + 1 + 1, t, none⟩ (bv x)) := by
  subst ht
  refine ⟨h.1.far (by simp; omega) _, h.2.1.far (by simp) _, ?_, h.2.2.2.setCell (by simp; omega) _⟩
  have := h.2.2.1.set_ a.length (bv x)
  rw [fillB_set h64] at this
  exact this
/-- The first n bytes of a digest. -/
def dig (s : S8) (n : Nat) : List UInt8 := (List.range n).map (digestAt s)
theorem dig_length (s : S8) (n : Nat) : (dig s n).length = n := by simp [dig]
theorem dig_succ (s : S8) (n : Nat) : dig s (n + 1) = dig s n ++ [digestAt s n] := by simp [dig, List.range_succ]
theorem byte_of (n : Nat) : ((n : Int)) % 256 = ((UInt8.ofNat n).toNat : Int) := by rw [UInt8.toNat_ofNat']; omega
theorem shr8_go (x : UInt32) (n : Nat) : (x.toNat : Int) / 2 ^ n % 256 = ((UInt8.ofNat (x.toNat / 2 ^ n)).toNat : Int) := by
  rw [← byte_of]
  simp

set_option maxRecDepth 100000 in
set_option maxHeartbeats 400000 in
theorem digest_any (s : S8) (w : World) :
    Calls Tryd.prog 14 #[.agg (wvs s.list)] w fun e w' => e = .returned (.agg (bva (digest s))) ∧ Below w.heap.size w w' := by
  obtain ⟨Z, hZ⟩ : ∃ Z, Z = Array.replicate 32 (Value.int .u8 0) := ⟨_, rfl⟩
  have z24 := zero24
  rw [← hZ] at z24
  rw [← fillB_nil] at hZ
  obtain ⟨R, hR⟩ : ∃ R, R = bva (digest s) := ⟨_, rfl⟩
  rw [← hR]
  obtain ⟨X, hX⟩ : ∃ X, X = wvs s.list := ⟨_, rfl⟩
  rw [← hX]
  have HRes := Lib.hid hR
  have HZ := Lib.hid hZ
  have HX := Lib.hid hX
  clear hZ hR hX
  go_enter Tryd.func14, Tryd.ntmps14
  go_wp2
  obtain ⟨H, hH⟩ : ∃ H, H = w.heap.size := ⟨_, rfl⟩
  rw [← hH]
  obtain ⟨W2, hW2⟩ : ∃ W2, W2 = ((w.alloc (Obj.cells X 31)).alloc (Obj.cells Z 24)).alloc (Obj.cells Z 24) := ⟨_, rfl⟩
  rw [← hW2]
  have hM : GB w H s.list (dig s 0) W2 := by
    rw [hW2, hH, HZ.out, HX.out]
    refine ⟨Blk.alloc (heap_alloc2_old w _ _) _, Blk.alloc (heap_alloc2_new w _ _) _, ?_, (((Below.refl _ _).alloc (Nat.le_refl _) _).alloc (by simp) _).alloc (by simp; omega) _⟩
    have := heap_alloc2_new (w.alloc (Obj.cells (wvs s.list) 31)) (Obj.cells (fillB []) 24) (Obj.cells (fillB []) 24)
    have e1 : (w.alloc (Obj.cells (wvs s.list) 31)).heap.size = w.heap.size + 1 := by simp
    rw [e1] at this
    exact this
  have HM := Lib.hid hM
  have HH := Lib.hid hH
  clear hM hW2 hH
  go_loopw [5] (fun i wr => ∃ t : Nat, t ≤ 32 ∧ i = .int .i64 t ∧ GB w H s.list (dig s t) wr) (fun i _ => 32 - (intOf i).toNat)
  case atStart => exact ⟨0, by omega, rfl, HM.out⟩
  case round =>
    obtain ⟨t, ht, rfl, hM⟩ := hrel
    by_cases hlt : t < 32
    · have hc := (hM.1.cell (t / 4)).trans (wvs_get (by show t / 4 < 8; omega))
      have hd : digestAt s t = UInt8.ofNat ((s.list.getD (t / 4) 0).toNat / 2 ^ (24 - t % 4 * 8)) := rfl
      have hf := hM.2.2.1.frozen t
      obtain ⟨x0, hxo⟩ := fillB_any (a := dig s t) (j := t) (by omega)
      have hx := (hM.2.2.1.cell t).trans hxo
      have hn := dig_succ s t
      have hl := dig_length s t
      generalize s.list.getD (t / 4) 0 = X at *
      unfold wv at hc
      unfold bv at hx
      have HM3 := Lib.hid hM
      have HD := Lib.hid hd
      have HN := Lib.hid hn
      have HLn := Lib.hid hl
      clear hM hd hxo hn hl HM
      obtain ⟨q, r, hr, rfl⟩ : ∃ q r, r < 4 ∧ t = 4 * q + r := ⟨t / 4, t % 4, by omega, by omega⟩
      rw [show (4 * q + r) / 4 = q from by omega] at hc
      have HT := Lib.hid hlt
      have i0 : (0 : Int) ≤ 4 * (q : Int) + (r : Int) := by omega
      have i1 : 4 * (q : Int) + (r : Int) < 32 := by omega
      have i2 : (q : Int) < 8 := by omega
      have i3 : (0 : Int) ≤ (q : Int) := by omega
      have i4 : (4 * (q : Int) + (r : Int)).tdiv 4 = (q : Int) := by rw [Int.tdiv_eq_ediv_of_nonneg (by omega)]; omega
      have i5 : (4 * (q : Int) + (r : Int)).tmod 4 = (r : Int) := by rw [Int.tmod_eq_emod_of_nonneg (by omega)]; omega
      have i6 : (4 * (q : Int) + (r : Int)) / 4 = (q : Int) := by omega
      have i7 : (4 * (q : Int) + (r : Int)) % 4 = (r : Int) := by omega
      have j1 : (0 : Int) ≤ (r : Int) := by omega
      have j2 : (r : Int) < 4 := by omega
      go_wp2
      go_roundw
      case rel =>
        refine ⟨4 * q + r + 1, HT.out, by go_num, ?_⟩
        have hr4 : (4 * q + r) % 4 = r := by omega
        rw [HN.out, HD.out, hr4, shr8_go]
        exact HM3.out.step HLn.out HT.out _
      case measure => simp [intOf]; omega
    · obtain rfl : t = 32 := by omega
      obtain ⟨_, hb1, hb2, hbel⟩ := hM
      rw [fillB_full (dig_length s _)] at hb2
      have hS := fillB_size (a := []) (by decide)
      have hSR : R.size = 32 := by rw [HRes.out]; simp [bva, bvs, digest_length]
      have hI : R.all (·.oneCell') = true := by rw [HRes.out]; exact bva_oneCell _
      rw [show bva (dig s 32) = R from HRes.out.symm] at hb2
      generalize fillB [] = F at *
      have H1 := Lib.hid hb1
      have H2 := Lib.hid hb2
      have HB := Lib.hid hbel
      have HI := Lib.hid hI
      have HFR := Lib.hid (hS.trans hSR.symm)
      have HS := Lib.hid (info24s hSR)
      clear hb1 hb2 hbel hS hSR hI
      go_wp2_with (first
        | (refine wpList_load_row rfl 24 (.tmp 3) rfl (H + 1 + 1) rfl 24 R (0, 0) _ H2.out Tryd.underlying24 rfl HS.out ?_)
        | (refine wpList_store_row rfl 24 (.tmp 2) (.tmp 21) rfl (H + 1) R rfl rfl 24 F H1.out HS.out HFR.out HI.out ?_))
      have hb' : Below w.heap.size w (wr.setRow (H + 1) R) := HH.out ▸ HB.out.trans ⟨rfl, rfl, rfl, by simp, fun j hj => setRow_other wr _ j R (by omega)⟩
      exact bodyPost_ret (v := .agg R) (results_cell_row rfl _ _ (H + 1) 24 R (0, 0) _ rfl (setRow_heap _ _ _ _ _ _ H1.out) Tryd.underlying24 rfl HS.out) rfl ⟨rfl, hb'⟩
end Go.Proofs.YtbfemhhmijlmlaaDoor
