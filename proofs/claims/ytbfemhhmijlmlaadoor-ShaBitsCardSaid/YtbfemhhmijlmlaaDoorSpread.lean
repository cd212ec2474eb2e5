/-
  The contract of sha.spread: it makes the 64 words of a block of 64 bytes.
-/
import Derived.Test.YtbfemhhmijlmlaaDoorMixed
import Derived.BigRegion
namespace Go.Proofs.YtbfemhhmijlmlaaDoor
open Go.RowKit Go.Rst Go.Sha

theorem info40 : (Tryd.prog.info? 40).map (fun i => (i.zero, i.size, i.bytes)) = some (some (.agg (Array.replicate 64 (.int .u32 0))), 64, 256) := by kernel_rfl
theorem zero40 : ∀ w, (zeroValue 40).run Tryd.prog w = .ok (.agg (Array.replicate 64 (.int .u32 0))) w := by
  intro w
  obtain ⟨i, hi, hz, _, _⟩ := info_parts info40
  simp [zeroValue, typeInfo, hi, hz]
/-- 64 words, of which the first ones are told; the others are 0. -/
def fill (a : List UInt32) : Array Value := wvs (a ++ List.replicate (64 - a.length) 0)
theorem fill_nil : fill [] = Array.replicate 64 (.int .u32 0) := by
  kernel_rfl
theorem fill_size {a : List UInt32} (h : a.length ≤ 64) : (fill a).size = 64 := by simp [fill, wvs]; omega
theorem fill_get {a : List UInt32} {j : Nat} (h : j < a.length) : (fill a)[j]? = some (wv (a.getD j 0)) := by
  unfold fill
  rw [wvs_get (by simp; omega)]
  simp [List.getElem?_append_left h]
theorem fill_any {a : List UInt32} {j : Nat} (h : j < 64) : ∃ x : UInt32, (fill a)[j]? = some (wv x) := by
  unfold fill
  exact ⟨_, wvs_get (by simp; omega)⟩
theorem fill_set {a : List UInt32} (h : a.length < 64) (x : UInt32) : (fill a).setIfInBounds a.length (wv x) = fill (a ++ [x]) := by
  unfold fill wvs
  have e : 64 - a.length = (64 - (a ++ [x]).length) + 1 := by simp; omega
  rw [e, List.replicate_succ]
  apply Array.toList_inj.1
  simp
theorem fill_full {a : List UInt32} (h : a.length = 64) : fill a = wvs a := by simp [fill, h]

theorem info40s {cs : Array Value} (h : cs.size = 64) : (Tryd.prog.info? 40).map (·.size) = some cs.size := by
  obtain ⟨i, hi, _, hs, _⟩ := info_parts info40
  rw [hi, h, Option.map_some, hs]
theorem shr_go (x : UInt32) (n : Nat) : ((x.toNat / 2 ^ n : Nat) : Int) = ((shr x n).toNat : Int) := by
  unfold shr
  rw [of32 _ (Nat.lt_of_le_of_lt (Nat.div_le_self _ _) (w_lt x))]
theorem low_go (x : UInt32) : bits .xor .u32 (bits .xor .u32 ((rotr x 7).toNat : Int) ((rotr x 18).toNat : Int)) ((x.toNat : Int) / 8) = ((lowX x).toNat : Int) := by
  have h : (x.toNat : Int) / 8 = ((shr x 3).toNat : Int) := shr_go x 3
  rw [h, g_xor, g_xor]
  rfl
theorem high_go (x : UInt32) : bits .xor .u32 (bits .xor .u32 ((rotr x 17).toNat : Int) ((rotr x 19).toNat : Int)) ((x.toNat : Int) / 1024) = ((highY x).toNat : Int) := by
  have h : (x.toNat : Int) / 1024 = ((shr x 10).toNat : Int) := shr_go x 10
  rw [h, g_xor, g_xor]
  rfl
theorem sum_go (a b c d : UInt32) : ((a.toNat : Int) + (b.toNat : Int) + (c.toNat : Int) + (d.toNat : Int)) % 4294967296 = ((a + b + c + d).toNat : Int) := by
  simp only [UInt32.toNat_add]
  omega
/-- How spread's blocks lie. -/
def PB (w : World) (H : Nat) (a : List UInt32) (wr : World) : Prop :=
  Blk wr H 40 (fill []) ∧ Blk wr (H + 1) 40 (fill a) ∧ Below H w wr
theorem PB.below {w wr wr' : World} {H : Nat} {a : List UInt32} (h : PB w H a wr) (hb : Below wr.heap.size wr wr') : PB w H a wr' :=
  ⟨h.1.below hb h.1.lt, h.2.1.below hb h.2.1.lt, h.2.2.trans (hb.mono (Nat.le_of_lt h.1.lt))⟩
theorem PB.drewN {w wr : World} {H : Nat} {a : List UInt32} (h : PB w H a wr) (n : Nat) : PB w H a (wr.drewN n) :=
  ⟨h.1, h.2.1, h.2.2.trans ⟨rfl, rfl, rfl, Nat.le_refl _, fun _ _ => rfl⟩⟩
theorem PB.step {w wr : World} {H t : Nat} {a : List UInt32} (h : PB w H a wr) (ht : a.length = t) (h64 : t < 64) (x : UInt32) : PB w H (a ++ [x]) (wr.setCell ⟨H + 1, t, none⟩ (wv x)) := by
  subst ht
  refine ⟨h.1.far (by simp) _, ?_, h.2.2.setCell (by simp) _⟩
  have := h.2.1.set_ a.length (wv x)
  rw [fill_set h64] at this
  exact this

set_option maxRecDepth 100000 in
set_option maxHeartbeats 400000 in
theorem spread_any (v : Value) (l : List UInt8) (w : World) (hv : RB w v l) (hl : l.length = 64) :
    Calls Tryd.prog 20 #[v] w fun e w' => e = .returned (.agg (wvs (wl l 64))) ∧ Below w.heap.size w w' := by
  obtain ⟨Z, hZ⟩ : ∃ Z, Z = Array.replicate 64 (Value.int .u32 0) := ⟨_, rfl⟩
  have z40 := zero40
  rw [← hZ] at z40
  rw [← fill_nil] at hZ
  obtain ⟨R, hR⟩ : ∃ R, R = wvs (wl l 64) := ⟨_, rfl⟩
  rw [← hR]
  have HRes := Lib.hid hR
  have HZ := Lib.hid hZ
  have HV := Lib.hid hv
  have HL := Lib.hid hl
  obtain ⟨A, c, rfl, h1, h2, h3⟩ := hv
  obtain ⟨b, off, rfl⟩ : ∃ b off, A = some ⟨b, off, none⟩ := by
    rcases h3 with h3 | ⟨b, off, h4, h5, h6⟩
    · rw [h3] at hl; simp at hl
    · exact ⟨b, off, h4⟩
  rw [hl] at h1 ⊢
  unfold maxLen at h2
  clear hZ hR h3 hl
  go_enter Tryd.func20, Tryd.ntmps20
  go_wp2
  obtain ⟨H, hH⟩ : ∃ H, H = w.heap.size := ⟨_, rfl⟩
  rw [← hH]
  obtain ⟨W2, hW2⟩ : ∃ W2, W2 = (w.alloc (Obj.cells Z 40)).alloc (Obj.cells Z 40) := ⟨_, rfl⟩
  rw [← hW2]
  have hM : PB w H (wl l 0) W2 := by
    rw [hW2, hH, HZ.out]
    refine ⟨heap_alloc2_old w _ _, heap_alloc2_new w _ _, ((Below.refl _ _).alloc (Nat.le_refl _) _).alloc (by simp) _⟩
  have HM := Lib.hid hM
  have HH := Lib.hid hH
  clear hM hW2 hH
  go_loopw [10] (fun i wr => ∃ t : Nat, t ≤ 16 ∧ i = .int .i64 t ∧ PB w H (wl l t) wr) (fun i _ => 16 - (intOf i).toNat)
  case atStart => exact ⟨0, by omega, rfl, HM.out⟩
  case round =>
    obtain ⟨t, ht, rfl, hM⟩ := hrel
    by_cases hlt : t < 16
    · have hrb := (HV.out.below (HH.out ▸ hM.2.2)).cut (q := t * 4) (n := 64 - t * 4) (by rw [HL.out]; omega)
      have hlen : ((l.drop (t * 4)).take (64 - t * 4)).length = 64 - t * 4 := by simp [HL.out]
      have hw4 : wordAt ((l.drop (t * 4)).take (64 - t * 4)) 0 = wordAt l (t * 4) := by
        rw [List.take_of_length_le (by rw [List.length_drop, HL.out]; exact Nat.le_refl _), wordAt_drop, Nat.add_zero]
      have hcall := word_any _ _ wr hrb (by rw [hlen]; omega)
      rw [hw4] at hcall
      have HC := Lib.hid hcall
      have HM2 := Lib.hid hM
      have hnx := Lib.hid (wl_low (l := l) hlt)
      clear hM hrb hcall hlen hw4 HM
      have hi0 : (0 : Int) ≤ (t : Int) := by omega
      have hi1 : (t : Int) < 64 := by omega
      have hi2 : (t : Int) * 4 ≤ 64 := by omega
      go_wp2_with fail
      refine HC.out.mono ?_
      rintro e1 w1 ⟨rfl, hb⟩
      have hM2 := HM2.out.below hb
      have hf := hM2.2.1.frozen t
      obtain ⟨x0, hx0⟩ := fill_any (a := wl l t) (j := t) (by omega)
      have hx := (hM2.2.1.cell t).trans hx0
      unfold wv at hx
      have HM3 := Lib.hid hM2
      clear hM2 hx0 hb
      go_wp2
      go_roundw
      case rel =>
        refine ⟨t + 1, by omega, by go_num, ?_⟩
        rw [hnx.out]
        exact HM3.out.step (wl_length l t) (by omega) _
      case measure => simp [intOf]; omega
    · obtain rfl : t = 16 := by omega
      have HM2 := Lib.hid hM
      obtain ⟨Wo, hWo⟩ : ∃ Wo, Wo = wr := ⟨_, rfl⟩
      subst hWo
      clear hM HM
      go_wp2
      go_loopw [5] (fun i wr => ∃ u : Nat, u ≤ 48 ∧ i = .int .i64 ((u : Int) + 16) ∧ PB w H (wl l (u + 16)) wr) (fun i _ => 64 - (intOf i).toNat)
      case atStart => exact ⟨0, by omega, rfl, HM2.out⟩
      case round =>
        obtain ⟨u, hu, rfl, hM⟩ := hrel
        by_cases hlt : u < 48
        · have hx1 := (hM.2.1.cell (u + 1)).trans (fill_get (by rw [wl_length]; omega))
          have hx14 := (hM.2.1.cell (u + 14)).trans (fill_get (by rw [wl_length]; omega))
          have hx0 := (hM.2.1.cell u).trans (fill_get (by rw [wl_length]; omega))
          have hx9 := (hM.2.1.cell (u + 9)).trans (fill_get (by rw [wl_length]; omega))
          have hf := hM.2.1.frozen (u + 16)
          obtain ⟨x0, hxo⟩ := fill_any (a := wl l (u + 16)) (j := u + 16) (by omega)
          have hx := (hM.2.1.cell (u + 16)).trans hxo
          have hn := wl_high (l := l) (t := u + 16) (by omega)
          have hnx : nextW (wl l (u + 16)) (u + 16) = (wl l (u + 16)).getD u 0 + (wl l (u + 16)).getD (u + 9) 0 + lowX ((wl l (u + 16)).getD (u + 1) 0) + highY ((wl l (u + 16)).getD (u + 14) 0) := by
            unfold nextW
            rw [show u + 16 - 16 = u from by omega, show u + 16 - 7 = u + 9 from by omega, show u + 16 - 15 = u + 1 from by omega, show u + 16 - 2 = u + 14 from by omega]
          rw [hnx] at hn
          generalize (wl l (u + 16)).getD u 0 = y0 at *
          generalize (wl l (u + 16)).getD (u + 9) 0 = y9 at *
          generalize (wl l (u + 16)).getD (u + 1) 0 = y1 at *
          generalize (wl l (u + 16)).getD (u + 14) 0 = y14 at *
          have HN := Lib.hid hn
          have HM3 := Lib.hid hM
          unfold wv at hx1 hx14 hx0 hx9 hx
          clear hxo hn hnx hM HM2
          have i0 : (0 : Int) ≤ (u : Int) + 1 := by omega
          have i1 : (u : Int) + 1 < 64 := by omega
          have i2 : (0 : Int) ≤ (u : Int) + 14 := by omega
          have i3 : (u : Int) + 14 < 64 := by omega
          have i4 : (0 : Int) ≤ (u : Int) := by omega
          have i5 : (u : Int) < 64 := by omega
          have i6 : (0 : Int) ≤ (u : Int) + 9 := by omega
          have i7 : (u : Int) + 9 < 64 := by omega
          have i8 : (u : Int) + 16 < 64 := by omega
          have i9 : (0 : Int) ≤ (u : Int) + 16 := by omega
          have e15 : (u : Int) + 16 - 15 = (u : Int) + 1 := by omega
          have e2 : (u : Int) + 16 - 2 = (u : Int) + 14 := by omega
          have e16 : (u : Int) + 16 - 16 = (u : Int) := by omega
          have e7 : (u : Int) + 16 - 7 = (u : Int) + 9 := by omega
          go_wp2
          go_quiet (fail)
          go_wp2_with fail
          refine (right_any _ 7 (by decide) (by decide) _).mono ?_
          rintro e1 w1 ⟨rfl, rfl⟩
          go_wp2_with fail
          refine (right_any _ 18 (by decide) (by decide) _).mono ?_
          rintro e1 w1 ⟨rfl, rfl⟩
          go_wp2_with fail
          refine (right_any _ 17 (by decide) (by decide) _).mono ?_
          rintro e1 w1 ⟨rfl, rfl⟩
          go_wp2_with fail
          refine (right_any _ 19 (by decide) (by decide) _).mono ?_
          rintro e1 w1 ⟨rfl, rfl⟩
          go_wp2
          go_region
          go_wp2
          go_roundw
          case rel =>
            (repeat apply Exists.intro)
            refine ⟨?_, rfl⟩
            refine ⟨u + 1, by omega, by go_num, ?_⟩
            rw [low_go, high_go, sum_go, show u + 1 + 16 = u + 16 + 1 from by omega, HN.out]
            exact (HM3.out.drewN (nq + 1)).step (wl_length l _) (by omega) _
          case measure => simp [intOf]; omega
        · obtain rfl : u = 48 := by omega
          obtain ⟨hb0, hb1, hbel⟩ := hM
          rw [fill_full (wl_length l _)] at hb1
          have hS := fill_size (a := []) (by decide)
          have hSR : R.size = 64 := by rw [HRes.out]; simp [wvs, wl_length]
          have hI : R.all (·.oneCell') = true := by rw [HRes.out]; exact wvs_oneCell _
          rw [show wvs (wl l (48 + 16)) = R from HRes.out.symm] at hb1
          generalize fill [] = F at *
          have H0 := Lib.hid hb0
          have H1 := Lib.hid hb1
          have HB := Lib.hid hbel
          have HI := Lib.hid hI
          have HFR := Lib.hid (hS.trans hSR.symm)
          have HS := Lib.hid (info40s hSR)
          clear hb0 hb1 hbel hS hSR hI
          go_wp2_with (first
            | (refine wpList_load_row rfl 40 (.tmp 3) rfl (H + 1) rfl 40 R (0, 0) _ H1.out Tryd.underlying40 rfl HS.out ?_)
            | (refine wpList_store_row rfl 40 (.tmp 2) (.tmp 64) rfl H R rfl rfl 40 F H0.out HS.out HFR.out HI.out ?_))
          have hb' : Below w.heap.size w (wr.setRow H R) := HH.out ▸ HB.out.trans ⟨rfl, rfl, rfl, by simp, fun j hj => setRow_other wr _ j R (by omega)⟩
          exact bodyPost_ret (v := .agg R) (results_cell_row rfl _ _ H 40 R (0, 0) _ rfl (setRow_heap _ _ _ _ _ _ H0.out) Tryd.underlying40 rfl HS.out) rfl ⟨rfl, hb'⟩
end Go.Proofs.YtbfemhhmijlmlaaDoor
