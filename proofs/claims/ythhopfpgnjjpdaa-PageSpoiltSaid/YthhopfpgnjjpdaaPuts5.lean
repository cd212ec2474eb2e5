/-
  The contracts of the statements' own functions much, puts and reads: puts and reads answer true.
-/
import Derived.Test.YthhopfpgnjjpdaaKnown5
import Derived.Test.YthhopfpgnjjpdaaRefDec
import Derived.Test.YthhopfpgnjjpdaaFind
import Derived.BigQuiet
import Derived.Deep.QuietTactic
namespace Go.Proofs.Ythhopfpgnjjpdaa
open Go.RowKit Go.Rst Go.Pg Go.Crc

def MuchR (w : World) (e : Ending) (w' : World) : Prop := (∃ b : Bool, e = .returned (.bool b)) ∧ Below w.heap.size w w'

set_option maxRecDepth 100000 in
set_option maxHeartbeats 1000000 in
theorem much_any (v : Value) (rs : List Rw) (w : World) (hv : RR w v rs) :
    Calls Try.prog 14 #[v] w (MuchR w) := by
  have HA := Lib.hid hv
  obtain ⟨A1, c1, rfl, hl1, hc1, _⟩ := hv
  unfold maxLen at hc1
  go_enter Try.func14, Try.ntmps14
  go_wp2
  go_loopw [3, 4] (fun n i wr => ∃ (k : Nat) (z : Int), k ≤ rs.length ∧ i = .int .i64 k ∧ n = .int .i64 z ∧ Below w.heap.size w wr) (fun _ i _ => rs.length - (intOf i).toNat)
  case atStart => exact ⟨0, rs.length, Nat.zero_le _, rfl, rfl, Below.refl _ _⟩
  case round =>
    obtain ⟨k, z, hk, rfl, rfl, hbel⟩ := hrel
    by_cases hlt : k < rs.length
    · obtain ⟨b1, o1, u1, rfl, hx1, hy1, hr1⟩ := rr_at HA.out hlt
      have hb := rr_block HA.out (by omega)
      obtain ⟨A2, c2, rfl, _⟩ := hr1
      generalize rs[k] = r at *
      have b1 : (0 : Int) ≤ (k : Int) := by omega
      have b2 : (k : Int) < (rs.length : Int) := by omega
      have hx2 := fun j => (show (wr.drewN j).cell? ⟨_, o1 + k * 2, none⟩ = _ from (hbel.cell (p := ⟨_, o1 + k * 2, none⟩) hb).trans hx1)
      have hy2 := fun j => (show (wr.drewN j).cell? ⟨_, o1 + k * 2 + 1, none⟩ = _ from (hbel.cell (p := ⟨_, o1 + k * 2 + 1, none⟩) hb).trans hy1)
      obtain ⟨y1, w1⟩ : ∃ y, y = IntKind.i64.wrap ((r.1.size : Int) + (r.2.length : Int)) := ⟨_, rfl⟩
      obtain ⟨y2, w2⟩ : ∃ y, y = IntKind.i64.wrap (z + y1) := ⟨_, rfl⟩
      have w1' := w1.symm
      have w2' := w2.symm
      have HB := Lib.hid hbel
      have hx0 := hx2 0
      have hy0 := hy2 0
      clear hbel w1 w2 hx1 hy1
      go_wp2
      go_quiet (fail)
      clear w1' w2' hx2 hy2
      go_wp2
      go_roundw
      case rel => exact ⟨k + 1, _, by omega, by go_num, rfl, ⟨HB.out.os, HB.out.tape, HB.out.output, HB.out.size, HB.out.block⟩⟩
      case measure => simp [intOf]; omega
    · go_wp2
      go_ret
      exact ⟨⟨_, rfl⟩, hbel⟩

set_option maxRecDepth 100000 in
set_option maxHeartbeats 1600000 in
theorem puts_any (lev : Int) (v : Value) (rs : List Rw) (key : ByteArray) (w : World) (hv : RR w v rs) :
    Calls Try.prog 15 #[.int .i64 lev, v, .string key] w fun e w' => e = .returned (.bool true) ∧ Below w.heap.size w w' := by
  have c1 := fun W hW => enc_any lev v rs W hW
  have c2 := fun W hW => refEnc_any lev v rs W hW
  have c3 := fun W hW => fit_any v rs W hW
  have c4 := fun W hW => refFit_any v rs W hW
  have c5 := fun W hW => find_any v rs key W hW
  have c6 := fun W hW => refFind_any v rs key W hW
  have C1 := Lib.hid c1
  have C2 := Lib.hid c2
  have C3 := Lib.hid c3
  have C4 := Lib.hid c4
  have C5 := Lib.hid c5
  have C6 := Lib.hid c6
  have HV := Lib.hid hv
  obtain ⟨A, c, rfl, hlc, hc, _⟩ := hv
  have hfe : (((fitN rs : Nat) : Int) == ((fitN rs : Nat) : Int)) = true := by simp
  have hpe : (Value.bool (pageOk lev rs)) = Value.bool (pageOk lev rs) := rfl
  clear c1 c2 c3 c4 c5 c6
  generalize pageOk lev rs = ok at *
  go_enter Try.func15, Try.ntmps15
  go_wp2_with fail
  refine (C1.out _ HV.out).mono ?_
  rintro e w1 ⟨v1, rfl, ho1, hbel⟩
  have HB1 := Lib.hid hbel
  have HR1 := Lib.hid (RB.own ho1)
  obtain ⟨A1, c1, rfl, _⟩ := own_shape ho1
  clear hbel ho1
  go_wp2_with fail
  refine (C2.out _ (rr_below HV.out HB1.out (Nat.le_refl _))).mono ?_
  rintro e w2 ⟨v2, rfl, ho2, hbel⟩
  have HB2 := Lib.hid (HB1.out.trans (hbel.mono HB1.out.size))
  have HR12 := Lib.hid (HR1.out.below hbel)
  have HR2 := Lib.hid (RB.own ho2)
  obtain ⟨A2, c2, rfl, _⟩ := own_shape ho2
  clear hbel ho2 HR1
  go_wp2_with fail
  refine (C3.out _ (rr_below HV.out HB2.out (Nat.le_refl _))).mono ?_
  rintro e w3 ⟨rfl, hbel⟩
  have HB3 := Lib.hid (HB2.out.trans (hbel.mono HB2.out.size))
  have HR13 := Lib.hid (HR12.out.below hbel)
  have HR23 := Lib.hid (HR2.out.below hbel)
  clear hbel HR12 HR2
  go_wp2_with fail
  refine (C4.out _ (rr_below HV.out HB3.out (Nat.le_refl _))).mono ?_
  rintro e w4 ⟨rfl, hbel⟩
  have HB4 := Lib.hid (HB3.out.trans (hbel.mono HB3.out.size))
  have hs1 := str22 (HR13.out.below hbel)
  have hs2 := str22 (HR23.out.below hbel)
  clear hbel HR13 HR23
  go_wp2_with fail
  refine (C5.out _ (rr_below HV.out HB4.out (Nat.le_refl _))).mono ?_
  rintro e w5 ⟨rfl, hbel⟩
  have HB5 := Lib.hid (HB4.out.trans (hbel.mono HB4.out.size))
  clear hbel hs1 hs2
  go_wp2_with fail
  refine (C6.out _ (rr_below HV.out HB5.out (Nat.le_refl _))).mono ?_
  rintro e w6 ⟨rfl, hbel⟩
  have HB6 := Lib.hid (HB5.out.trans (hbel.mono HB5.out.size))
  clear hbel
  go_wp2
  go_ret
  exact ⟨rfl, HB6.out⟩

theorem slotsF_len (b : List UInt8) : ∀ (f i : Nat) (acc : List Rw) (r : List Rw), slotsF b f i acc = some r → r.length = acc.length + f
  | 0, i, acc, r, h => by rw [slotsF] at h; injection h with h; rw [← h]; omega
  | f + 1, i, acc, r, h => by
    rw [slotsF] at h
    split at h
    · cases h
    · have := slotsF_len b f (i + 1) _ r h
      rw [this, List.length_append]
      simp
      omega
theorem dec_err (b : List UInt8) : (decR b).2.2 = 0 ∨ (decR b).2.2 = 11 ∨ (decR b).2.2 = 12 := by
  unfold decR
  split
  · exact .inr (.inl rfl)
  · split
    · exact .inr (.inr rfl)
    · split
      · exact .inr (.inl rfl)
      · split
        · exact .inl rfl
        · exact .inr (.inl rfl)

set_option maxRecDepth 100000 in
set_option maxHeartbeats 1600000 in
theorem reads_any (v : Value) (l : List UInt8) (w : World) (hv : RB w v l) :
    Calls Try.prog 19 #[v] w fun e w' => e = .returned (.bool true) ∧ Below w.heap.size w w' := by
  have c1 := fun W hW => dec_any v l W hW
  have c2 := fun W hW => refDec_any v l W hW
  rw [← dec_same] at c2
  have herr := dec_err l
  generalize decR l = r at *
  obtain ⟨lev, rs, er⟩ := r
  simp only [] at herr
  have C1 := Lib.hid c1
  have C2 := Lib.hid c2
  have HV := Lib.hid hv
  obtain ⟨A, c, rfl, _⟩ := hv
  have hle : ((lev : Int) == (lev : Int)) = true := by simp
  have hee : ((er : Int) == (er : Int)) = true := by simp
  have her : er ≤ 12 := by omega
  clear c1 c2 herr
  go_enter Try.func19, Try.ntmps19
  go_wp2_with fail
  refine (C1.out _ HV.out).mono ?_
  rintro x w1 ⟨v1, rfl, ho1, hb1⟩
  have HO1 := Lib.hid ho1
  have HB1 := Lib.hid hb1
  clear ho1 hb1
  go_wp2_with fail
  refine (C2.out _ (HV.out.below HB1.out)).mono ?_
  rintro x w2 ⟨v2, rfl, ho2, hb2⟩
  have HB2 := Lib.hid (HB1.out.trans (hb2.mono HB1.out.size))
  have HR1 : Hid (RR w2 v1 rs) := Lib.hid (HO1.out.below hb2).rr
  have HR2 : Hid (RR w2 v2 rs) := Lib.hid ho2.rr
  clear ho2 hb2
  go_wp2_with fail
  refine (sameRows_any _ _ rs _ HR1.out HR2.out).mono ?_
  rintro x w3 ⟨rfl, m, rfl⟩
  go_wp2
  go_ret
  exact ⟨rfl, HB2.out.os, HB2.out.tape, HB2.out.output, HB2.out.size, HB2.out.block⟩
end Go.Proofs.Ythhopfpgnjjpdaa
