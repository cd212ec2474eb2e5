/-
  The walk of PagePuts: it answers true of any level, rows, bytes, key and choice.
-/
import Derived.Test.YthhopfpgnjjpdaaPuts5
import Derived.Test.YthhopfpgnjjpdaaRowList
namespace Go.Proofs.Ythhopfpgnjjpdaa
open Go.RowKit Go.Rst Go.Pg Go.Crc

theorem rr_take {w : World} {A : Option Addr} {m c : Nat} {rs : List Rw} (h : RR w (.slice A m c) rs) {n : Nat} (hn : n ≤ rs.length) : RR w (.slice A n c) (rs.take n) := by
  obtain ⟨A', c', he, h1, h2, h3⟩ := h
  injection he with e1 _ e3
  subst e1
  subst e3
  have hl : (rs.take n).length = n := by rw [List.length_take]; omega
  refine ⟨A, c, by rw [hl], by omega, h2, ?_⟩
  rcases h3 with rfl | ⟨b, off, rfl, hb, hc⟩
  · exact .inl (by simp)
  · refine .inr ⟨b, off, rfl, hb, fun j hj => ?_⟩
    have := hc j (by omega)
    rw [List.getElem_take]
    exact this
theorem rr_alloc {w : World} {v : Value} {rs : List Rw} (h : RR w v rs) (o : Obj) : RR (w.alloc o) v rs := rr_below h ((Below.refl _ _).alloc (Nat.le_refl _) o) (Nat.le_refl _)
theorem lit_str (W : World) (x : Int) (h0 : 0 ≤ x) (h1 : x < 256) : (convert 22 9 (.slice (some ⟨W.heap.size, 0, none⟩) 1 1)).run Try.prog (W.alloc (.cells #[.int .u8 x] 5)) = .ok (.string ⟨#[UInt8.ofNat x.toNat]⟩) (W.alloc (.cells #[.int .u8 x] 5)) := by
  have e : #[Value.int .u8 x] = (bvs [UInt8.ofNat x.toNat]).toArray := by
    have : ((UInt8.ofNat x.toNat).toNat : Int) = x := by rw [byte_val (by omega)]; omega
    simp only [bvs, bv, List.map_cons, List.map_nil, this]
  exact str22 (RB.lit W 5 (0, 0) [UInt8.ofNat x.toNat] _ e 1 rfl (by decide))

set_option maxRecDepth 100000 in
set_option maxHeartbeats 4000000 in
theorem puts_walk (lev : Int) (v : Value) (rs : List Rw) (vc : Value) (l : List UInt8) (key : ByteArray) (k : Nat) (w : World) (hv : RR w v rs) (hc : RB w vc l) (hl : l.length ≤ 140737488351232) (hk : k ≤ 255) :
    Calls Try.prog 5 #[.int .i64 lev, v, vc, .string key, .int .u8 k] w fun e w' => e = .returned (.bool true) ∧ Below w.heap.size w w' := by
  have HV := Lib.hid hv
  have HC := Lib.hid hc
  have hm := much_any v rs w hv
  obtain ⟨A, c, rfl, hlc, hc1, _⟩ := hv
  obtain ⟨A2, c2, rfl, hlc2, hc2, _⟩ := hc
  go_enter Try.func5, Try.ntmps5
  go_wp2_with fail
  refine hm.mono ?_
  rintro e w1 ⟨⟨b, rfl⟩, hbel⟩
  have HB1 := Lib.hid hbel
  clear hbel hm
  cases b with
  | true =>
    go_wp2_with fail
    refine (known_any _).mono ?_
    rintro e w2 ⟨rfl, hbel⟩
    have HB2 := Lib.hid (HB1.out.trans (hbel.mono HB1.out.size))
    clear hbel
    go_wp2
    go_ret
    exact ⟨rfl, HB2.out⟩
  | false =>
    go_wp2_with fail
    refine (known_any _).mono ?_
    rintro e w2 ⟨rfl, hbel⟩
    have HB2 := Lib.hid (HB1.out.trans (hbel.mono HB1.out.size))
    clear hbel
    go_wp2_with fail
    refine (rowList_any _ l 12 (by decide) _ (HC.out.below HB2.out) hl).mono ?_
    rintro e w3 ⟨v3, rfl, ho, hbel⟩
    have HB3 := Lib.hid (HB2.out.trans (hbel.mono HB2.out.size))
    have HM3 := Lib.hid ho.rr
    obtain ⟨A3, c3, rfl⟩ := or_shape ho
    clear hbel ho
    generalize rowsAt l (nrows l 12) = ms at *
    go_wp2_with fail
    refine (puts_any lev _ rs key _ (rr_below HV.out HB3.out (Nat.le_refl _))).mono ?_
    rintro e w4 ⟨rfl, hbel⟩
    have HB4 := Lib.hid (HB3.out.trans (hbel.mono HB3.out.size))
    have HM4 := Lib.hid (rr_below HM3.out hbel (Nat.le_refl _))
    clear hbel HM3
    have hlit := lit_str w4 (97 + (k : Int) % 16) (by omega) (by omega)
    have h31 := fitN_le ms
    have h30 := fitN_le rs
    have c63 : (c3 : Int) ≤ 9223372036854775807 := by
      obtain ⟨_, _, he, _, h, _⟩ := HM4.out
      injection he with _ _ e3
      subst e3
      unfold maxLen at h; omega
    have c631 : (c : Int) ≤ 9223372036854775807 := by unfold maxLen at hc1; omega
    have hl3 : ms.length ≤ c3 := by
      obtain ⟨_, _, he, h, _, _⟩ := HM4.out
      injection he with _ _ e3
      subst e3
      exact h
    go_wp2_with fail
    refine (puts_any _ _ ms _ _ (rr_alloc HM4.out _)).mono ?_
    rintro e w5 ⟨rfl, hbel⟩
    have HB5 := Lib.hid ((HB4.out.alloc HB4.out.size _).trans (hbel.mono (by have := HB4.out.size; simp; omega)))
    have HM5 := Lib.hid (rr_below (rr_alloc HM4.out _) hbel (Nat.le_refl _))
    clear hbel HM4 hlit
    go_wp2_with fail
    refine (refFit_any _ ms _ HM5.out).mono ?_
    rintro e w6 ⟨rfl, hbel⟩
    have HB6 := Lib.hid (HB5.out.trans (hbel.mono HB5.out.size))
    have HM6 := Lib.hid (rr_take (rr_below HM5.out hbel (Nat.le_refl _)) h31)
    clear hbel HM5
    go_wp2_with fail
    refine (puts_any _ _ _ _ _ HM6.out).mono ?_
    rintro e w7 ⟨rfl, hbel⟩
    have HB7 := Lib.hid (HB6.out.trans (hbel.mono HB6.out.size))
    clear hbel HM6
    go_wp2_with fail
    refine (refFit_any _ rs _ (rr_below HV.out HB7.out (Nat.le_refl _))).mono ?_
    rintro e w8 ⟨rfl, hbel⟩
    have HB8 := Lib.hid (HB7.out.trans (hbel.mono HB7.out.size))
    have HM8 := Lib.hid (rr_take (rr_below HV.out HB8.out (Nat.le_refl _)) h30)
    clear hbel
    go_wp2_with fail
    refine (puts_any _ _ _ _ _ HM8.out).mono ?_
    rintro e w9 ⟨rfl, hbel⟩
    have HB9 := Lib.hid (HB8.out.trans (hbel.mono HB8.out.size))
    clear hbel
    go_wp2
    go_ret
    exact ⟨rfl, HB9.out⟩
end Go.Proofs.Ythhopfpgnjjpdaa
