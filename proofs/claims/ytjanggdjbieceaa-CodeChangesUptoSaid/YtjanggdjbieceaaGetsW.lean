/-
  CodeGets returns true, and changes nothing that was there, for all bytes and numbers.
-/
import Derived.Test.YtjanggdjbieceaaRowList
import Derived.Test.YtjanggdjbieceaaGets
import Derived.Test.YtjanggdjbieceaaReads
import Derived.Test.YtjanggdjbieceaaBend
import Derived.Test.YtjanggdjbieceaaKnown
namespace Go.Proofs.Ytjanggdjbieceaa
open Go.RowKit Go.Rst

theorem rowOf_len (x y : UInt8) : (rowL (rowOf x y).1.data.toList (rowOf x y).2).length ≤ 200 := by
  have h1 : rlen x y ≤ 150 := by unfold rlen; split <;> omega
  have h2 := numL_len8 (n := rlen x y) (by omega)
  have h3 := numL_len8 (n := 2) (by omega)
  unfold rowOf rowL textL
  simp only [List.length_append, fill_length]
  show (numL 2).length + 2 + _ ≤ 200
  omega
theorem rowsAt_len (l : List UInt8) : ∀ k, (rowsB (rowsAt l k)).length ≤ 200 * k
  | 0 => by simp [rowsAt, rowsB]
  | k + 1 => by
    have ih := rowsAt_len l k
    rw [rowsAt_succ]
    unfold rowsB at ih ⊢
    rw [List.flatMap_append, List.length_append]
    have := rowOf_len (l.getD (2 * k) 0) (l.getD (2 * k + 1) 0)
    simp only [List.flatMap_cons, List.flatMap_nil, List.append_nil]
    omega
theorem rowsAt_length (l : List UInt8) (k : Nat) : (rowsAt l k).length = k := by simp [rowsAt]
/-- The bytes of the rows that choices say. -/
def madeB (l : List UInt8) (n : Nat) : List UInt8 := rowsL (rowsAt l (nrows l n))
theorem nrows_le (l : List UInt8) (n : Nat) : nrows l n ≤ n := by unfold nrows; omega
theorem madeB_len (l : List UInt8) {n : Nat} (hn : n ≤ 100) : (madeB l n).length ≤ 20008 := by
  have h1 := rowsAt_len l (nrows l n)
  have h2 := nrows_le l n
  have h3 := numL_len8 (n := nrows l n) (by omega)
  unfold madeB rowsL
  rw [List.length_append, rowsAt_length]
  omega
theorem rowList_8 (v : Value) (l : List UInt8) (w : World) (hv : RB w v l) (hl : l.length ≤ 140737488351232) :
    Calls Try.prog 20 #[v, .int .i64 8] w (GivesRL w (rowsAt l (nrows l 8))) := rowList_any v l 8 (by decide) w hv hl
theorem refRows_made (v : Value) (l : List UInt8) {n : Nat} (hn : n ≤ 100) (w : World) (hv : RR w v (rowsAt l (nrows l n))) :
    Calls Try.prog 23 #[v] w (NewB 5 w (madeB l n)) := by
  have h1 := rowsAt_len l (nrows l n)
  have h2 := nrows_le l n
  exact refRows_any v _ (by omega) (by rw [rowsAt_length]; omega) w hv
theorem or_shape {e eR : TypeId} {w : World} {base : Nat} {v : Value} {rs : List (ByteArray × List UInt8)} (h : OR e eR w base v rs) : ∃ A c, v = .slice A rs.length c := by
  obtain ⟨A, c, hv, _⟩ := h.rr
  exact ⟨A, c, hv⟩

set_option maxRecDepth 100000 in
set_option maxHeartbeats 2000000 in
theorem gets_walk (vb : Value) (l : List UInt8) (p most : Int) (vc : Value) (c : List UInt8) (k : Nat) (d : UInt8) (h : Nat) (w : World)
    (hb : RB w vb l) (hc : RB w vc c) (hcl : c.length ≤ 140737488351232) (hk : k ≤ 65535) (hh : h ≤ 255) :
    Calls Try.prog 8 #[vb, .int .i64 p, .int .i64 most, vc, .int .u16 k, .int .u8 (d.toNat : Int), .int .u8 h] w fun e w' => e = .returned (.bool true) ∧ Below w.heap.size w w' := by
  have HV := Lib.hid hb
  have HC := Lib.hid hc
  obtain ⟨A, cA, rfl, _, h2, _⟩ := hb
  obtain ⟨A', cA', rfl, _, h2', _⟩ := hc
  simp only [maxLen] at h2 h2'
  have hd := d.toNat_lt
  by_cases hbig : 500 < l.length
  · have hb : (500 : Int) < (l.length : Int) := by omega
    go_enter Try.func8, Try.ntmps8
    go_wp2_with fail
    refine (known_any _).mono ?_
    rintro e w1 ⟨rfl, hb⟩
    have HB := Lib.hid hb
    clear hb
    go_wp2
    go_ret
    exact ⟨rfl, HB.out⟩
  · have hb : ¬ (500 : Int) < (l.length : Int) := by omega
    go_enter Try.func8, Try.ntmps8
    go_wp2_with fail
    refine (known_any _).mono ?_
    rintro e w1 ⟨rfl, hb1⟩
    have HB1 := Lib.hid hb1
    have HC1 := Lib.hid (HC.out.below hb1)
    clear hb1
    go_wp2_with fail
    refine (rowList_8 _ c _ HC1.out hcl).mono ?_
    rintro e w2 ⟨v2, rfl, hor, hb2⟩
    have HB2 := Lib.hid (HB1.out.trans (hb2.mono HB1.out.size))
    have HR2 := Lib.hid hor.rr
    obtain ⟨A2, c2, rfl⟩ := or_shape hor
    clear hor hb2 HB1 HC1
    go_wp2_with fail
    refine (refRows_made _ c (by decide) _ HR2.out).mono ?_
    rintro e w3 ⟨v3, rfl, hown3, hb3⟩
    have HB3 := Lib.hid (HB2.out.trans (hb3.mono HB2.out.size))
    have HO3 := Lib.hid (RB.own hown3)
    have hm := madeB_len c (n := 8) (by decide)
    obtain ⟨A3, c3, rfl, _⟩ := own_shape hown3
    clear hown3 hb3 HB2 HR2
    go_wp2_with fail
    refine (bend_any _ _ (by omega) k h hk hh d _ HO3.out).mono ?_
    rintro e w4 ⟨v4, rfl, hrb4, hb4⟩
    have HB4 := Lib.hid (HB3.out.trans (hb4.mono HB3.out.size))
    have HO4 := Lib.hid hrb4
    obtain ⟨A4, c4, rfl, _⟩ := hrb4
    clear hb4 HB3 HO3
    go_wp2_with fail
    refine (gets_any _ l _ _ _ (HV.out.below HB4.out)).mono ?_
    rintro e w5 ⟨rfl, rfl⟩
    go_wp2_with fail
    refine (gets_any _ _ _ _ _ HO4.out).mono ?_
    rintro e w5 ⟨rfl, rfl⟩
    go_wp2_with fail
    refine (gets_any _ l _ _ _ (HV.out.below HB4.out)).mono ?_
    rintro e w5 ⟨rfl, rfl⟩
    go_wp2_with fail
    refine (reads_any _ _ _ HO4.out).mono ?_
    rintro e w5 ⟨rfl, hb5⟩
    have HB5 := Lib.hid (HB4.out.trans (hb5.mono HB4.out.size))
    clear hb5
    go_wp2
    go_ret
    exact ⟨rfl, HB5.out⟩
theorem byte_of {a : Int} (h0 : 0 ≤ a) (h1 : a ≤ 255) : ∃ d : UInt8, a = (d.toNat : Int) := by
  refine ⟨UInt8.ofNat a.toNat, ?_⟩
  rw [UInt8.toNat_ofNat']
  omega
theorem gets_frame (v : Value) (l : List UInt8) (p most : Int) (u : Value) (c : List UInt8) (k d h : Int) (w : World) (r0 : RB w v l) (_s0 : l.length ≤ 140737488351232) (r3 : RB w u c) (s3 : c.length ≤ 140737488351232)
    (k0 : 0 ≤ k) (k1 : k ≤ 65535) (d0 : 0 ≤ d) (d1 : d ≤ 255) (h0 : 0 ≤ h) (h1 : h ≤ 255) :
    Calls Try.prog 8 #[v, .int .i64 p, .int .i64 most, u, .int .u16 k, .int .u8 d, .int .u8 h] w fun e w' => e = .returned (.bool true) ∧ Below w.heap.size w w' := by
  obtain ⟨k', rfl⟩ := Int.eq_ofNat_of_zero_le k0
  obtain ⟨h', rfl⟩ := Int.eq_ofNat_of_zero_le h0
  obtain ⟨d', rfl⟩ := byte_of d0 d1
  exact gets_walk v l p most u c k' d' h' w r0 r3 s3 (by omega) (by omega)
end Go.Proofs.Ytjanggdjbieceaa
