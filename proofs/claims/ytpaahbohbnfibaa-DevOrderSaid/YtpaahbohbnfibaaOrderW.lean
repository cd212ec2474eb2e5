/-
  DevOrder returns true, and changes nothing that was there, for every four bytes and a bool.
-/
import Derived.Test.YtpaahbohbnfibaaTwo
namespace Go.Proofs.Ytpaahbohbnfibaa
open Go.RowKit Go.Rst Go.Dv
/-- Two writes, and all that is loose firm. -/
def oc (i j : Nat) (v w : UInt8) : Sim := (((Sim.new 8).write i [v]).write j [w]).flush
theorem new_put (i : Nat) (v : UInt8) (h : i < 8) : (Sim.new 8).write i [v] = ⟨(Sim.new 8).firm, [(i, pad [v])], none, 1, 0⟩ := by
  have hh : (Sim.new 8).has i = true := Sim.has_iff.2 ⟨by omega, by rw [new_firm]; omega⟩
  unfold Sim.write
  rw [hh]
  rfl
theorem put_put (i j : Nat) (v w : UInt8) (hi : i < 8) (hj : j < 8) : ((Sim.new 8).write i [v]).write j [w] = ⟨(Sim.new 8).firm, [(i, pad [v]), (j, pad [w])], none, 2, 0⟩ := by
  rw [new_put i v hi]
  have hh : (Sim.mk (Sim.new 8).firm [(i, pad [v])] none 1 0).has j = true := Sim.has_iff.2 ⟨by omega, by show (j : Int) < ((Sim.new 8).firm.length : Int); rw [new_firm]; omega⟩
  unfold Sim.write
  rw [hh]
  rfl
theorem oc_eq (i j : Nat) (v w : UInt8) (hi : i < 8) (hj : j < 8) : oc i j v w = ⟨((Sim.new 8).firm.set i (pad [v])).set j (pad [w]), [], none, 2, 1⟩ := by
  unfold oc
  rw [put_put i j v w hi hj]
  rfl
theorem oc_again (i j : Nat) (v w : UInt8) (hi : i < 8) (hj : j < 8) : (oc i j v w).flush.crash [true] = ⟨((Sim.new 8).firm.set i (pad [v])).set j (pad [w]), [], none, 2, 2⟩ := by
  rw [oc_eq i j v w hi hj]
  rfl
theorem oc_read (i j k : Nat) (v w : UInt8) (hi : i < 8) (hj : j < 8) (hne : i ≠ j) : (oc i j v w).read k = (oc j i w v).read k ∧ ((oc i j v w).flush.crash [true]).read k = (oc j i w v).read k := by
  rw [oc_again i j v w hi hj, oc_eq i j v w hi hj, oc_eq j i w v hj hi]
  have e : ((Sim.new 8).firm.set i (pad [v])).set j (pad [w]) = ((Sim.new 8).firm.set j (pad [w])).set i (pad [v]) := List.set_comm _ _ hne
  rw [e]
  exact ⟨rfl, rfl⟩
theorem oc_len (i j : Nat) (v w : UInt8) (hi : i < 8) (hj : j < 8) : (oc i j v w).firm.length = 8 ∧ ((oc i j v w).flush.crash [true]).firm.length = 8 := by
  rw [oc_again i j v w hi hj, oc_eq i j v w hi hj]
  simp only [List.length_set]
  rw [new_firm]
  exact ⟨rfl, rfl⟩
theorem w_put (i : Nat) (v : UInt8) (h : i < 8) : ((Sim.new 8).write i [v]).nw = 1 ∧ ((Sim.new 8).write i [v]).nf = 0 := by rw [new_put i v h]; exact ⟨rfl, rfl⟩
theorem w_put2 (i j : Nat) (v w : UInt8) (hi : i < 8) (hj : j < 8) : (((Sim.new 8).write i [v]).write j [w]).nw = 2 ∧ (((Sim.new 8).write i [v]).write j [w]).nf = 0 := by rw [put_put i j v w hi hj]; exact ⟨rfl, rfl⟩
theorem w_oc (i j : Nat) (v w : UInt8) (hi : i < 8) (hj : j < 8) : (oc i j v w).nw = 2 ∧ (oc i j v w).nf = 1 ∧ (oc i j v w).flush.nw = 2 := by rw [oc_eq i j v w hi hj]; exact ⟨rfl, rfl, rfl⟩
theorem ub (n : Nat) (h : n ≤ 255) : (n : Int) = ((UInt8.ofNat n).toNat : Int) := by
  rw [UInt8.toNat_ofNat']
  omega
set_option maxRecDepth 100000 in
set_option maxHeartbeats 2000000 in
theorem order_same (a b v w : Nat) (cr : Bool) (W : World) (ha : a ≤ 255) (hb : b ≤ 255) (h : a % 8 = b % 8) :
    Calls Try.prog 3 #[.int .u8 (a : Int), .int .u8 (b : Int), .int .u8 (v : Int), .int .u8 (w : Int), .bool cr] W fun e w' => e = .returned (.bool true) ∧ Below W.heap.size W w' := by
  obtain ⟨i, hi⟩ : ∃ i, i = a % 8 := ⟨_, rfl⟩
  have h1 : (a : Int) % 8 = (i : Int) := by omega
  have h2 : (b : Int) % 8 = (i : Int) := by omega
  have h3 : (i : Int) < 8 := by omega
  have ha0 : (0 : Int) ≤ (a : Int) := by omega
  have hb0 : (0 : Int) ≤ (b : Int) := by omega
  clear hi h
  go_enter Try.func3, Try.ntmps3
  go_wp2_with fail
  go_at_call 10
  refine (known_any _).mono ?_
  rintro e w' ⟨rfl, hb⟩
  have HB := Lib.hid hb
  clear hb
  go_wp2
  go_ret
  exact ⟨rfl, HB.out⟩
set_option maxRecDepth 100000 in
set_option maxHeartbeats 2000000 in
theorem order_walk (a b v w : Nat) (cr : Bool) (W : World) (ha : a ≤ 255) (hb : b ≤ 255) (hv : v ≤ 255) (hw : w ≤ 255) :
    Calls Try.prog 3 #[.int .u8 (a : Int), .int .u8 (b : Int), .int .u8 (v : Int), .int .u8 (w : Int), .bool cr] W fun e w' => e = .returned (.bool true) ∧ Below W.heap.size W w' := by
  by_cases h : a % 8 = b % 8
  · exact order_same a b v w cr W ha hb h
  obtain ⟨i, hi⟩ : ∃ i, i = a % 8 := ⟨_, rfl⟩
  obtain ⟨j, hj⟩ : ∃ j, j = b % 8 := ⟨_, rfl⟩
  have h1 : (a : Int) % 8 = (i : Int) := by omega
  have h2 : (b : Int) % 8 = (j : Int) := by omega
  have hi8 : i < 8 := by omega
  have hj8 : j < 8 := by omega
  have hne : i ≠ j := by omega
  have hd : ((i : Int) == (j : Int)) = false := by simp; omega
  have ha0 : (0 : Int) ≤ (a : Int) := by omega
  have hb0 : (0 : Int) ≤ (b : Int) := by omega
  have HN := Lib.hid hne
  clear hi hj h hne
  obtain ⟨x, hx⟩ : ∃ x : UInt8, x = UInt8.ofNat v := ⟨_, rfl⟩
  obtain ⟨z, hz⟩ : ∃ z : UInt8, z = UInt8.ofNat w := ⟨_, rfl⟩
  rw [ub v hv, ub w hw, ← hx, ← hz]
  clear hx hz
  have HP := Lib.hid (w_put i x hi8)
  have HP2 := Lib.hid (w_put2 i j x z hi8 hj8)
  have HQ := Lib.hid (w_put j z hj8)
  have HQ2 := Lib.hid (w_put2 j i z x hj8 hi8)
  have HOC := Lib.hid (w_oc i j x z hi8 hj8)
  go_enter Try.func3, Try.ntmps3
  go_wp2_with fail
  go_at_call 11
  refine (own_new 8 W (by decide) (Nat.le_refl _)).mono ?_
  rintro e w1 ⟨gc, rfl, ho, hb⟩
  have HO1 := Lib.hid ho
  have HB1 := Lib.hid hb
  clear ho hb
  go_wp2_with fail
  go_at_call 11
  refine (two_new 8 HO1.out (by decide)).mono ?_
  rintro e w2 ⟨gd, rfl, ho, hb⟩
  have HO2 := Lib.hid ho
  have HB2 := Lib.hid (HB1.out.trans (hb.mono HB1.out.size))
  clear ho hb
  go_wp2_with fail
  go_at_call 12
  refine (two_write (i : Int) _ [x] HO2.out ((Below.refl _ _).alloc (Nat.le_refl _) _) (RB.lit w2 5 (0, 0) [x] _ rfl 1 rfl (by decide)) (fun _ q hq => .inr (by simp [Value.ownBlock] at hq; omega)) (by show 0 < 299; decide) (by show 0 < 299; decide)).mono ?_
  rintro e w3 ⟨rfl, ho, hb⟩
  have HO3 := Lib.hid (ho)
  have HB3 := Lib.hid ((HB2.out.alloc HB2.out.size _).trans (hb))
  clear ho hb
  go_wp2_with fail
  go_at_call 12
  refine (two_write (j : Int) _ [z] HO3.out ((Below.refl _ _).alloc (Nat.le_refl _) _) (RB.lit w3 5 (0, 0) [z] _ rfl 1 rfl (by decide)) (fun _ q hq => .inr (by simp [Value.ownBlock] at hq; omega)) (by rw [HP.out.1]; decide) (by rw [HP.out.2]; decide)).mono ?_
  rintro e w4 ⟨rfl, ho, hb⟩
  have HO4 := Lib.hid (ho)
  have HB4 := Lib.hid ((HB3.out.alloc HB3.out.size _).trans (hb))
  clear ho hb
  go_wp2_with fail
  go_at_call 12
  refine (two_write (j : Int) _ [z] HO4.out.swap ((Below.refl _ _).alloc (Nat.le_refl _) _) (RB.lit w4 5 (0, 0) [z] _ rfl 1 rfl (by decide)) (fun _ q hq => .inr (by simp [Value.ownBlock] at hq; omega)) (by show 0 < 299; decide) (by show 0 < 299; decide)).mono ?_
  rintro e w5 ⟨rfl, ho, hb⟩
  have HO5 := Lib.hid (ho.swap)
  have HB5 := Lib.hid ((HB4.out.alloc HB4.out.size _).trans (hb))
  clear ho hb
  go_wp2_with fail
  go_at_call 12
  refine (two_write (i : Int) _ [x] HO5.out.swap ((Below.refl _ _).alloc (Nat.le_refl _) _) (RB.lit w5 5 (0, 0) [x] _ rfl 1 rfl (by decide)) (fun _ q hq => .inr (by simp [Value.ownBlock] at hq; omega)) (by rw [HQ.out.1]; decide) (by rw [HQ.out.2]; decide)).mono ?_
  rintro e w6 ⟨rfl, ho, hb⟩
  have HO6 := Lib.hid (ho.swap)
  have HB6 := Lib.hid ((HB5.out.alloc HB5.out.size _).trans (hb))
  clear ho hb
  go_wp2_with fail
  go_at_call 13
  refine (two_flush HO6.out (by rw [HP2.out.1]; decide) (by rw [HP2.out.2]; decide)).mono ?_
  rintro e w7 ⟨rfl, ho, hb⟩
  have HO7 := Lib.hid ho
  have HB7 := Lib.hid (HB6.out.trans hb)
  clear ho hb
  go_wp2_with fail
  go_at_call 13
  refine (two_flush HO7.out.swap (by rw [HQ2.out.1]; decide) (by rw [HQ2.out.2]; decide)).mono ?_
  rintro e w8 ⟨rfl, ho, hb⟩
  have HO8 := Lib.hid (show Two W.heap.size w8 (.pointer (some ⟨gc, 0, none⟩)) (oc i j x z) (.pointer (some ⟨gd, 0, none⟩)) (oc j i z x) from ho.swap)
  have HB8 := Lib.hid (HB7.out.trans hb)
  clear ho hb
  have HL2 := Lib.hid (oc_len j i z x hj8 hi8)
  have HL1 := Lib.hid (oc_len i j x z hi8 hj8)
  have HW2 := Lib.hid (w_oc j i z x hj8 hi8)
  cases cr with
  | false =>
    go_wp2_with fail
    go_wp2
    go_loopw [15, 16, 17, 18, 19] (fun k _ _ _ _ wr => ∃ m : Nat, m ≤ 8 ∧ k = .int .i64 m ∧ Below w8.heap.size w8 wr) (fun k _ _ _ _ _ => 8 - (intOf k).toNat)
    case atStart => exact ⟨0, by omega, rfl, Below.refl _ _⟩
    case round =>
      obtain ⟨m, hm, rfl, hbel⟩ := hrel
      by_cases hlt : m < 8
      · have HOr := Lib.hid (HO8.out.below hbel)
        have HBr := Lib.hid hbel
        have HRd := Lib.hid ((oc_read i j m x z hi8 hj8 HN.out).1)
        have hm1 : (m : Int) < 8 := by omega
        clear hbel
        go_wp2_with fail
        go_at_call 15
        refine (own_read m HOr.out.own (by rw [HL1.out.1]; exact hlt) (by rw [HOC.out.1]; decide)).mono ?_
        rintro e r1 ⟨u1, rfl, hr1, _, hb1⟩
        have HR1 := Lib.hid hr1
        have HOr1 := Lib.hid (HOr.out.below hb1)
        have HBr1 := Lib.hid (HBr.out.trans (hb1.mono HBr.out.size))
        clear hr1 hb1
        go_wp2_with fail
        go_at_call 15
        refine (own_read m HOr1.out.swap.own (by rw [HL2.out.1]; exact hlt) (by rw [HW2.out.1]; decide)).mono ?_
        rintro e r2 ⟨u2, rfl, hr2, _, hb2⟩
        have hs2 := str28 hr2
        have hs1 := str28 (HR1.out.below hb2)
        rw [HRd.out] at hs1
        have HBr2 := Lib.hid (HBr1.out.trans (hb2.mono HBr1.out.size))
        clear hr2 hb2
        go_wp2
        go_roundw
        case rel => exact ⟨m + 1, by omega, by go_num, HBr2.out⟩
        case measure => simp [intOf]; omega
      · have HBr := Lib.hid hbel
        have hm2 : ¬ (m : Int) < 8 := by omega
        clear hbel
        go_wp2_with fail
        go_at_call 10
        refine (known_any _).mono ?_
        rintro e wK ⟨rfl, hb⟩
        have HBk := Lib.hid hb
        clear hb
        go_wp2
        go_ret
        exact ⟨rfl, (HB8.out.trans (HBr.out.mono HB8.out.size)).trans (HBk.out.mono (Nat.le_trans HB8.out.size HBr.out.size))⟩
  | true =>
    go_wp2_with fail
    go_at_call 13
    refine (two_flush HO8.out (by rw [HOC.out.1]; decide) (by rw [HOC.out.2.1]; decide)).mono ?_
    rintro e w9 ⟨rfl, ho, hb⟩
    have HO9 := Lib.hid ho
    have HB9 := Lib.hid (HB8.out.trans hb)
    clear ho hb
    go_wp2_with fail
    go_at_call 14
    refine (two_crash _ [true] HO9.out ((Below.refl _ _).alloc (Nat.le_refl _) _) ⟨_, _, rfl, .inr ⟨w9.heap.size, 0, rfl, by simp, fun hk => by omega, fun q hq => by
      have : q = 0 := by simpa using hq
      subst this
      rw [cell_of_row _ w9.heap.size 0 _ 4 (0, 0) (heap_alloc_new w9 _)]
      rfl⟩⟩ (by rw [HOC.out.2.2]; decide)).mono ?_
    rintro e wA ⟨rfl, ho, hb⟩
    have HOA := Lib.hid ho
    have HBA := Lib.hid ((HB9.out.alloc HB9.out.size _).trans hb)
    clear ho hb
    go_wp2
    go_loopw [15, 16, 17, 18, 19] (fun k _ _ _ _ wr => ∃ m : Nat, m ≤ 8 ∧ k = .int .i64 m ∧ Below wA.heap.size wA wr) (fun k _ _ _ _ _ => 8 - (intOf k).toNat)
    case atStart => exact ⟨0, by omega, rfl, Below.refl _ _⟩
    case round =>
      obtain ⟨m, hm, rfl, hbel⟩ := hrel
      by_cases hlt : m < 8
      · have HOr := Lib.hid (HOA.out.below hbel)
        have HBr := Lib.hid hbel
        have HRd := Lib.hid ((oc_read i j m x z hi8 hj8 HN.out).2)
        have hm1 : (m : Int) < 8 := by omega
        clear hbel
        go_wp2_with fail
        go_at_call 15
        refine (own_read m HOr.out.own (by rw [HL1.out.2]; exact hlt) (by show (oc i j x z).flush.nw ≤ 100000; rw [HOC.out.2.2]; decide)).mono ?_
        rintro e r1 ⟨u1, rfl, hr1, _, hb1⟩
        have HR1 := Lib.hid hr1
        have HOr1 := Lib.hid (HOr.out.below hb1)
        have HBr1 := Lib.hid (HBr.out.trans (hb1.mono HBr.out.size))
        clear hr1 hb1
        go_wp2_with fail
        go_at_call 15
        refine (own_read m HOr1.out.swap.own (by rw [HL2.out.1]; exact hlt) (by rw [HW2.out.1]; decide)).mono ?_
        rintro e r2 ⟨u2, rfl, hr2, _, hb2⟩
        have hs2 := str28 hr2
        have hs1 := str28 (HR1.out.below hb2)
        rw [HRd.out] at hs1
        have HBr2 := Lib.hid (HBr1.out.trans (hb2.mono HBr1.out.size))
        clear hr2 hb2
        go_wp2
        go_roundw
        case rel => exact ⟨m + 1, by omega, by go_num, HBr2.out⟩
        case measure => simp [intOf]; omega
      · have HBr := Lib.hid hbel
        have hm2 : ¬ (m : Int) < 8 := by omega
        clear hbel
        go_wp2_with fail
        go_at_call 10
        refine (known_any _).mono ?_
        rintro e wK ⟨rfl, hb⟩
        have HBk := Lib.hid hb
        clear hb
        go_wp2
        go_ret
        exact ⟨rfl, (HBA.out.trans (HBr.out.mono HBA.out.size)).trans (HBk.out.mono (Nat.le_trans HBA.out.size HBr.out.size))⟩
end Go.Proofs.Ytpaahbohbnfibaa
