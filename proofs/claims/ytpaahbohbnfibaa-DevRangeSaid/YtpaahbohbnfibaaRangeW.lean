/-
  DevRange returns true, and changes nothing that was there, for every two bytes and every number.
-/
import Derived.Test.YtpaahbohbnfibaaOwn
import Derived.OwnWalk
namespace Go.Proofs.Ytpaahbohbnfibaa
open Go.RowKit Go.Rst Go.Dv
theorem made_bytes (n : Nat) : (madeCells #[Value.int .u8 0] n).toList = bvs (List.replicate n 0) := by
  rw [toList_madeCells_one]
  simp [bvs, bv]
theorem RB.made {w : World} {base g n : Nat} {l : List UInt8} (h : w.ownsRow base 5 1 (.slice (some ⟨g, 0, none⟩) n n) n (bvs l)) (hl : l.length = n) (hn : n ≤ 100000) : RB w (.slice (some ⟨g, 0, none⟩) n n) l := by
  subst hl
  refine ⟨_, l.length, rfl, Nat.le_refl _, by unfold maxLen; omega, .inr ⟨g, 0, rfl, (h.lt g rfl).2, fun j hj => ?_⟩⟩
  rw [Nat.zero_add, h.cellAt j (by omega), bvs_get hj]
theorem ord_self (n : Nat) (h : n < 300) : (FloatKind.f64.format.order (fb n) (fb n) == some Ordering.eq) = true := fb_order n h
theorem ord0 : (FloatKind.f64.format.order 0 0 == some Ordering.eq) = true := by have := fb_order 0 (by decide); rw [fb_zero] at this; exact this
theorem ord1 : (FloatKind.f64.format.order 4607182418800017408 4607182418800017408 == some Ordering.eq) = true := by have := fb_order 1 (by decide); rw [fb_one] at this; exact this
theorem ord0' : FloatKind.f64.format.order 0 0 = some Ordering.eq := by simpa using ord0
theorem ord1' : FloatKind.f64.format.order 4607182418800017408 4607182418800017408 = some Ordering.eq := by simpa using ord1
set_option maxRecDepth 100000 in
set_option maxHeartbeats 1000000 in
theorem range_yes (n k m : Nat) (w : World) (hn : n ≤ 255) (hm : m ≤ 255) (hk : k < n % 20) :
    Calls Try.prog 9 #[.int .u8 (n : Int), .int .i64 (k : Int), .int .u8 (m : Int)] w fun e w' => e = .returned (.bool true) ∧ Below w.heap.size w w' := by
  obtain ⟨i5, hi5, hz5, hs5, hb5⟩ := info_parts info5
  have HI5 := Lib.hid hi5
  have HZ5 := Lib.hid hz5
  have HS5 := Lib.hid hs5
  have HB5 := Lib.hid (show i5.bytes * (65 + m) ≤ 281474976710656 by rw [hb5]; omega)
  have HM5 := Lib.hid (show 65 + m ≤ maxLen by unfold maxLen; omega)
  clear hi5 hz5 hs5 hb5
  have hn0 : (0 : Int) ≤ (n : Int) := by omega
  have hm0 : (0 : Int) ≤ (m : Int) := by omega
  have hm1 : (m : Int) ≤ 255 := by omega
  have hN : ((n : Int) % 20) = ((n % 20 : Nat) : Int) := by omega
  obtain ⟨N, hNN⟩ : ∃ N, N = n % 20 := ⟨_, rfl⟩
  rw [← hNN] at hN
  have hN20 : N < 20 := by omega
  have HMM := Lib.hid (show (65 : Int) + (m : Int) = ((65 + m : Nat) : Int) by omega)
  rw [← hNN] at hk
  clear hNN
  have hi : (0 : Int) ≤ (k : Int) := by omega
  have hi2 : (k : Int) < (N : Int) := by omega
  have hh : (Sim.new N).has k = true := Sim.has_iff.2 ⟨hi, by rw [new_firm]; exact hi2⟩
  have HE1 := Lib.hid (show ∀ l : List UInt8, 64 < l.length → (Sim.new N).write k l = Sim.new N ∧ (Sim.new N).wrote k l = 3 from fun l hl => ⟨by simp [Sim.write, show ¬ l.length ≤ 64 by omega], by simp [Sim.wrote, hh, hl]⟩)
  have HE2 := Lib.hid (show (Sim.new N).wrote k [] = 0 by simp [Sim.wrote, hh])
  have hg : (Sim.new N).goes = true := rfl
  have HE3 := Lib.hid (show (Sim.new N).write k [] = (Sim.new N).put k [] by unfold Sim.write; rw [hh, hg]; simp)
  have HE4 := Lib.hid (show ((Sim.new N).put k []).can k 3 = true by
    have : ((Sim.new N).put k []).has k = true := hh
    simp [Sim.can, this])
  have hsp : ((Sim.new N).put k []).spoil k 3 1 = { (Sim.new N).put k [] with firm := (Sim.new N).firm.set k (((Sim.new N).firm.getD k []).set 3 1) } := by
    unfold Sim.spoil; rw [HE4.out]; rfl
  have HT1 := Lib.hid (show fb (((Sim.new N).put k []).spoil k 3 1).nw = 4607182418800017408 by rw [hsp]; exact fb_one)
  have HT2 := Lib.hid (show fb (((Sim.new N).put k []).spoil k 3 1).nf = 0 by rw [hsp]; exact fb_zero)
  have HT3 := Lib.hid (show (((Sim.new N).put k []).spoil k 3 1).loose.length = 1 by rw [hsp]; rfl)
  have HT0 := Lib.hid (show (((Sim.new N).put k []).spoil k 3 1).nw = 1 by rw [hsp]; rfl)
  have HK := Lib.hid (show k < (Sim.new N).firm.length by rw [new_firm]; exact hk)
  clear hh hg hsp
  go_enter Try.func9, Try.ntmps9
  go_wp2_with fail
  rw [hN]
  go_at_call 11
  refine (own_new N w (by omega) (Nat.le_refl _)).mono ?_
  rintro e w1 ⟨g, rfl, ho, hb⟩
  have HO1 := Lib.hid ho
  have HB1 := Lib.hid hb
  clear ho hb
  go_wp2_with fail
  go_at_call 15
  refine (own_read k HO1.out HK.out (by show 0 ≤ 100000; decide)).mono ?_
  rintro e w2 ⟨u, rfl, _, _, hb⟩
  have HO2 := Lib.hid (HO1.out.below hb)
  have HB2 := Lib.hid (HB1.out.trans (hb.mono HB1.out.size))
  clear hb
  go_wp2_with (refine wpList_make_full _ rfl (.tmp 39) (.tmp 39) 28 rfl 0 5 i5 (.int .u8 0) 1 Try.underlying28 HI5.out HZ5.out HS5.out .i64 .i64 _ _ (65 + m) rfl rfl HMM.out HMM.out HB5.out HM5.out (Nat.zero_le _) ?_)
  intro w3 hown hgrow
  rw [made_bytes] at hown
  have HRB := Lib.hid (RB.made hown (by simp) (by omega))
  have HBm := Lib.hid (show Below w2.heap.size w2 w3 from (Below.refl _ _).grown hgrow (Nat.le_refl _) (fun k hk => by cases hk))
  clear hown hgrow
  go_wp2_with fail
  go_at_call 12
  refine (own_write (k : Int) _ _ HO2.out HBm.out HRB.out (fun _ j hj => .inr (by simp [Value.ownBlock] at hj; omega)) (by show 0 < 299; decide) (by show 0 < 299; decide)).mono ?_
  rintro e w4 ⟨rfl, ho, hb⟩
  rw [(HE1.out _ (by simp; omega)).2]
  rw [(HE1.out _ (by simp; omega)).1] at ho
  have HO4 := Lib.hid ho
  have HB4 := Lib.hid ((HB2.out.trans (HBm.out.mono HB2.out.size)).trans hb)
  clear ho hb
  go_wp2_with fail
  go_at_call 12
  refine (own_write (k : Int) _ [] HO4.out (Below.refl _ _) (RB.nil_ _) (fun _ j hj => by simp [Value.ownBlock] at hj) (by show 0 < 299; decide) (by show 0 < 299; decide)).mono ?_
  rintro e w5 ⟨rfl, ho, hb⟩
  rw [HE2.out]
  rw [HE3.out] at ho
  have HO5 := Lib.hid ho
  have HB5' := Lib.hid (HB4.out.trans hb)
  clear ho hb
  go_wp2_with fail
  go_at_call 24
  refine (own_spoil (k : Int) 3 1 HO5.out).mono ?_
  rintro e w6 ⟨rfl, ho, hb⟩
  rw [HE4.out]
  have HO6 := Lib.hid ho
  have HB6 := Lib.hid (HB5'.out.trans hb)
  clear ho hb
  go_wp2_with fail
  go_at_call 10
  refine (known_any _).mono ?_
  rintro e w7 ⟨rfl, hb⟩
  have HO7 := Lib.hid (HO6.out.below hb)
  have HB7 := Lib.hid (HB6.out.trans (hb.mono HB6.out.size))
  clear hb
  go_wp2_with fail
  go_at_call 25
  refine (own_traffic HO7.out).mono ?_
  rintro e w8 ⟨rfl, rfl⟩
  rw [HT1.out, HT2.out]
  have o0 := ord0'
  have o1 := ord1'
  go_wp2_with fail
  go_at_call 22
  refine (own_loose HO7.out (by rw [HT0.out]; decide)).mono ?_
  rintro e w8 ⟨A, c, rfl, hb⟩
  rw [HT3.out]
  have HB8 := Lib.hid (HB7.out.trans (hb.mono HB7.out.size))
  clear hb
  go_wp2
  go_ret
  exact ⟨rfl, HB8.out⟩
set_option maxRecDepth 100000 in
set_option maxHeartbeats 1000000 in
theorem range_neg (n : Nat) (i : Int) (m : Nat) (w : World) (hn : n ≤ 255) (hm : m ≤ 255) (hi : i < 0) :
    Calls Try.prog 9 #[.int .u8 (n : Int), .int .i64 i, .int .u8 (m : Int)] w fun e w' => e = .returned (.bool true) ∧ Below w.heap.size w w' := by
  obtain ⟨i5, hi5, hz5, hs5, hb5⟩ := info_parts info5
  have HI5 := Lib.hid hi5
  have HZ5 := Lib.hid hz5
  have HS5 := Lib.hid hs5
  have HB5 := Lib.hid (show i5.bytes * (65 + m) ≤ 281474976710656 by rw [hb5]; omega)
  have HM5 := Lib.hid (show 65 + m ≤ maxLen by unfold maxLen; omega)
  clear hi5 hz5 hs5 hb5
  have hn0 : (0 : Int) ≤ (n : Int) := by omega
  have hm0 : (0 : Int) ≤ (m : Int) := by omega
  have hm1 : (m : Int) ≤ 255 := by omega
  have hN : ((n : Int) % 20) = ((n % 20 : Nat) : Int) := by omega
  obtain ⟨N, hNN⟩ : ∃ N, N = n % 20 := ⟨_, rfl⟩
  rw [← hNN] at hN
  have hN20 : N < 20 := by omega
  have HMM := Lib.hid (show (65 : Int) + (m : Int) = ((65 + m : Nat) : Int) by omega)
  clear hNN
  have hh : (Sim.new N).has i = false := by
    cases e : (Sim.new N).has i with
    | false => rfl
    | true => have := Sim.has_iff.1 e; rw [new_firm] at this; omega
  have HE1 := Lib.hid (show ∀ l : List UInt8, 64 < l.length → (Sim.new N).write i l = Sim.new N ∧ (Sim.new N).wrote i l = 20 from fun l hl => ⟨by simp [Sim.write, hh], by simp [Sim.wrote, hh]⟩)
  have HE2 := Lib.hid (show (Sim.new N).wrote i [] = 20 by simp [Sim.wrote, hh])
  have HE3 := Lib.hid (show (Sim.new N).write i [] = Sim.new N by simp [Sim.write, hh])
  have HE4 := Lib.hid (show (Sim.new N).can i 3 = false by simp [Sim.can, hh])
  have hsp : (Sim.new N).spoil i 3 1 = Sim.new N := by unfold Sim.spoil; rw [HE4.out]; rfl
  have HT1 := Lib.hid (show fb ((Sim.new N).spoil i 3 1).nw = 0 by rw [hsp]; exact fb_zero)
  have HT2 := Lib.hid (show fb ((Sim.new N).spoil i 3 1).nf = 0 by rw [hsp]; exact fb_zero)
  have HT3 := Lib.hid (show ((Sim.new N).spoil i 3 1).loose.length = 0 by rw [hsp]; rfl)
  have HT0 := Lib.hid (show ((Sim.new N).spoil i 3 1).nw = 0 by rw [hsp]; rfl)
  have HH := Lib.hid hh
  clear hh hsp
  go_enter Try.func9, Try.ntmps9
  go_wp2_with fail
  rw [hN]
  go_at_call 11
  refine (own_new N w (by omega) (Nat.le_refl _)).mono ?_
  rintro e w1 ⟨g, rfl, ho, hb⟩
  have HO1 := Lib.hid ho
  have HB1 := Lib.hid hb
  clear ho hb
  go_wp2_with fail
  go_at_call 15
  refine (own_read_no i HO1.out HH.out).mono ?_
  rintro e w2 ⟨rfl, rfl⟩
  obtain ⟨w2, hw2⟩ : ∃ w2, w2 = w1 := ⟨_, rfl⟩
  rw [← hw2] at HO1 HB1 ⊢
  have HO2 := HO1
  have HB2 := HB1
  clear hw2
  go_wp2_with (refine wpList_make_full _ rfl (.tmp 39) (.tmp 39) 28 rfl 0 5 i5 (.int .u8 0) 1 Try.underlying28 HI5.out HZ5.out HS5.out .i64 .i64 _ _ (65 + m) rfl rfl HMM.out HMM.out HB5.out HM5.out (Nat.zero_le _) ?_)
  intro w3 hown hgrow
  rw [made_bytes] at hown
  have HRB := Lib.hid (RB.made hown (by simp) (by omega))
  have HBm := Lib.hid (show Below w2.heap.size w2 w3 from (Below.refl _ _).grown hgrow (Nat.le_refl _) (fun k hk => by cases hk))
  clear hown hgrow
  go_wp2_with fail
  go_at_call 12
  refine (own_write i _ _ HO2.out HBm.out HRB.out (fun _ j hj => .inr (by simp [Value.ownBlock] at hj; omega)) (by show 0 < 299; decide) (by show 0 < 299; decide)).mono ?_
  rintro e w4 ⟨rfl, ho, hb⟩
  rw [(HE1.out _ (by simp; omega)).2]
  rw [(HE1.out _ (by simp; omega)).1] at ho
  have HO4 := Lib.hid ho
  have HB4 := Lib.hid ((HB2.out.trans (HBm.out.mono HB2.out.size)).trans hb)
  clear ho hb
  go_wp2_with fail
  go_at_call 12
  refine (own_write i _ [] HO4.out (Below.refl _ _) (RB.nil_ _) (fun _ j hj => by simp [Value.ownBlock] at hj) (by show 0 < 299; decide) (by show 0 < 299; decide)).mono ?_
  rintro e w5 ⟨rfl, ho, hb⟩
  rw [HE2.out]
  rw [HE3.out] at ho
  have HO5 := Lib.hid ho
  have HB5' := Lib.hid (HB4.out.trans hb)
  clear ho hb
  go_wp2_with fail
  go_at_call 24
  refine (own_spoil i 3 1 HO5.out).mono ?_
  rintro e w6 ⟨rfl, ho, hb⟩
  rw [HE4.out]
  have HO6 := Lib.hid ho
  have HB6 := Lib.hid (HB5'.out.trans hb)
  clear ho hb
  go_wp2_with fail
  go_at_call 10
  refine (known_any _).mono ?_
  rintro e w7 ⟨rfl, hb⟩
  have HO7 := Lib.hid (HO6.out.below hb)
  have HB7 := Lib.hid (HB6.out.trans (hb.mono HB6.out.size))
  clear hb
  go_wp2_with fail
  go_at_call 25
  refine (own_traffic HO7.out).mono ?_
  rintro e w8 ⟨rfl, rfl⟩
  rw [HT1.out, HT2.out]
  have o0 := ord0'
  have o1 := ord1'
  go_wp2_with fail
  go_at_call 22
  refine (own_loose HO7.out (by rw [HT0.out]; decide)).mono ?_
  rintro e w8 ⟨A, c, rfl, hb⟩
  rw [HT3.out]
  have HB8 := Lib.hid (HB7.out.trans (hb.mono HB7.out.size))
  clear hb
  go_wp2
  go_ret
  exact ⟨rfl, HB8.out⟩
set_option maxRecDepth 100000 in
set_option maxHeartbeats 1000000 in
theorem range_far (n : Nat) (i : Int) (m : Nat) (w : World) (hn : n ≤ 255) (hm : m ≤ 255) (hi : 0 ≤ i ∧ ((n % 20 : Nat) : Int) ≤ i) :
    Calls Try.prog 9 #[.int .u8 (n : Int), .int .i64 i, .int .u8 (m : Int)] w fun e w' => e = .returned (.bool true) ∧ Below w.heap.size w w' := by
  obtain ⟨i5, hi5, hz5, hs5, hb5⟩ := info_parts info5
  have HI5 := Lib.hid hi5
  have HZ5 := Lib.hid hz5
  have HS5 := Lib.hid hs5
  have HB5 := Lib.hid (show i5.bytes * (65 + m) ≤ 281474976710656 by rw [hb5]; omega)
  have HM5 := Lib.hid (show 65 + m ≤ maxLen by unfold maxLen; omega)
  clear hi5 hz5 hs5 hb5
  have hn0 : (0 : Int) ≤ (n : Int) := by omega
  have hm0 : (0 : Int) ≤ (m : Int) := by omega
  have hm1 : (m : Int) ≤ 255 := by omega
  have hN : ((n : Int) % 20) = ((n % 20 : Nat) : Int) := by omega
  obtain ⟨N, hNN⟩ : ∃ N, N = n % 20 := ⟨_, rfl⟩
  rw [← hNN] at hN
  have hN20 : N < 20 := by omega
  have HMM := Lib.hid (show (65 : Int) + (m : Int) = ((65 + m : Nat) : Int) by omega)
  rw [← hNN] at hi
  have hdd : decide (i < (N : Int)) = false := by simp; omega
  clear hNN
  obtain ⟨hi1, hi⟩ := hi
  have hh : (Sim.new N).has i = false := by
    cases e : (Sim.new N).has i with
    | false => rfl
    | true => have := Sim.has_iff.1 e; rw [new_firm] at this; omega
  have HE1 := Lib.hid (show ∀ l : List UInt8, 64 < l.length → (Sim.new N).write i l = Sim.new N ∧ (Sim.new N).wrote i l = 20 from fun l hl => ⟨by simp [Sim.write, hh], by simp [Sim.wrote, hh]⟩)
  have HE2 := Lib.hid (show (Sim.new N).wrote i [] = 20 by simp [Sim.wrote, hh])
  have HE3 := Lib.hid (show (Sim.new N).write i [] = Sim.new N by simp [Sim.write, hh])
  have HE4 := Lib.hid (show (Sim.new N).can i 3 = false by simp [Sim.can, hh])
  have hsp : (Sim.new N).spoil i 3 1 = Sim.new N := by unfold Sim.spoil; rw [HE4.out]; rfl
  have HT1 := Lib.hid (show fb ((Sim.new N).spoil i 3 1).nw = 0 by rw [hsp]; exact fb_zero)
  have HT2 := Lib.hid (show fb ((Sim.new N).spoil i 3 1).nf = 0 by rw [hsp]; exact fb_zero)
  have HT3 := Lib.hid (show ((Sim.new N).spoil i 3 1).loose.length = 0 by rw [hsp]; rfl)
  have HT0 := Lib.hid (show ((Sim.new N).spoil i 3 1).nw = 0 by rw [hsp]; rfl)
  have HH := Lib.hid hh
  clear hh hsp
  go_enter Try.func9, Try.ntmps9
  go_wp2_with fail
  rw [hN]
  go_at_call 11
  refine (own_new N w (by omega) (Nat.le_refl _)).mono ?_
  rintro e w1 ⟨g, rfl, ho, hb⟩
  have HO1 := Lib.hid ho
  have HB1 := Lib.hid hb
  clear ho hb
  go_wp2_with fail
  go_at_call 15
  refine (own_read_no i HO1.out HH.out).mono ?_
  rintro e w2 ⟨rfl, rfl⟩
  obtain ⟨w2, hw2⟩ : ∃ w2, w2 = w1 := ⟨_, rfl⟩
  rw [← hw2] at HO1 HB1 ⊢
  have HO2 := HO1
  have HB2 := HB1
  clear hw2
  go_wp2_with (refine wpList_make_full _ rfl (.tmp 39) (.tmp 39) 28 rfl 0 5 i5 (.int .u8 0) 1 Try.underlying28 HI5.out HZ5.out HS5.out .i64 .i64 _ _ (65 + m) rfl rfl HMM.out HMM.out HB5.out HM5.out (Nat.zero_le _) ?_)
  intro w3 hown hgrow
  rw [made_bytes] at hown
  have HRB := Lib.hid (RB.made hown (by simp) (by omega))
  have HBm := Lib.hid (show Below w2.heap.size w2 w3 from (Below.refl _ _).grown hgrow (Nat.le_refl _) (fun k hk => by cases hk))
  clear hown hgrow
  go_wp2_with fail
  go_at_call 12
  refine (own_write i _ _ HO2.out HBm.out HRB.out (fun _ j hj => .inr (by simp [Value.ownBlock] at hj; omega)) (by show 0 < 299; decide) (by show 0 < 299; decide)).mono ?_
  rintro e w4 ⟨rfl, ho, hb⟩
  rw [(HE1.out _ (by simp; omega)).2]
  rw [(HE1.out _ (by simp; omega)).1] at ho
  have HO4 := Lib.hid ho
  have HB4 := Lib.hid ((HB2.out.trans (HBm.out.mono HB2.out.size)).trans hb)
  clear ho hb
  go_wp2_with fail
  go_at_call 12
  refine (own_write i _ [] HO4.out (Below.refl _ _) (RB.nil_ _) (fun _ j hj => by simp [Value.ownBlock] at hj) (by show 0 < 299; decide) (by show 0 < 299; decide)).mono ?_
  rintro e w5 ⟨rfl, ho, hb⟩
  rw [HE2.out]
  rw [HE3.out] at ho
  have HO5 := Lib.hid ho
  have HB5' := Lib.hid (HB4.out.trans hb)
  clear ho hb
  go_wp2_with fail
  go_at_call 24
  refine (own_spoil i 3 1 HO5.out).mono ?_
  rintro e w6 ⟨rfl, ho, hb⟩
  rw [HE4.out]
  have HO6 := Lib.hid ho
  have HB6 := Lib.hid (HB5'.out.trans hb)
  clear ho hb
  go_wp2_with fail
  go_at_call 10
  refine (known_any _).mono ?_
  rintro e w7 ⟨rfl, hb⟩
  have HO7 := Lib.hid (HO6.out.below hb)
  have HB7 := Lib.hid (HB6.out.trans (hb.mono HB6.out.size))
  clear hb
  go_wp2_with fail
  go_at_call 25
  refine (own_traffic HO7.out).mono ?_
  rintro e w8 ⟨rfl, rfl⟩
  rw [HT1.out, HT2.out]
  have o0 := ord0'
  have o1 := ord1'
  go_wp2_with fail
  go_at_call 22
  refine (own_loose HO7.out (by rw [HT0.out]; decide)).mono ?_
  rintro e w8 ⟨A, c, rfl, hb⟩
  rw [HT3.out]
  have HB8 := Lib.hid (HB7.out.trans (hb.mono HB7.out.size))
  clear hb
  go_wp2
  go_ret
  exact ⟨rfl, HB8.out⟩
theorem range_walk (n : Nat) (i : Int) (m : Nat) (w : World) (hn : n ≤ 255) (_ : (Lit.int .i64 i).wf = true) (hm : m ≤ 255) :
    Calls Try.prog 9 #[.int .u8 (n : Int), .int .i64 i, .int .u8 (m : Int)] w fun e w' => e = .returned (.bool true) ∧ Below w.heap.size w w' := by
  by_cases h0 : i < 0
  · exact range_neg n i m w hn hm h0
  · by_cases h1 : ((n % 20 : Nat) : Int) ≤ i
    · exact range_far n i m w hn hm ⟨by omega, h1⟩
    · obtain ⟨k, rfl⟩ : ∃ k : Nat, i = (k : Int) := ⟨i.toNat, by omega⟩
      exact range_yes n k m w hn hm (by omega)
end Go.Proofs.Ytpaahbohbnfibaa
