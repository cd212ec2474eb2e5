/-
  CrcBurst returns true, and changes nothing that was there, for every slice of bytes, place and bits.
-/
import Derived.Test.YtloklbjaabbgcaaKnown
import Derived.Test.YtloklbjaabbgcaaBurstM
namespace Go.Proofs.Ytloklbjaabbgcaa
open Go.RowKit Go.Rst Go.Crc

/-- Bytes at the head of a block of their own, which may be written. -/
def Head (w : World) (g n : Nat) (l : List UInt8) : Prop := ∃ cur, Blk w g 5 cur ∧ n ≤ cur.size ∧ cur.toList.take n = bvs l ∧ l.length = n
theorem Head.cell {w : World} {g n : Nat} {l : List UInt8} (h : Head w g n l) {j : Nat} (hj : j < n) : w.cell? ⟨g, j, none⟩ = some (bv (l.getD j 0)) := by
  obtain ⟨cur, hb, hs, ht, hl⟩ := h
  rw [hb.cell]
  have h1 := bvs_get (l := l) (j := j) (by omega)
  rw [← ht, List.getElem?_take, if_pos hj] at h1
  rw [← Array.getElem?_toList, h1]
  simp [List.getElem?_eq_getElem (show j < l.length by omega)]
theorem Head.frozen {w : World} {g n : Nat} {l : List UInt8} (h : Head w g n l) (j : Nat) : w.frozen? ⟨g, j, none⟩ = false := by
  obtain ⟨cur, hb, _⟩ := h
  exact hb.frozen j
theorem Head.set_ {w : World} {g n : Nat} {l : List UInt8} (h : Head w g n l) (j : Nat) (c : UInt8) : Head (w.setCell ⟨g, j, none⟩ (bv c)) g n (l.set j c) := by
  obtain ⟨cur, hb, hs, ht, hl⟩ := h
  refine ⟨_, hb.set_ j _, by simpa using hs, ?_, by simpa using hl⟩
  rw [Array.toList_setIfInBounds, List.take_set, ht]
  simp [bvs, List.map_set]
theorem Head.rb {w : World} {g n c : Nat} {l : List UInt8} (h : Head w g n l) (hc : n ≤ c) (hm : c ≤ maxLen) : RB w (.slice (some ⟨g, 0, none⟩) n c) l := by
  have hl : l.length = n := by obtain ⟨_, _, _, _, hl⟩ := h; exact hl
  have hlt : g < w.heap.size := by obtain ⟨_, hb, _⟩ := h; exact hb.lt
  subst hl
  refine ⟨some ⟨g, 0, none⟩, c, rfl, hc, hm, .inr ⟨g, 0, rfl, hlt, fun j hj => ?_⟩⟩
  rw [Nat.zero_add, h.cell hj]
  simp [List.getElem?_eq_getElem hj]
theorem head_own {w : World} {base n : Nat} {v : Value} {l : List UInt8} (h : w.ownsRow base 5 1 v l.length (bvs l)) (hn : l.length = n) (h0 : 0 < n) :
    ∃ g c, v = .slice (some ⟨g, 0, none⟩) n c ∧ n ≤ c ∧ c ≤ maxLen ∧ base ≤ g ∧ Head w g n l := by
  subst hn
  rcases h.2 with ⟨_, hz⟩ | ⟨g, cap, cur, rfl, hb, hg, hnc, hcm, hs, ht⟩
  · omega
  · exact ⟨g, cap, rfl, hnc, hcm, hb, cur, hg, by omega, by simpa using ht, rfl⟩
theorem Head.below {w w' : World} {g n B : Nat} {l : List UInt8} (h : Head w g n l) (hb : Below B w w') (hB : g < B) : Head w' g n l := by
  obtain ⟨cur, h1, h2⟩ := h
  exact ⟨cur, h1.below hb hB, h2⟩

def nz (p : Nat) : Bool := decide (p ≠ 0)
/-- Where the loop stands: the bits that are others, and the bytes. -/
def BR (w : World) (s : List UInt8) (g n K k p : Nat) (wr : World) : Prop :=
  ∃ m, Head wr g n m ∧ num m = num s ^^^ p * 2 ^ K ∧ p < 2 ^ k ∧ Below w.heap.size w wr
theorem mul_pow_xor (a b j : Nat) : (a ^^^ b) * 2 ^ j = a * 2 ^ j ^^^ b * 2 ^ j := by
  have := Nat.shiftLeft_xor_distrib (a := a) (b := b) (i := j)
  simpa [Nat.shiftLeft_eq] using this
theorem BR.stay {w wr : World} {s : List UInt8} {g n K k p : Nat} (h : BR w s g n K k p wr) : BR w s g n K (k + 1) p wr := by
  obtain ⟨m, h1, h2, h3, h4⟩ := h
  exact ⟨m, h1, h2, by rw [Nat.pow_succ]; omega, h4⟩
theorem flip_ne {k p : Nat} (h : p < 2 ^ k) : nz (p ^^^ 2 ^ k) = true := by
  unfold nz
  simp only [decide_eq_true_eq]
  intro h0
  have := xor_eq_zero h0
  omega

theorem flip_bits (x : UInt8) {r : Nat} (h : r < 8) : bits .xor .u8 (x.toNat : Int) ((2 : Int) ^ r % 256) = ((flipB x r).toNat : Int) := by
  have e : (2 : Int) ^ r % 256 = ((2 ^ r : Nat) : Int) := by
    have := pow_lt8 h
    have e1 : ((2 ^ r : Nat) : Int) = (2 : Int) ^ r := by simp
    rw [← e1]
    generalize 2 ^ r = y at *
    omega
  rw [e, xor8 x.toNat_lt (pow_lt8 h), flipB_toNat x h]

set_option maxRecDepth 100000 in
set_option maxHeartbeats 1000000 in
theorem burst_law (v : Value) (l : List UInt8) (at_ bits_ : Nat) (w : World) (hv : RB w v l) (hl : l.length ≤ 140737488351232) (ha : at_ ≤ 65535) (_hbits : bits_ ≤ 4294967295) :
    Calls Try.prog 7 #[v, .int .u16 at_, .int .u32 bits_] w fun e w' => e = .returned (.bool true) ∧ Below w.heap.size w w' := by
  have HV := Lib.hid hv
  obtain ⟨A, c, rfl, _, h2, _⟩ := hv
  simp only [maxLen] at h2
  by_cases hbig : 300 < l.length
  · have hb : (300 : Int) < (l.length : Int) := by omega
    go_enter Try.func7, Try.ntmps7
    go_wp2_with fail
    refine (known_any _).mono ?_
    rintro e w1 ⟨rfl, hb⟩
    have HB := Lib.hid hb
    clear hb
    go_wp2
    go_ret
    exact ⟨rfl, HB.out⟩
  · have hb : ¬ (300 : Int) < (l.length : Int) := by omega
    have hlen := sealL_length l
    have hrs := rightL_seal l
    obtain ⟨n, hn⟩ : ∃ n, n = l.length + 4 := ⟨_, rfl⟩
    obtain ⟨s, hs⟩ : ∃ s, s = sealL l := ⟨_, rfl⟩
    rw [← hs, ← hn] at hlen
    rw [← hs] at hrs
    have HS := Lib.hid hs.symm
    have HR := Lib.hid hrs
    have HN := Lib.hid hlen
    have h4 : 4 ≤ n := by omega
    have h304 : n ≤ 304 := by omega
    have hne : ((n : Int) != (l.length : Int) + 4) = false := by rw [bne_eq_false_iff_eq]; omega
    clear hs hrs hlen hn
    go_enter Try.func7, Try.ntmps7
    go_wp2_with fail
    refine (seal_any _ l _ HV.out (by omega)).mono ?_
    rintro e w1 ⟨v1, rfl, hown, hbel⟩
    rw [HS.out] at hown
    obtain ⟨g, cc, rfl, hnc, hcm, hbg, hhead⟩ := head_own hown HN.out (by omega)
    have HH := Lib.hid hhead
    have HB := Lib.hid hbel
    clear hhead hbel hown
    simp only [maxLen] at hcm
    go_wp2_with fail
    have hcm' : cc ≤ maxLen := hcm
    have HCM := Lib.hid hcm'
    clear hcm'
    refine (right_any _ s _ (HH.out.rb hnc HCM.out)).mono ?_
    rintro e w2 ⟨rfl, hbel⟩
    rw [HR.out]
    have hgl : g < w1.heap.size := by obtain ⟨_, hb, _⟩ := HH.out; exact hb.lt
    have HH2 := Lib.hid (HH.out.below hbel hgl)
    have HB2 := Lib.hid (HB.out.trans (hbel.mono HB.out.size))
    clear hbel hgl HH HB
    obtain ⟨K, hK⟩ : ∃ K, K = at_ % (8 * n) := ⟨_, rfl⟩
    have hKlt : K < 8 * n := by rw [hK]; exact Nat.mod_lt _ (by omega)
    have hKe : (at_ : Int) % (8 * (n : Int)) = (K : Int) := by rw [hK]; simp
    clear hK
    go_wp2
    go_loopw [8, 9] (fun ch i wr => ∃ k p : Nat, k ≤ 32 ∧ i = .int .i64 k ∧ ch = .bool (nz p) ∧ BR w s g n K k p wr) (fun _ i _ => 32 - (intOf i).toNat)
    case atStart => exact ⟨0, 0, by omega, rfl, rfl, s, HH2.out, by simp, by simp, HB2.out⟩
    case round =>
      clear HH2 HB2
      obtain ⟨k, p, hk, rfl, rfl, hbr⟩ := hrel
      by_cases hlt : k < 32
      · by_cases c1 : K + k < 8 * n
        · obtain ⟨B, hB⟩ : ∃ B, B = bits_ / 2 ^ k := ⟨_, rfl⟩
          have hBe : (bits_ : Int) / 2 ^ k = (B : Int) := by rw [hB]; simp
          by_cases c2 : B % 2 = 1
          · have hq : ((B : Int) % 2 == 1) = true := by rw [beq_iff_eq]; omega
            obtain ⟨m, hh, hnum, hp, hbel⟩ := hbr
            obtain ⟨q, hqd⟩ : ∃ q, q = (K + k) / 8 := ⟨_, rfl⟩
            obtain ⟨r, hrd⟩ : ∃ r, r = (K + k) % 8 := ⟨_, rfl⟩
            have hqe : ((K : Int) + (k : Int)) / 8 = (q : Int) := by omega
            have hre : ((K : Int) + (k : Int)) % 8 = (r : Int) := by omega
            have hqn : q < n := by omega
            have hr8 : r < 8 := by omega
            have hml : m.length = n := by obtain ⟨_, _, _, _, hl⟩ := hh; exact hl
            have hfl := num_flip m (K + k) (by rw [hml]; exact c1)
            rw [← hqd, ← hrd, hnum] at hfl
            have hcell := hh.cell hqn
            have hfr := hh.frozen q
            have hsetd := fun c => hh.set_ q c
            obtain ⟨x, hx⟩ : ∃ x, x = m.getD q 0 := ⟨_, rfl⟩
            rw [← hx] at hcell hfl
            unfold bv at hcell
            have HFL := Lib.hid hfl
            have HSE := Lib.hid hsetd
            have HBE := Lib.hid hbel
            clear hB c2 hnum hh hqd hrd hfl hsetd hx hbel hml
            have HFB := Lib.hid (flip_bits x hr8)
            have HP := Lib.hid hp
            clear hp
            go_wp2
            go_roundw
            case rel =>
              refine ⟨k + 1, p ^^^ 2 ^ k, by omega, by go_num, by rw [flip_ne HP.out], ?_⟩
              rw [HFB.out]
              refine ⟨_, HSE.out (flipB x r), ?_, ?_, HBE.out.setCell (by exact hbg) _⟩
              · rw [HFL.out, mul_pow_xor, ← Nat.pow_add, Nat.add_comm k K, Nat.xor_assoc]
              · exact Nat.xor_lt_two_pow (n := k + 1) (by have := HP.out; rw [Nat.pow_succ]; omega) (Nat.pow_lt_pow_right (by decide) (by omega))
            case measure => simp [intOf]; omega
          · have hq : ((B : Int) % 2 == 1) = false := by
              rw [beq_eq_false_iff_ne]
              omega
            have HBR := Lib.hid hbr.stay
            clear c2 hbr hB
            go_wp2
            go_roundw
            case rel => exact ⟨k + 1, p, by omega, by go_num, rfl, HBR.out⟩
            case measure => simp [intOf]; omega
        · have HBR := Lib.hid hbr.stay
          clear hbr
          go_wp2
          go_roundw
          case rel => exact ⟨k + 1, p, by omega, by go_num, rfl, HBR.out⟩
          case measure => simp [intOf]; omega
      · obtain rfl : k = 32 := by omega
        obtain ⟨m, hh, hnum, hp, hbel⟩ := hbr
        have hml : m.length = n := by obtain ⟨_, _, _, _, hl⟩ := hh; exact hl
        have hseen := burst_seen s m K p (by rw [HN.out]; exact h4) (by rw [hml, HN.out]) HR.out hp (by rw [HN.out]; omega) hnum
        have hres : rightL m = !nz p := by rw [hseen]; unfold nz; simp
        have HR2 := Lib.hid hres
        have HH := Lib.hid hh
        have HB := Lib.hid hbel
        have hgl : g < wr.heap.size := by obtain ⟨_, hb, _⟩ := hh; exact hb.lt
        have HGL := Lib.hid hgl
        clear hh hnum hp hbel hml hseen hres hgl
        go_wp2_with fail
        refine (known_any _).mono ?_
        rintro e w3 ⟨rfl, hb3⟩
        have HH3 := Lib.hid (HH.out.below hb3 HGL.out)
        have HB3 := Lib.hid (HB.out.trans (hb3.mono HB.out.size))
        clear hb3
        go_wp2_with fail
        refine (right_any _ m _ (HH3.out.rb hnc HCM.out)).mono ?_
        rintro e w4 ⟨rfl, hb4⟩
        rw [HR2.out]
        have HB4 := Lib.hid (HB3.out.trans (hb4.mono HB3.out.size))
        clear hb4
        go_wp2
        go_ret
        exact ⟨rfl, HB4.out⟩
theorem burst_walk (v : Value) (l : List UInt8) (a b : Int) (w : World) (hv : RB w v l) (hl : l.length ≤ 140737488351232) (h0 : 0 ≤ a) (h1 : a ≤ 65535) (h2 : 0 ≤ b) (h3 : b ≤ 4294967295) :
    Calls Try.prog 7 #[v, .int .u16 a, .int .u32 b] w fun e w' => e = .returned (.bool true) ∧ Below w.heap.size w w' := by
  obtain ⟨n, rfl⟩ := Int.eq_ofNat_of_zero_le h0
  obtain ⟨m, rfl⟩ := Int.eq_ofNat_of_zero_le h2
  exact burst_law v l n m w hv hl (by omega) (by omega)
end Go.Proofs.Ytloklbjaabbgcaa
