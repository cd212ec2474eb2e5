/-
  ShaSums returns true, and changes nothing that was there, for every slice of bytes and two bytes, where the program's tables hold what they were laid with.
-/
import Derived.Test.YtbfemhhmijlmlaaDoorRefSum
import Derived.Test.YtbfemhhmijlmlaaDoorKnown
import Derived.Stop.BytesEq
import Derived.OwnWalk
namespace Go.Proofs.YtbfemhhmijlmlaaDoor
open Go.RowKit Go.Rst Go.Sha

theorem size5 : ∀ w, (sizeOf 5).run Tryd.prog w = .ok 1 w := fun w => by kernel_rfl
theorem eq_in (l : List UInt8) (h : l.length = 32) : ∀ w, (Op.equalIn 10000 24 (.agg (bva l)) (.agg (bva l))).run Tryd.prog w = .ok true w := by
  intro w
  have := run_equalIn_bytes (P := Tryd.prog) w 9998 24 5 32 Tryd.underlying24 Tryd.underlying5 size5 l l h h
  rw [beq_self_eq_true] at this
  exact this
theorem eq_agg (l : List UInt8) (h : l.length = 32) : ∀ w, (binOp .eql 24 (.agg (bva l)) (.agg (bva l))).run Tryd.prog w = .ok (.bool true) w := by
  intro w
  have := run_eql_bytes (P := Tryd.prog) w 24 5 32 Tryd.underlying24 Tryd.underlying5 size5 l l h h
  rw [beq_self_eq_true] at this
  exact this
/-- n bytes, of which the first k are v and on. -/
def fx (v : UInt8) (n k : Nat) : List UInt8 := (List.range n).map fun j => if j < k then v + UInt8.ofNat j else 0
theorem fx_length (v : UInt8) (n k : Nat) : (fx v n k).length = n := by simp [fx]
theorem fx_zero (v : UInt8) (n : Nat) : fx v n 0 = List.replicate n 0 := by
  unfold fx
  apply List.ext_getElem
  · simp
  · intro i h1 h2; simp
theorem fx_set (v : UInt8) (n k : Nat) : (bva (fx v n k)).setIfInBounds k (bv (v + UInt8.ofNat k)) = bva (fx v n (k + 1)) := by
  unfold bva bvs
  rw [List.setIfInBounds_toArray, List.map_set.symm]
  congr 2
  apply List.ext_getElem
  · simp [fx]
  · intro i h1 h2
    by_cases hik : k = i
    · subst hik
      simp [fx]
    · rw [List.getElem_set_ne hik]
      simp only [fx, List.getElem_map, List.getElem_range]
      by_cases h3 : i < k
      · rw [if_pos h3, if_pos (by omega)]
      · rw [if_neg h3, if_neg (by omega)]
theorem fx_any (v : UInt8) (n k j : Nat) (h : j < n) : ∃ x : UInt8, (bva (fx v n k))[j]? = some (bv x) := ⟨_, bva_get (by rw [fx_length]; exact h)⟩
theorem add_u8 (v : UInt8) (k : Nat) : ((v.toNat : Int) + (k : Int) % 256) % 256 = ((v + UInt8.ofNat k).toNat : Int) := by
  rw [UInt8.toNat_add, UInt8.toNat_ofNat']
  omega
theorem add_u8' (v : UInt8) (k : Nat) : ((v.toNat : Int) + (k : Int)) % 256 = ((v + UInt8.ofNat k).toNat : Int) := by
  rw [← add_u8]
  omega
theorem own_blk {w : World} {base g n : Nat} {xs : List Value} (h : w.ownsRow base 5 1 (.slice (some ⟨g, 0, none⟩) n n) n xs) : Blk w g 5 xs.toArray := by
  have hl := h.1
  rcases h.2 with ⟨h1, _⟩ | ⟨g', cap, cur, h1, _, hg, _, _, hs, ht⟩
  · cases h1
  · injection h1 with h1 _ h3
    injection h1 with h1
    injection h1 with h1 _ _
    subst h1
    subst h3
    have e : cur.toList = xs := by
      rw [← ht]
      exact (List.take_of_length_le (by rw [Array.length_toList]; omega)).symm
    have e2 : cur = xs.toArray := by rw [← e]
    rw [← e2]
    exact hg
theorem madeL (n : Nat) : (madeCells #[Value.int IntKind.u8 0] n).toList = bvs (List.replicate n 0) := by
  rw [toList_madeCells_one]
  simp [bvs, bv]

set_option maxRecDepth 100000 in
set_option maxHeartbeats 2000000 in
theorem sums_walk (v : Value) (l : List UInt8) (b : UInt8) (n : Nat) (w : World) (hv : RB w v l) (hn : n ≤ 255) (hL : Laid w) :
    Calls Tryd.prog 3 #[v, .int .u8 (b.toNat : Int), .int .u8 (n : Int)] w fun e w' => e = .returned (.bool true) ∧ Below w.heap.size w w' := by
  have HV := Lib.hid hv
  have HL := Lib.hid hL
  obtain ⟨A, c, rfl, _, h2, _⟩ := hv
  unfold maxLen at h2
  obtain ⟨m, hm⟩ : ∃ m, m = l.length := ⟨_, rfl⟩
  rw [← hm]
  have HM := Lib.hid hm
  clear hL hm
  by_cases hbig : 400 < m
  · have hb : (400 : Int) < (m : Int) := by omega
    go_enter Tryd.func3, Tryd.ntmps3
    go_wp2_with fail
    refine (known_any _ HL.out).mono ?_
    rintro e w1 ⟨rfl, hb⟩
    have HB := Lib.hid hb
    clear hb
    go_wp2
    go_ret
    exact ⟨rfl, HB.out⟩
  · have hb : ¬ (400 : Int) < (m : Int) := by omega
    obtain ⟨i5, hi5, hz5, hs5, hy5⟩ := info_parts info5
    have HI5 := Lib.hid hi5
    have HZ5 := Lib.hid hz5
    have HS5 := Lib.hid hs5
    have HB5 := Lib.hid (show i5.bytes * n ≤ 281474976710656 by rw [hy5]; omega)
    have HM5 := Lib.hid (show n ≤ maxLen by unfold maxLen; omega)
    clear hi5 hz5 hs5 hy5
    go_enter Tryd.func3, Tryd.ntmps3
    go_wp2_with fail
    refine (known_any _ HL.out).mono ?_
    rintro e w1 ⟨rfl, hb1⟩
    have HB1 := Lib.hid hb1
    have HV1 := Lib.hid (HV.out.below hb1)
    have HL1 := Lib.hid (HL.out.below hb1)
    clear hb1
    go_wp2_with (at_make; refine wpList_make_full _ rfl (.tmp 18) (.tmp 18) 22 rfl w1.heap.size 5 i5 (.int .u8 0) 1 Tryd.underlying22 HI5.out HZ5.out HS5.out .i64 .i64 _ _ n rfl rfl rfl rfl HB5.out HM5.out (Nat.le_refl _) ?_)
    intro w2 hown2 hgrow2
    rw [madeL] at hown2
    have hblk : Blk w2 w1.heap.size 5 (bva (fx b n 0)) := by
      rw [fx_zero]
      exact own_blk hown2
    have hbel2 : Below w1.heap.size w1 w2 := (Below.refl _ _).grown hgrow2 (Nat.le_refl _) (fun k hk => by cases hk)
    obtain ⟨g, hg⟩ : ∃ g, g = w1.heap.size := ⟨_, rfl⟩
    rw [← hg] at hblk hbel2 ⊢
    have HG := Lib.hid hg
    have HBK := Lib.hid hblk
    have HB2 := Lib.hid hbel2
    clear hblk hbel2 hg hown2 hgrow2 HI5 HZ5 HS5 HB5 HM5
    go_wp2
    go_loopw [8] (fun i wr => ∃ k : Nat, k ≤ n ∧ i = .int .i64 k ∧ Blk wr g 5 (bva (fx b n k)) ∧ Below g w1 wr) (fun i _ => n - (intOf i).toNat)
    case atStart => exact ⟨0, by omega, rfl, HBK.out, HB2.out⟩
    case round =>
      obtain ⟨k, hk, rfl, hblk, hbel⟩ := hrel
      by_cases hlt : k < n
      · obtain ⟨x0, hx0⟩ := fx_any b n k k hlt
        have hx := (hblk.cell k).trans hx0
        have hf := hblk.frozen k
        have hset := fx_set b n k
        unfold bv at hx
        have HSET := Lib.hid hset
        have HBk := Lib.hid hblk
        have HBl := Lib.hid hbel
        have j1 : (0 : Int) ≤ (k : Int) := by omega
        have j2 : (k : Int) < (n : Int) := by omega
        clear hblk hbel hset hx0 HBK HB2
        go_wp2
        go_roundw
        case rel =>
          refine ⟨k + 1, by omega, by go_num, ?_, HBl.out.setCell (Nat.le_refl _) _⟩
          first | rw [add_u8] | rw [add_u8']
          rw [← HSET.out]
          exact HBk.out.set_ _ _
        case measure => simp [intOf]; omega
      · obtain rfl : k = n := by omega
        have hrbx : RB wr (.slice (some ⟨g, 0, none⟩) k k) (fx b k k) := hblk.rb k (fx_length b k k).symm (by unfold maxLen; omega)
        have hbel' : Below w1.heap.size w1 wr := HG.out ▸ hbel
        have hrb := HV1.out.below hbel'
        have hLr := HL1.out.below hbel'
        have hl4 : l.length ≤ 400 := by rw [← HM.out]; omega
        rw [← HM.out] at hrb
        have hfl : (fx b k k).length ≤ 255 := by rw [fx_length]; exact hn
        have HRX := Lib.hid hrbx
        have HRB := Lib.hid hrb
        have HLR := Lib.hid hLr
        have HL4 := Lib.hid hl4
        have HFL := Lib.hid hfl
        have HBW := Lib.hid (HB1.out.trans (hbel'.mono HB1.out.size))
        have e1 := eq_in (sum l) (sum_length l)
        have e2 := eq_agg (sum l) (sum_length l)
        have e3 := eq_in (sum (fx b k k)) (sum_length _)
        have e4 := eq_agg (sum (fx b k k)) (sum_length _)
        have c1 := sum_any _ l wr hrb (by omega) hLr
        obtain ⟨D1, hD1⟩ : ∃ D1, D1 = bva (sum l) := ⟨_, rfl⟩
        obtain ⟨D2, hD2⟩ : ∃ D2, D2 = bva (sum (fx b k k)) := ⟨_, rfl⟩
        rw [← hD1] at e1 e2 c1
        rw [← hD2] at e3 e4
        have c2 : ∀ w2, RB w2 (.slice A m c) l → Calls Tryd.prog 8 #[.slice A m c] w2 fun e w' => e = .returned (.agg D1) ∧ Below w2.heap.size w2 w' := fun w2 h => by rw [hD1]; exact refSum_any _ l w2 h (by omega)
        have c3 : ∀ w2, RB w2 (.slice (some ⟨g, 0, none⟩) k k) (fx b k k) → Laid w2 → Calls Tryd.prog 7 #[.slice (some ⟨g, 0, none⟩) k k] w2 fun e w' => e = .returned (.agg D2) ∧ Below w2.heap.size w2 w' := fun w2 h h9 => by rw [hD2]; exact sum_any _ _ w2 h (by omega) h9
        have c4 : ∀ w2, RB w2 (.slice (some ⟨g, 0, none⟩) k k) (fx b k k) → Calls Tryd.prog 8 #[.slice (some ⟨g, 0, none⟩) k k] w2 fun e w' => e = .returned (.agg D2) ∧ Below w2.heap.size w2 w' := fun w2 h => by rw [hD2]; exact refSum_any _ _ w2 h (by omega)
        have C1 := Lib.hid c1
        have C2 := Lib.hid c2
        have C3 := Lib.hid c3
        have C4 := Lib.hid c4
        clear hblk hbel hrbx hbel' hrb hLr hl4 hfl c1 c2 c3 c4 hD1 hD2 HBK HB2
        go_wp2_with fail
        refine C1.out.mono ?_
        rintro e w3 ⟨rfl, hb3⟩
        have HR3 := Lib.hid (HRB.out.below hb3)
        have HX3 := Lib.hid (HRX.out.below hb3)
        have HL3 := Lib.hid (HLR.out.below hb3)
        have HB3 := Lib.hid (HBW.out.trans (hb3.mono HBW.out.size))
        clear hb3 HRB HRX HLR HBW
        go_wp2_with fail
        refine (C2.out _ HR3.out).mono ?_
        rintro e w4 ⟨rfl, hb4⟩
        have HX4 := Lib.hid (HX3.out.below hb4)
        have HL4' := Lib.hid (HL3.out.below hb4)
        have HB4 := Lib.hid (HB3.out.trans (hb4.mono HB3.out.size))
        clear hb4 HR3 HX3 HL3 HB3
        go_wp2_with fail
        refine (C3.out _ HX4.out HL4'.out).mono ?_
        rintro e w5 ⟨rfl, hb5⟩
        have HX5 := Lib.hid (HX4.out.below hb5)
        have HB5 := Lib.hid (HB4.out.trans (hb5.mono HB4.out.size))
        clear hb5 HX4 HL4' HB4
        go_wp2_with fail
        refine (C4.out _ HX5.out).mono ?_
        rintro e w6 ⟨rfl, hb6⟩
        have HB6 := Lib.hid (HB5.out.trans (hb6.mono HB5.out.size))
        clear hb6 HX5 HB5
        go_wp2
        go_ret
        exact ⟨rfl, HB6.out⟩
end Go.Proofs.YtbfemhhmijlmlaaDoor
