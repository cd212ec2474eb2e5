/-
 The contract of the store's Get: what a key has.
-/
import Derived.Test.YtmbkaedhllfoeaaGreatKHDE
import Derived.Test.YtmbkaedhllfoeaaGreatKHEA
set_option linter.unusedVariables false
namespace Go.Proofs.YtmbkaedhllfoeaaGreat
open Go.RowKit Go.Rst Go.Pg
abbrev getVal : Value := .func (.func 71) #[] #[]
set_option maxRecDepth 100000 in
set_option maxHeartbeats 400000 in
theorem get1_any (a b : ByteArray) (u : Value) (_hu : u.oneCell' = true) (w : World) : Calls Tryz.prog 71 #[.agg #[.string a, u], .string b] w fun e w' => e = .returned (.int .i64 (cmpS a b)) ∧ Below w.heap.size w w' := by
 go_enter Tryz.func71, Tryz.ntmps71
 have hb := (Below.refl w.heap.size w).alloc (Nat.le_refl _) (Obj.cells #[.string a, u] 78)
 have HB := Lib.hid hb
 clear hb
 go_wp2_with fail
 refine (compare_any _ _ _).mono ?_
 rintro e w' ⟨rfl, rfl⟩
 go_wp2
 go_ret
 exact ⟨rfl, HB.out⟩
set_option maxRecDepth 100000 in
set_option maxHeartbeats 2000000 in
theorem bsearchG_any (v : Value) (rs : List Rw) (key : ByteArray) (w : World) (hv : RR w v rs) (hs : Sorted rs) (hlen : rs.length ≤ 3000000000002) :
  Calls Tryz.prog 70 #[v, .string key, getVal] w fun e w' => e = .returned (.tuple #[.int .i64 (posL key rs : Nat), .bool (hasL key rs)]) ∧ Below w.heap.size w w' := by
 have HV := Lib.hid hv
 have HS := Lib.hid hs
 obtain ⟨A, c, rfl, _, _⟩ := rr_shape hv
 clear hv hs
 go_enter Tryz.func70, Tryz.ntmps70
 go_wp2
 go_loopw [9, 10] (fun s9 s10 wr => ∃ lo hi : Nat, s9 = .int .i64 lo ∧ s10 = .int .i64 hi ∧ lo ≤ hi ∧ hi ≤ rs.length ∧ (∀ t (h : t < rs.length), t < lo → Op.bytesLess rs[t].1.toList key.toList = true) ∧ (∀ t (h : t < rs.length), hi ≤ t → Op.bytesLess rs[t].1.toList key.toList = false) ∧ Below w.heap.size w wr)
  (fun s9 s10 _ => (intOf s10 - intOf s9).toNat)
 case atStart => exact ⟨0, rs.length, rfl, rfl, Nat.zero_le _, Nat.le_refl _, fun t _ h => absurd h (Nat.not_lt_zero _), fun t h h2 => by omega, Below.refl _ _⟩
 case round =>
  obtain ⟨lo, hi, rfl, rfl, hlh, hin, hlo, hhi, hbel⟩ := hrel
  obtain ⟨Wo, hWo⟩ : ∃ x, x = wr := ⟨_, rfl⟩
  subst hWo
  by_cases hlt : lo < hi
  ·obtain ⟨m, hm⟩ : ∃ m, m = (lo + hi) / 2 := ⟨_, rfl⟩
   have hml : m < rs.length := by omega
   have hmi : ((lo : Int) + (hi : Int)) / 2 = (m : Int) := by omega
   obtain ⟨b, off, u1, rfl, hx1, hy1, hr1⟩ := rr_at HV.out hml
   have hbw : b < w.heap.size := block_lt_of_cell hx1
   have hx1' := (hbel.cell (p := ⟨b, off + m * 2, none⟩) hbw).trans hx1
   have hy1' := (hbel.cell (p := ⟨b, off + m * 2 + 1, none⟩) hbw).trans hy1
   obtain ⟨A3, c3, hu1, _⟩ := hr1
   obtain ⟨n1, hn1⟩ : ∃ n, n = rs[m].2.length := ⟨_, rfl⟩
   rw [← hn1] at hu1
   subst hu1
   have hcmp := cmp_lt rs[m].1 key
   have HLO := Lib.hid hlo
   have HHI := Lib.hid hhi
   obtain ⟨k1, hk1⟩ : ∃ n, n = rs[m].1 := ⟨_, rfl⟩
   have hkm : rs[m].1.toList = k1.toList := by rw [hk1]
   rw [← hk1] at hx1' hcmp
   have HKM := Lib.hid hkm
   have HB := Lib.hid hbel
   have q1 : (0 : Int) ≤ (m : Int) := by omega
   have q2 : (m : Int) < rs.length := by omega
   have hw1 : IntKind.i64.wrap ((lo : Int) + (hi : Int)) = (lo : Int) + (hi : Int) := by rw [IntKind.wrap_i64]; omega
   have HM := Lib.hid hm
   clear hx1 hy1 hn1 hk1 hkm hlo hhi hbel hm
   cases hc : Op.bytesLess k1.toList key.toList with
   | true =>
    rw [hc] at hcmp
    have hlt0 : (cmpS k1 key < 0) = True := eq_true (hcmp.2 rfl)
    have HC := Lib.hid hc
    clear hcmp hc
    go_wp2_with fail
    refine (get1_any k1 key _ rfl _).mono ?_
    rintro e w3 ⟨rfl, hb3⟩
    have HB3 := Lib.hid (HB.out.trans (hb3.mono HB.out.size))
    clear hb3
    go_wp2
    go_roundw
    case rel =>
     have hm := HM.out
     refine ⟨m + 1, hi, by go_num, rfl, by omega, hin, fun t ht htm => ?_, HHI.out, HB3.out⟩
     rcases Nat.lt_or_ge t m with h | h
     ·have := HS.out.at h hml
      unfold lt kl at this
      rw [HKM.out] at this
      exact bl_trans _ _ _ this HC.out
     ·obtain rfl : t = m := by omega
      rw [HKM.out]
      exact HC.out
    case measure => have hm := HM.out; simp [intOf]; omega
   | false =>
    rw [hc] at hcmp
    have hlt0 : (cmpS k1 key < 0) = False := eq_false (fun h => by have := hcmp.1 h; cases this)
    have HC := Lib.hid hc
    clear hcmp hc
    go_wp2_with fail
    refine (get1_any k1 key _ rfl _).mono ?_
    rintro e w3 ⟨rfl, hb3⟩
    have HB3 := Lib.hid (HB.out.trans (hb3.mono HB.out.size))
    clear hb3
    go_wp2
    go_roundw
    case rel =>
     have hm := HM.out
     refine ⟨lo, m, rfl, rfl, by omega, by omega, HLO.out, fun t ht htm => ?_, HB3.out⟩
     cases hcc : Op.bytesLess rs[t].1.toList key.toList
     ·rfl
     ·rcases Nat.lt_or_ge m t with h | h
      ·have := HS.out.at h ht
       unfold lt kl at this
       rw [HKM.out] at this
       have := bl_trans _ _ _ this hcc
       rw [HC.out] at this
       cases this
      ·obtain rfl : t = m := by omega
       rw [HKM.out, HC.out] at hcc
       cases hcc
    case measure => have hm := HM.out; simp [intOf]; omega
  ·obtain rfl : hi = lo := by omega
   have hpos : posL key rs = hi := posL_of hin hlo (fun h => hhi hi h (Nat.le_refl _))
   by_cases hend : hi < rs.length
   ·obtain ⟨b, off, u1, rfl, hx1, hy1, hr1⟩ := rr_at HV.out hend
    have hbw : b < w.heap.size := block_lt_of_cell hx1
    have hx1' := (hbel.cell (p := ⟨b, off + hi * 2, none⟩) hbw).trans hx1
    have hy1' := (hbel.cell (p := ⟨b, off + hi * 2 + 1, none⟩) hbw).trans hy1
    obtain ⟨A3, c3, hu1, _⟩ := hr1
    obtain ⟨n1, hn1⟩ : ∃ n, n = rs[hi].2.length := ⟨_, rfl⟩
    rw [← hn1] at hu1
    subst hu1
    have hhas := has_at (k := key) (l := rs) (by rw [hpos]; exact hend)
    simp only [hpos] at hhas
    obtain ⟨k1, hk1⟩ : ∃ n, n = rs[hi].1 := ⟨_, rfl⟩
    rw [← hk1] at hx1' hhas
    have HB := Lib.hid hbel
    have HP := Lib.hid hpos
    have q1 : (0 : Int) ≤ (hi : Int) := by omega
    have q2 : (hi : Int) < rs.length := by omega
    clear hx1 hy1 hn1 hk1 hlo hhi hbel hpos
    cases hc : decide (cmpS k1 key = 0) with
    | true =>
     rw [hc] at hhas
     have HH := Lib.hid hhas
     have hbq : (cmpS k1 key == 0) = true := beq_iff_eq.2 (of_decide_eq_true hc)
     clear hc hhas
     go_wp2_with fail
     refine (get1_any k1 key _ rfl _).mono ?_
     rintro e w3 ⟨rfl, hb3⟩
     have HB3 := Lib.hid (HB.out.trans (hb3.mono HB.out.size))
     clear hb3
     go_wp2
     go_ret2
     exact ⟨by rw [HP.out, HH.out]; rfl, HB3.out⟩
    | false =>
     rw [hc] at hhas
     have HH := Lib.hid hhas
     have hbq : (cmpS k1 key == 0) = false := beq_eq_false_iff_ne.2 (of_decide_eq_false hc)
     clear hc hhas
     go_wp2_with fail
     refine (get1_any k1 key _ rfl _).mono ?_
     rintro e w3 ⟨rfl, hb3⟩
     have HB3 := Lib.hid (HB.out.trans (hb3.mono HB.out.size))
     clear hb3
     go_wp2
     go_ret2
     exact ⟨by rw [HP.out, HH.out]; rfl, HB3.out⟩
   ·have HH := Lib.hid (show hasL key rs = false from has_end (by rw [hpos]; exact hend))
    have HP := Lib.hid hpos
    have HB := Lib.hid hbel
    clear hlo hhi hbel hpos
    go_wp2
    go_ret2
    exact ⟨by rw [HP.out, HH.out]; rfl, HB.out⟩
open Go.Dv Go.Crc Go.Str
theorem lk_pos {k : ByteArray} : ∀ {l : List Rw}, Sorted l → lk l k.toList = if hasL k l = true then (l[posL k l]?).map (·.2) else none
 | [], _ => by simp [lk, hasL, posL]
 | x :: xs, h => by
  obtain ⟨h1, h2⟩ := List.pairwise_cons.1 h
  have ih := lk_pos (k := k) h2
  unfold lk hasL posL
  by_cases hb : Op.bytesLess x.1.toList k.toList = true
  ·have hne : ¬ kl x = k.toList := bl_ne hb
   rw [if_neg hne, if_pos hb, List.getElem?_cons_succ, ih]
   rfl
  ·rw [if_neg hb, List.getElem?_cons_zero]
   by_cases he : kl x = k.toList
   ·rw [if_pos he]
    have : (x.1.toList == k.toList) = true := by
     have he' : x.1.toList = k.toList := he
     rw [he']; exact beq_self_eq_true _
    rw [if_pos this]
    rfl
   ·rw [if_neg he]
    have h3 : ¬ (x.1.toList == k.toList) = true := fun hc => he (by have := eq_of_beq hc; exact this)
    rw [if_neg h3]
    refine lk_none (fun y hy hc => ?_)
    have hxy : Op.bytesLess x.1.toList y.1.toList = true := h1 y hy
    have hc' : y.1.toList = k.toList := hc
    rw [hc'] at hxy
    exact hb hxy
theorem has_pos {k : ByteArray} {l : List Rw} (h : hasL k l = true) : posL k l < l.length := by
 unfold hasL at h
 split at h
 ·rename_i x e
  exact (List.getElem?_eq_some_iff.1 e).1
 ·cases h
set_option maxRecDepth 100000 in
set_option maxHeartbeats 2000000 in
theorem getS_any {dg : Nat} {M : Nat → Prop} {w : World} {sv : Value} {x : Ss} (h : Sto dg M w sv x) (key : ByteArray) (hs : Sorted x.rows) (hl : x.rows.length ≤ 1000000) (hv : ∀ r ∈ x.rows, r.2.length ≤ 1000000) :
  Calls Tryz.prog 35 #[sv, .string key] w fun e w' => ∃ u, e = .returned (.tuple #[u, .bool (lk x.rows key.toList).isSome]) ∧ FB 5 w' w.heap.size u ((lk x.rows key.toList).getD []) ∧ Below w.heap.size w w' := by
 obtain ⟨D, R, g, rv, rfl, h⟩ := h
 have c1 := h.blk.cell 1
 unfold sc at c1
 simp at c1
 have HB := Lib.hid h.blk
 have hrr := h.rows.rr
 obtain ⟨Ar, cr, hrv, _⟩ := rr_shape hrr
 have hbs := bsearchG_any rv x.rows key w hrr hs (by omega)
 have hlk := lk_pos (k := key) hs
 subst hrv
 have HBS := Lib.hid hbs
 have HRR := Lib.hid hrr
 have HV := Lib.hid hv
 cases hh : hasL key x.rows with
 | false =>
  rw [hh, if_neg (by decide)] at hlk
  rw [hlk]
  rw [hh] at hbs
  have HBS := Lib.hid hbs
  clear h hbs hl hv hs hrr hlk hh
  go_enter Tryz.func35, Tryz.ntmps35
  go_wp2_with fail
  go_at_call 70
  refine HBS.out.mono ?_
  rintro e w1 ⟨rfl, hb1⟩
  have HB1 := Lib.hid hb1
  clear hb1
  go_wp2
  go_ret2
  exact ⟨_, rfl, .inl ⟨rfl, rfl⟩, HB1.out⟩
 | true =>
  have hp := has_pos hh
  obtain ⟨p, hpe⟩ : ∃ p, p = posL key x.rows := ⟨_, rfl⟩
  rw [hh, if_pos rfl, ← hpe] at hlk
  rw [hh, ← hpe] at hbs
  rw [← hpe] at hp
  obtain ⟨b, off, u, hA, _, e2, e3⟩ := rr_at hrr hp
  have hv2 := hv _ (List.getElem_mem hp)
  have hr := List.getElem?_eq_getElem hp
  generalize x.rows[p] = r at hr e2 e3 hv2
  rw [hr] at hlk
  simp only [Option.map_some] at hlk
  rw [hlk]
  simp only [Option.isSome_some, Option.getD_some]
  have hcl := fun X (hX : Below w.heap.size w X) => cloneB_any u r.2 X (e3.below hX) (by omega)
  obtain ⟨A9, c9, h9⟩ := rb_shape e3
  subst hA
  have hbw := rr_block hrr (by omega)
  rw [h9] at e2 hcl
  have HBS := Lib.hid hbs
  have HCL := Lib.hid hcl
  have HE2 := Lib.hid e2
  have HBW := Lib.hid hbw
  have HPE := Lib.hid hpe
  clear h hbs hl hv hs hrr hlk hh hcl h9 e2 e3 hbw hpe hr hv2
  go_enter Tryz.func35, Tryz.ntmps35
  go_wp2_with fail
  go_at_call 70
  refine HBS.out.mono ?_
  rintro e w1 ⟨rfl, hb1⟩
  have k1 := (HB.out.below hb1 HB.out.lt).cell 1
  unfold sc at k1
  simp at k1
  have k2 : w1.cell? ⟨b, off + p * 2 + 1, none⟩ = _ := (hb1.cell (p := ⟨b, off + p * 2 + 1, none⟩) HBW.out).trans HE2.out
  have HB1 := Lib.hid hb1
  have HCL1 := Lib.hid (HCL.out w1 hb1)
  clear hb1 c1
  go_wp2_with fail
  go_at_call 69
  refine HCL1.out.mono ?_
  rintro e w2 ⟨u2, rfl, hf2, hb2⟩
  obtain ⟨A8, c8, rfl⟩ := hf2.shape
  have HF2 := Lib.hid (hf2.base_ (base' := w.heap.size) HB1.out.size)
  have HB2 := Lib.hid (HB1.out.trans (hb2.mono HB1.out.size))
  clear hf2 hb2
  go_wp2
  go_ret2
  exact ⟨_, rfl, HF2.out, HB2.out⟩
end Go.Proofs.YtmbkaedhllfoeaaGreat
