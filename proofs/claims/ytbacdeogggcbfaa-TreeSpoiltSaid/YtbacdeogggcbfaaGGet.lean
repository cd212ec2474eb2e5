/-
  The contracts of the program's find, and below, of a page of a tree.
-/
import Derived.Test.YtbacdeogggcbfaaTMath3
import Derived.Test.YtbacdeogggcbfaaFind
import Derived.Test.YtbacdeogggcbfaaGet
import Derived.Test.YtbacdeogggcbfaaDec
import Derived.Test.YtbacdeogggcbfaaGWords

namespace Go.Proofs.Ytbacdeogggcbfaa
open Go.RowKit Go.Rst Go.Pg Go.Crc
def GivesV (w : World) (o : Option (List UInt8)) (e : Ending) (w' : World) : Prop := ∃ v, e = .returned (.tuple #[v, .bool o.isSome]) ∧ RB w' v (o.getD []) ∧ Below w.heap.size w w'
theorem GivesV.none_ {w w' : World} {o : Option (List UInt8)} (h : o = none) (hb : Below w.heap.size w w') : GivesV w o (.returned (.tuple #[.slice none 0 0, .bool false])) w' := by
  subst h
  exact ⟨_, rfl, RB.nil_ _, hb⟩
theorem GivesV.some_ {w w' : World} {o : Option (List UInt8)} {l : List UInt8} {v : Value} (h : o = some l) (hv : RB w' v l) (hb : Below w.heap.size w w') : GivesV w o (.returned (.tuple #[v, .bool true])) w' := by
  subst h
  exact ⟨_, rfl, hv, hb⟩

set_option maxRecDepth 100000 in
set_option maxHeartbeats 1600000 in
theorem findT_any (v : Value) (rs : List Rw) (key : ByteArray) (w : World) (hv : RR w v rs) :
    Calls Try.prog 31 #[v, .string key] w (GivesV w (findR rs key)) := by
  have HV := Lib.hid hv
  obtain ⟨A, c, rfl, hlc, hc63⟩ := rr_shape hv
  clear hv
  go_enter Try.func31, Try.ntmps31
  go_wp2
  go_loopw [10] (fun i wr => ∃ k : Nat, k ≤ rs.length ∧ i = .int .i64 k ∧ findR rs key = findR (rs.drop k) key ∧ Below w.heap.size w wr) (fun i _ => rs.length - (intOf i).toNat)
  case atStart => exact ⟨0, Nat.zero_le _, rfl, rfl, Below.refl _ _⟩
  case round =>
    obtain ⟨k, hk, rfl, hf, hbel⟩ := hrel
    by_cases hlt : k < rs.length
    · rw [findR_go hlt] at hf
      obtain ⟨b, off, u, rfl, hx0, hx1, hr⟩ := rr_at HV.out hlt
      have hb := rr_block HV.out (by omega)
      have hx := (hbel.cell (p := ⟨b, off + k * 2, none⟩) hb).trans hx0
      have hy := (hbel.cell (p := ⟨b, off + k * 2 + 1, none⟩) hb).trans hx1
      have hrb := hr.below hbel
      obtain ⟨kk, hkk⟩ : ∃ x, x = rs[k].1 := ⟨_, rfl⟩
      obtain ⟨vv, hvv⟩ : ∃ x, x = rs[k].2 := ⟨_, rfl⟩
      rw [← hkk] at hx hf
      rw [← hvv] at hrb hf
      obtain ⟨A1, c1, hu, _, _, _⟩ := hrb
      have hrb : RB wr u vv := by rw [hvv]; exact hr.below hbel
      subst hu
      have HRB := Lib.hid hrb
      have HB := Lib.hid hbel
      have hsz := hbel.size
      clear hrb hbel hx0 hx1 hr hkk hvv HV
      have q1 : (0 : Int) ≤ (k : Int) := by omega
      have q2 : (k : Int) < rs.length := by omega
      cases he : (kk.toList == key.toList) with
      | true =>
        rw [he, if_pos rfl] at hf
        have E := Lib.hid hf
        clear hf
        go_wp2
        go_ret2
        exact GivesV.some_ E.out (HRB.out.alloc _) (HB.out.alloc hsz _)
      | false =>
        rw [he, if_neg (by decide)] at hf
        have E := Lib.hid hf
        clear hf
        go_wp2
        go_roundw
        case rel => exact ⟨k + 1, by omega, by go_num, E.out, HB.out.alloc hsz _⟩
        case measure => simp [intOf]; omega
    · obtain rfl : k = rs.length := by omega
      rw [List.drop_length] at hf
      have E := Lib.hid hf
      have HB := Lib.hid hbel
      clear hf hbel
      go_wp2
      go_ret2
      exact GivesV.none_ E.out HB.out

set_option maxRecDepth 100000 in
set_option maxHeartbeats 1600000 in
theorem below_at (v : Value) (rs : List Rw) (key : ByteArray) (at_ I : Nat) (F : Int) (_hat : at_ ≤ 1000000) (hlen : 0 < rs.length) (hI : I = idxN rs key) (hF : F = (I : Int) ∨ (F = -1 ∧ I = 0)) (hFe : findL rs key = F) (w : World) (hv : RR w v rs) :
    Calls Try.prog 32 #[v, .string key, .int .i64 at_] w fun e w' => e = .returned (.int .i64 (belowL rs key at_)) ∧ Below w.heap.size w w' := by
  have hlt : I < rs.length := by rw [hI]; exact idxN_lt hlen key
  have hcall := find_any v rs key w hv
  rw [hFe] at hcall
  have HV := Lib.hid hv
  obtain ⟨A, c, rfl, hlc, hc63⟩ := rr_shape hv
  obtain ⟨b, off, u, rfl, _, hx1, hr⟩ := rr_at HV.out hlt
  have hb := rr_block HV.out (by omega)
  have hbe : belowL rs key at_ = if (getNum rs[I].2 0).2.2 ≠ 0 ∨ (getNum rs[I].2 0).2.1 < rs[I].2.length ∨ (at_ : Int) ≤ (getNum rs[I].2 0).1 then -1 else (getNum rs[I].2 0).1 := by
    unfold belowL
    rw [← hI, List.getElem?_eq_getElem hlt]
  have hsp := getNum_spec rs[I].2 0
  obtain ⟨vv, hvv⟩ : ∃ x, x = rs[I].2 := ⟨_, rfl⟩
  rw [← hvv] at hbe hsp
  have hr' : RB w u vv := by rw [hvv]; exact hr
  have HR := Lib.hid hr'
  obtain ⟨A1, c1, rfl, _, _, _⟩ := hr'
  have HC := Lib.hid hcall
  have HBE := Lib.hid hbe
  have hnum := fun (W : World) (h : RB W (.slice A1 vv.length c1) vv) => getNum_any (.slice A1 vv.length c1) vv 0 W h
  generalize hg1 : (getNum vv 0).1 = n at *
  generalize hg2 : (getNum vv 0).2.1 = q at *
  generalize hg3 : (getNum vv 0).2.2 = e at *
  have HN := Lib.hid hnum
  have HSP := Lib.hid hsp
  have hl0 : ((rs.length : Int) == 0) = false := by rw [beq_eq_false_iff_ne]; omega
  clear hcall hbe hr hv hnum hsp hI hvv hFe hg1 hg2 hg3
  have hend : ∀ (r : Int), (if e ≠ 0 ∨ q < (vv.length : Int) ∨ (at_ : Int) ≤ n then (-1 : Int) else n) = r → belowL rs key at_ = r := by
    intro r h
    have := HBE.out
    rw [h] at this
    exact this
  have HEND := Lib.hid hend
  clear hend
  have q1 : (0 : Int) ≤ (I : Int) := by omega
  have q2 : (I : Int) < rs.length := by omega
  have hstep : ∀ (W : World) (_ : Below w.heap.size w W), W.cell? ⟨b, off + I * 2 + 1, none⟩ = some (.slice A1 vv.length c1) := fun W h => (h.cell (p := ⟨b, off + I * 2 + 1, none⟩) hb).trans hx1
  have HST := Lib.hid hstep
  clear hstep hx1
  rcases hF with rfl | ⟨rfl, rfl⟩
  · go_enter Try.func32, Try.ntmps32
    go_wp2_with fail
    refine HC.out.mono ?_
    rintro e1 w1 ⟨rfl, hb1⟩
    have hx := HST.out w1 hb1
    have HB1 := Lib.hid hb1
    have HNW := Lib.hid (HN.out w1 (HR.out.below hb1))
    clear hb1
    rcases HSP.out with ⟨rfl, h1, h2, _, h4, h5⟩ | ⟨h0, rfl, rfl⟩
    · by_cases hq : q < (vv.length : Int)
      · have E := Lib.hid (HEND.out (-1) (if_pos (.inr (.inl hq))))
        go_wp2_with fail
        refine HNW.out.mono ?_
        rintro e2 w2 ⟨rfl, rfl⟩
        go_wp2
        go_ret
        rw [E.out]
        exact ⟨rfl, HB1.out⟩
      · have hq' : (vv.length : Int) ≤ q := by omega
        by_cases ha : (at_ : Int) ≤ n
        · have E := Lib.hid (HEND.out (-1) (if_pos (.inr (.inr ha))))
          go_wp2_with fail
          refine HNW.out.mono ?_
          rintro e2 w2 ⟨rfl, rfl⟩
          go_wp2
          go_ret
          rw [E.out]
          exact ⟨rfl, HB1.out⟩
        · have E := Lib.hid (HEND.out n (if_neg (by simp; omega)))
          have ha' : n < (at_ : Int) := by omega
          go_wp2_with fail
          refine HNW.out.mono ?_
          rintro e2 w2 ⟨rfl, rfl⟩
          go_wp2
          go_ret
          rw [E.out]
          exact ⟨rfl, HB1.out⟩
    · have E := Lib.hid (HEND.out (-1) (if_pos (.inl (by omega))))
      have h0' : (e != 0) = true := by rw [bne_iff_ne]; omega
      clear h0
      go_wp2_with fail
      refine HNW.out.mono ?_
      rintro e2 w2 ⟨rfl, rfl⟩
      go_wp2
      go_ret
      rw [E.out]
      exact ⟨rfl, HB1.out⟩
  · go_enter Try.func32, Try.ntmps32
    go_wp2_with fail
    refine HC.out.mono ?_
    rintro e1 w1 ⟨rfl, hb1⟩
    have hx := HST.out w1 hb1
    have HB1 := Lib.hid hb1
    have HNW := Lib.hid (HN.out w1 (HR.out.below hb1))
    clear hb1
    rcases HSP.out with ⟨rfl, h1, h2, _, h4, h5⟩ | ⟨h0, rfl, rfl⟩
    · by_cases hq : q < (vv.length : Int)
      · have E := Lib.hid (HEND.out (-1) (if_pos (.inr (.inl hq))))
        go_wp2_with fail
        refine HNW.out.mono ?_
        rintro e2 w2 ⟨rfl, rfl⟩
        go_wp2
        go_ret
        rw [E.out]
        exact ⟨rfl, HB1.out⟩
      · have hq' : (vv.length : Int) ≤ q := by omega
        by_cases ha : (at_ : Int) ≤ n
        · have E := Lib.hid (HEND.out (-1) (if_pos (.inr (.inr ha))))
          go_wp2_with fail
          refine HNW.out.mono ?_
          rintro e2 w2 ⟨rfl, rfl⟩
          go_wp2
          go_ret
          rw [E.out]
          exact ⟨rfl, HB1.out⟩
        · have E := Lib.hid (HEND.out n (if_neg (by simp; omega)))
          have ha' : n < (at_ : Int) := by omega
          go_wp2_with fail
          refine HNW.out.mono ?_
          rintro e2 w2 ⟨rfl, rfl⟩
          go_wp2
          go_ret
          rw [E.out]
          exact ⟨rfl, HB1.out⟩
    · have E := Lib.hid (HEND.out (-1) (if_pos (.inl (by omega))))
      have h0' : (e != 0) = true := by rw [bne_iff_ne]; omega
      clear h0
      go_wp2_with fail
      refine HNW.out.mono ?_
      rintro e2 w2 ⟨rfl, rfl⟩
      go_wp2
      go_ret
      rw [E.out]
      exact ⟨rfl, HB1.out⟩

theorem below_any (v : Value) (rs : List Rw) (key : ByteArray) (at_ : Nat) (hat : at_ ≤ 1000000) (w : World) (hv : RR w v rs) :
    Calls Try.prog 32 #[v, .string key, .int .i64 at_] w fun e w' => e = .returned (.int .i64 (belowL rs key at_)) ∧ Below w.heap.size w w' := by
  by_cases hl : 0 < rs.length
  · rcases Nat.eq_zero_or_pos (findC rs key) with h | h
    · exact below_at v rs key at_ 0 (-1) hat hl (by unfold idxN; omega) (.inr ⟨rfl, rfl⟩) (by unfold findL; omega) w hv
    · exact below_at v rs key at_ (idxN rs key) (idxN rs key) hat hl rfl (.inl rfl) (by unfold findL idxN; omega) w hv
  · obtain rfl : rs = [] := List.eq_nil_of_length_eq_zero (by omega)
    obtain ⟨A, c, rfl, hlc, hc63⟩ := rr_shape hv
    have E := Lib.hid (show belowL [] key at_ = -1 from rfl)
    rw [List.length_nil]
    clear hl
    go_enter Try.func32, Try.ntmps32
    go_wp2
    go_ret
    rw [E.out]
    exact ⟨rfl, Below.refl _ _⟩
end Go.Proofs.Ytbacdeogggcbfaa

/-
  The contract of the program's Get of a tree.
-/
namespace Go.Pg
theorem getF_step (ps : List (List UInt8)) (key : ByteArray) (f m b : Nat) : getF ps key (f + 1) (m : Int) b =
    if (decR (ps.getD m [])).2.2 ≠ 0 then (none, (decR (ps.getD m [])).2.2) else
    if 0 < b ∧ (decR (ps.getD m [])).1 ≠ b - 1 then (none, 11) else
    if (decR (ps.getD m [])).1 = 0 then (findR (decR (ps.getD m [])).2.1 key, 0) else
    getF ps key f (belowL (decR (ps.getD m [])).2.1 key m) (decR (ps.getD m [])).1 := by
  rw [getF, if_neg (by omega)]
  simp only [Int.toNat_natCast]
theorem getF_end (ps : List (List UInt8)) (key : ByteArray) (f b : Nat) : getF ps key f (-1) b = (none, 11) := by
  cases f with
  | zero => rfl
  | succ f => rw [getF, if_pos (by omega)]
theorem belowL_rng (l : List Rw) (key : ByteArray) (m : Nat) : -1 ≤ belowL l key m ∧ belowL l key m < m := by
  unfold belowL
  cases hx : l[idxN l key]? with
  | none => simp; omega
  | some r =>
    simp only []
    have h := Go.Rst.getNum_spec r.2 0
    split
    · omega
    · rename_i hn
      omega
end Go.Pg
namespace Go.Proofs.Ytbacdeogggcbfaa
open Go.RowKit Go.Rst Go.Pg Go.Crc
def GivesG (w : World) (r : Option (List UInt8) × Nat) (e : Ending) (w' : World) : Prop := ∃ v, e = .returned (.tuple #[v, .bool r.1.isSome, .int .u16 r.2]) ∧ RB w' v (r.1.getD []) ∧ Below w.heap.size w w'
theorem GivesG.none_ {w w' : World} {r : Option (List UInt8) × Nat} {x : Nat} (h : r = (none, x)) (hb : Below w.heap.size w w') : GivesG w r (.returned (.tuple #[.slice none 0 0, .bool false, .int .u16 x])) w' := by
  subst h
  exact ⟨_, rfl, RB.nil_ _, hb⟩
theorem GivesG.mk {w w' : World} {r : Option (List UInt8) × Nat} {o : Option (List UInt8)} {v : Value} (h : r = (o, 0)) (hv : RB w' v (o.getD [])) (hb : Below w.heap.size w w') : GivesG w r (.returned (.tuple #[v, .bool o.isSome, .int .u16 0])) w' := by
  subst h
  exact ⟨_, rfl, hv, hb⟩

set_option maxRecDepth 100000 in
set_option maxHeartbeats 4000000 in
theorem get_any (v : Value) (ps : List (List UInt8)) (hps : ps.length ≤ 1000000) (key : ByteArray) (w : World) (hv : RP w v ps) :
    Calls Try.prog 23 #[v, .string key] w (GivesG w (getL ps key)) := by
  have HV := Lib.hid hv
  obtain ⟨A, c, rfl, hlc, hc, _⟩ := hv
  unfold maxLen at hc
  go_enter Try.func23, Try.ntmps23
  go_wp2
  go_loopw [7, 8] (fun at_ ab wr => ∃ (f : Nat) (a : Int) (b : Nat), at_ = .int .i64 a ∧ ab = .int .i64 b ∧ getF ps key f a b = getL ps key ∧ -1 ≤ a ∧ a < ps.length ∧ a < f ∧ b ≤ 4 ∧ Below w.heap.size w wr) (fun at_ _ _ => (intOf at_ + 1).toNat)
  case atStart => exact ⟨ps.length + 1, (ps.length : Int) - 1, 0, by go_num, rfl, rfl, by omega, by omega, by omega, by omega, Below.refl _ _⟩
  case round =>
    obtain ⟨f, a, b, rfl, rfl, hg, h1, h2, h3, hb4, hbel⟩ := hrel
    have HG := Lib.hid hg
    have HB := Lib.hid hbel
    clear hg hbel
    obtain ⟨Wo, hWo⟩ : ∃ x, x = wr := ⟨_, rfl⟩
    subst hWo
    by_cases ha : a = -1
    · subst ha
      have E := Lib.hid (show getL ps key = (none, 11) by rw [← HG.out, getF_end])
      go_wp2
      go_ret3
      exact GivesG.none_ E.out HB.out
    · obtain ⟨m, rfl⟩ := Int.eq_ofNat_of_zero_le (show 0 ≤ a by omega)
      have hm : m < ps.length := by omega
      obtain ⟨f', rfl⟩ : ∃ f', f = f' + 1 := ⟨f - 1, by omega⟩
      have hg := HG.out
      rw [getF_step, show ps.getD m [] = ps[m] by rw [List.getD_eq_getElem?_getD, List.getElem?_eq_getElem hm]; rfl] at hg
      obtain ⟨bb, off, u, rfl, hbb, hx0, hr⟩ := rp_at HV.out hm
      have hx := (HB.out.cell (p := ⟨bb, off + m, none⟩) hbb).trans hx0
      have hdec := dec_any u ps[m] Wo (hr.below HB.out)
      obtain ⟨A1, c1, hu, _, _, _⟩ := hr
      obtain ⟨pl, hpl⟩ : ∃ pl, pl = ps[m].length := ⟨_, rfl⟩
      rw [← hpl] at hu
      subst hu
      have hl4 := decR_lev ps[m]
      have hrng := belowL_rng (decR ps[m]).2.1 key m
      unfold GivesDec at hdec
      generalize hd1 : (decR ps[m]).1 = lev at *
      generalize hd2 : (decR ps[m]).2.1 = l at *
      generalize hd3 : (decR ps[m]).2.2 = e at *
      have HDEC := Lib.hid hdec
      have HGG := Lib.hid hg
      have q1 : (0 : Int) ≤ (m : Int) := by omega
      have q2 : (m : Int) < ps.length := by omega
      have q3 : (-1 : Int) < (m : Int) := by omega
      clear hdec hg hd1 hd2 hd3 hpl hx0 HG ha
      by_cases he : e = 0
      · subst he
        have hgg := HGG.out
        rw [if_neg (by decide)] at hgg
        by_cases hbk : 0 < b ∧ lev ≠ b - 1
        · rw [if_pos hbk] at hgg
          have E := Lib.hid hgg.symm
          obtain ⟨hb0, hb1⟩ := hbk
          have hb0' : (0 : Int) < (b : Int) := by omega
          have hb1' : ((lev : Int) != (b : Int) - 1) = true := by rw [bne_iff_ne]; omega
          clear hgg hb1
          go_wp2_with fail
          refine HDEC.out.mono ?_
          rintro ee w2 ⟨v2, rfl, ho2, hb2⟩
          obtain ⟨A2, c2, rfl⟩ := or_shape ho2
          have HB2 := Lib.hid (HB.out.trans (hb2.mono HB.out.size))
          clear ho2 hb2
          go_wp2
          go_ret3
          exact GivesG.none_ E.out HB2.out
        · rw [if_neg hbk] at hgg
          by_cases hl0 : lev = 0
          · rw [if_pos hl0] at hgg
            have E := Lib.hid hgg.symm
            subst hl0
            by_cases hb0 : b = 0
            · subst hb0
              clear hgg hbk
              go_wp2_with fail
              refine HDEC.out.mono ?_
              rintro ee w2 ⟨v2, rfl, ho2, hb2⟩
              have hrr2 := ho2.rr
              obtain ⟨A2, c2, rfl⟩ := or_shape ho2
              have hbw := HB.out.trans (hb2.mono HB.out.size)
              have HB2 := Lib.hid hbw
              have HF := Lib.hid (findT_any _ l key w2 hrr2)
              clear ho2 hb2 hbw hrr2
              go_wp2_with fail
              refine HF.out.mono ?_
              rintro e3 w3 ⟨v3, rfl, hr3, hb3⟩
              have HR3 := Lib.hid hr3
              have HB3 := Lib.hid (HB2.out.trans (hb3.mono HB2.out.size))
              obtain ⟨A3, c3, rfl, _, _, _⟩ := hr3
              obtain ⟨o3, ho3⟩ : ∃ o3, o3 = (findR l key).getD [] := ⟨_, rfl⟩
              obtain ⟨n3, hn3⟩ : ∃ n3, n3 = o3.length := ⟨_, rfl⟩
              rw [← ho3] at HR3 ⊢
              rw [← hn3] at HR3 ⊢
              have HO3 := Lib.hid ho3
              clear hb3 ho3 hn3
              go_wp2
              go_ret3
              exact GivesG.mk E.out (by rw [← HO3.out]; exact HR3.out) HB3.out
            · obtain rfl : b = 1 := by omega
              clear hgg hbk
              go_wp2_with fail
              refine HDEC.out.mono ?_
              rintro ee w2 ⟨v2, rfl, ho2, hb2⟩
              have hrr2 := ho2.rr
              obtain ⟨A2, c2, rfl⟩ := or_shape ho2
              have hbw := HB.out.trans (hb2.mono HB.out.size)
              have HB2 := Lib.hid hbw
              have HF := Lib.hid (findT_any _ l key w2 hrr2)
              clear ho2 hb2 hbw hrr2
              go_wp2_with fail
              refine HF.out.mono ?_
              rintro e3 w3 ⟨v3, rfl, hr3, hb3⟩
              have HR3 := Lib.hid hr3
              have HB3 := Lib.hid (HB2.out.trans (hb3.mono HB2.out.size))
              obtain ⟨A3, c3, rfl, _, _, _⟩ := hr3
              obtain ⟨o3, ho3⟩ : ∃ o3, o3 = (findR l key).getD [] := ⟨_, rfl⟩
              obtain ⟨n3, hn3⟩ : ∃ n3, n3 = o3.length := ⟨_, rfl⟩
              rw [← ho3] at HR3 ⊢
              rw [← hn3] at HR3 ⊢
              have HO3 := Lib.hid ho3
              clear hb3 ho3 hn3
              go_wp2
              go_ret3
              exact GivesG.mk E.out (by rw [← HO3.out]; exact HR3.out) HB3.out
          · rw [if_neg hl0] at hgg
            have E := Lib.hid hgg
            have hl0' : ((lev : Int) == 0) = false := by rw [beq_eq_false_iff_ne]; omega
            by_cases hb0 : b = 0
            · subst hb0
              clear hgg hbk hl0
              go_wp2_with fail
              refine HDEC.out.mono ?_
              rintro ee w2 ⟨v2, rfl, ho2, hb2⟩
              have hrr2 := ho2.rr
              obtain ⟨A2, c2, rfl⟩ := or_shape ho2
              have hbw := HB.out.trans (hb2.mono HB.out.size)
              have HB2 := Lib.hid hbw
              have HF := Lib.hid (below_any _ l key m (by omega) w2 hrr2)
              clear ho2 hb2 hbw hrr2
              go_wp2_with fail
              refine HF.out.mono ?_
              rintro e3 w3 ⟨rfl, hb3⟩
              have HB3 := Lib.hid (HB2.out.trans (hb3.mono HB2.out.size))
              clear hb3
              go_wp2
              go_roundw
              case rel => exact ⟨f', belowL l key m, lev, rfl, rfl, E.out, hrng.1, by omega, by omega, hl4, HB3.out⟩
              case measure => simp [intOf]; omega
            · obtain rfl : b = lev + 1 := by omega
              have hb0' : (0 : Int) < ((lev : Int) + 1) := by omega
              have hb1' : ((lev : Int) != ((lev : Int) + 1) - 1) = false := by rw [bne_eq_false_iff_eq]; omega
              clear hgg hbk hl0
              go_wp2_with fail
              refine HDEC.out.mono ?_
              rintro ee w2 ⟨v2, rfl, ho2, hb2⟩
              have hrr2 := ho2.rr
              obtain ⟨A2, c2, rfl⟩ := or_shape ho2
              have hbw := HB.out.trans (hb2.mono HB.out.size)
              have HB2 := Lib.hid hbw
              have HF := Lib.hid (below_any _ l key m (by omega) w2 hrr2)
              clear ho2 hb2 hbw hrr2
              go_wp2_with fail
              refine HF.out.mono ?_
              rintro e3 w3 ⟨rfl, hb3⟩
              have HB3 := Lib.hid (HB2.out.trans (hb3.mono HB2.out.size))
              clear hb3
              go_wp2
              go_roundw
              case rel => exact ⟨f', belowL l key m, lev, rfl, rfl, E.out, hrng.1, by omega, by omega, hl4, HB3.out⟩
              case measure => simp [intOf]; omega
      · have hgg := HGG.out
        rw [if_pos he] at hgg
        have E := Lib.hid hgg.symm
        have he' : ((e : Int) != 0) = true := by rw [bne_iff_ne]; omega
        clear hgg he
        go_wp2_with fail
        refine HDEC.out.mono ?_
        rintro ee w2 ⟨v2, rfl, ho2, hb2⟩
        obtain ⟨A2, c2, rfl⟩ := or_shape ho2
        have HB2 := Lib.hid (HB.out.trans (hb2.mono HB.out.size))
        clear ho2 hb2
        go_wp2
        go_ret3
        exact GivesG.none_ E.out HB2.out
end Go.Proofs.Ytbacdeogggcbfaa
