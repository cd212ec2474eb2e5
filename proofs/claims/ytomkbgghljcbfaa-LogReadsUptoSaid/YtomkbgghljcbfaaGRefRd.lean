/-
  Plain mathematics: the document's frame under way. No program.
-/
import Derived.Test.YtomkbgghljcbfaaRefPiece
import Derived.Test.YtomkbgghljcbfaaGFrame
import Derived.Test.YtomkbgghljcbfaaGRefCh
import Derived.Test.YtomkbgghljcbfaaGSet
import Derived.Test.YtomkbgghljcbfaaReadP
import Derived.Test.YtomkbgghljcbfaaGKnown
set_option linter.unusedVariables false

namespace Go.Proofs.Ytomkbgghljcbfaa
open Go.RowKit Go.Rst Go.Pg Go.Crc
theorem ok_good {ep n i of : Nat} {s : List UInt8} (h : okP s ep n i of) : GoodS ep n s i (b9 s) := by
  obtain ⟨h1, h2, h3, h4, h5, h6, h7, h8⟩ := h
  exact ⟨h1, h2, h3, h7.symm, h8⟩
theorem good_b9 {ep n i of : Nat} {s : List UInt8} (h : GoodS ep n s i of) (hof : of ≤ 200) : b9 s = of := by
  have hl := pieceP_len h.len h.hi
  have := (part_bytes (ep := ep) (n := n) (i := i) (of := of) (p := pieceP s) (by rw [hl]; exact h.hi) (by omega)).1
  rw [← h.eq] at this
  exact this
theorem good_ok {ep n i of k : Nat} {s : List UInt8} (h : GoodS ep n s i of) (h1 : 1 ≤ of) (h2 : of ≤ 200) (hk : 0 < k → k = of) : okP s ep n i k := by
  have hb := good_b9 h h2
  exact ⟨h.len, h.lo, h.hi, by omega, by omega, fun hh => by rw [hb, hk hh], by rw [hb]; exact h.eq.symm, fun hh => h.full (by omega)⟩
/-- So many sectors of a frame. -/
structure PF (ep n : Nat) (ss : List (List UInt8)) (i of : Nat) : Prop where
  le : i ≤ ss.length
  head : i = 0 → of = 0
  told : 0 < i → of = toldL ss ∧ 1 ≤ of ∧ of ≤ 200 ∧ i ≤ of
  good : ∀ j (h : j < ss.length), j < i → GoodS ep n ss[j] j of
section
variable {ep n i of : Nat} {ss : List (List UInt8)}
theorem PF.start (ep n : Nat) (ss : List (List UInt8)) : PF ep n ss 0 0 := ⟨Nat.zero_le _, fun _ => rfl, fun h => by omega, fun j _ h => by omega⟩
theorem told_at (h : 0 < ss.length) (hl : ss[0].length = 64) : toldL ss = b9 ss[0] := by
  cases ss with
  | nil => simp at h
  | cons s ss =>
    rw [List.getElem_cons_zero] at hl ⊢
    show (if s.length = 64 then b9 s else 0) = b9 s
    rw [if_pos hl]
theorem PF.next (h : PF ep n ss i of) (hc : i = 0 ∨ i < of) (hi : i < ss.length) (hok : okP ss[i] ep n i of) : PF ep n ss (i + 1) (b9 ss[i]) := by
  have hg := ok_good hok
  obtain ⟨h1, h2, h3, h4, h5, h6, h7, h8⟩ := hok
  by_cases h0 : i = 0
  · subst h0
    exact ⟨hi, fun h => by omega, fun _ => ⟨(told_at hi h1).symm, h4, h5, h4⟩, fun j hj hji => by
      have : j = 0 := by omega
      subst this
      exact hg⟩
  · obtain ⟨t1, t2, t3, t4⟩ := h.told (by omega)
    have hb := h6 (by omega)
    rw [hb] at hg ⊢
    exact ⟨hi, fun h => by omega, fun _ => ⟨t1, t2, t3, by omega⟩, fun j hj hji => by
      by_cases e : j = i
      · subst e; exact hg
      · exact h.good j hj (by omega)⟩
theorem PF.done (h : PF ep n ss i of) (hc : ¬ (i = 0 ∨ i < of)) : i = of ∧ GoodF ep n ss of := by
  obtain ⟨t1, t2, t3, t4⟩ := h.told (by omega)
  have hle := h.le
  have e : i = of := by omega
  subst e
  exact ⟨rfl, t1, t2, t3, hle, h.good⟩
theorem PF.short (h : PF ep n ss i of) (hc : i = 0 ∨ i < of) (hi : i = ss.length) : ¬ GoodF ep n ss (toldL ss) := fun g => by
  have g1 := g.lo
  have g2 := g.le
  by_cases h0 : i = 0
  · omega
  · obtain ⟨t1, _⟩ := h.told (by omega)
    omega
theorem PF.none (h : PF ep n ss i of) (hc : i = 0 ∨ i < of) (hi : i < ss.length) (hok : ¬ okP ss[i] ep n i of) : ¬ GoodF ep n ss (toldL ss) := fun g => by
  have g1 := g.lo
  have g2 := g.hi
  by_cases h0 : i = 0
  · subst h0
    have := h.head rfl
    exact hok (good_ok (g.good 0 hi (by omega)) g1 g2 (fun hh => by omega))
  · obtain ⟨t1, _⟩ := h.told (by omega)
    exact hok (good_ok (g.good i hi (by omega)) g1 g2 (fun _ => t1))
end
theorem frame_no {ep n : Nat} {ss : List (List UInt8)} (h : ¬ GoodF ep n ss (toldL ss)) : frameS ep n ss = ([], 0) := frame_not h
end Go.Proofs.Ytomkbgghljcbfaa

/-
  The contract of the document's frame: the frame that stands at the front of some sectors.
-/
set_option linter.unusedVariables false
namespace Go.Proofs.Ytomkbgghljcbfaa
open Go.RowKit Go.Rst Go.Pg Go.Crc

set_option maxRecDepth 100000 in
set_option maxHeartbeats 3000000 in
theorem refFrame_any (ep n : Nat) (v : Value) (ss : List (List UInt8)) (he : ep ≤ 1073741824) (hn : n ≤ 1073741824) (w : World) (hv : RP w v ss) :
    Calls Try.prog 50 #[.int .i64 ep, .int .i64 n, v] w (GivesFr w (frameS ep n ss)) := by
  have HV := Lib.hid hv
  obtain ⟨A, c, rfl, hlc, hc, _⟩ := hv
  unfold maxLen at hc
  go_enter Try.func50, Try.ntmps50
  go_wp2
  go_loopw [8, 9, 10, 11, 12, 13] (fun av ov iv _ _ _ wr => ∃ i of L : Nat, PF ep n ss i of ∧ iv = .int .i64 i ∧ ov = .int .i64 of ∧ L = (allP (ss.take i)).length ∧ wr.ownsRow w.heap.size 5 1 av L (bvs (allP (ss.take i))) ∧ Below w.heap.size w wr)
    (fun _ _ iv _ _ _ _ => 1000 - (intOf iv).toNat)
  case atStart => exact ⟨0, 0, 0, PF.start ep n ss, rfl, rfl, by simp [allP], World.ownsRow_nil _ _ _ _, Below.refl _ _⟩
  case round =>
    obtain ⟨i, of, L, hpf, rfl, rfl, hL, hown, hbel⟩ := hrel
    have hi200 : i ≤ 200 := by
      by_cases h : i = 0
      · omega
      · obtain ⟨_, _, h3, h4⟩ := hpf.told (by omega)
        omega
    have hof200 : of ≤ 200 := by
      by_cases h : i = 0
      · have := hpf.head h; omega
      · obtain ⟨_, _, h3, h4⟩ := hpf.told (by omega)
        omega
    have hLl : L ≤ 9800 := by
      have := allP_len (ss.take i)
      rw [List.length_take] at this
      omega
    have hle := hpf.le
    obtain ⟨Ao, co, rfl, _⟩ := own_shape hown
    have HPF := Lib.hid hpf
    have HO := Lib.hid hown
    have HB := Lib.hid hbel
    have HLE := Lib.hid hL
    have hsz := hbel.size
    clear hpf hown hbel hL
    by_cases hcond : i = 0 ∨ i < of
    · have HSH := Lib.hid (HPF.out.short hcond)
      have HNX := Lib.hid (HPF.out.next hcond)
      have HNO := Lib.hid (HPF.out.none hcond)
      rcases (show (i = 0) ∨ (¬ i = 0 ∧ i < of) by omega) with hz | ⟨hz, hlt⟩
      · have hz' : ((i : Int) == 0) = true := by rw [beq_iff_eq]; omega
        clear hz hcond
        by_cases hil : i < ss.length
        · have hne : ((i : Int) == (ss.length : Int)) = false := by rw [beq_eq_false_iff_ne]; omega
          have q0 : (0 : Int) ≤ i := by omega
          have q1 : (i : Int) < ss.length := by omega
          obtain ⟨b, off, u, rfl, hb, hu, hr⟩ := rp_at HV.out hil
          have hu' := (HB.out.cell (p := ⟨b, off + i, none⟩) hb).trans hu
          have hpc := refPiece_any u ss[i] ep n i of he hn (by omega) (by omega) wr (hr.below HB.out)
          have hnx := HNX.out hil
          have hno := HNO.out hil
          have HAP := Lib.hid (allP_take hil)
          obtain ⟨Au, cu, rfl⟩ := rb_shape hr
          obtain ⟨s, hs⟩ : ∃ s, s = ss[i] := ⟨_, rfl⟩
          rw [← hs] at hpc hnx hno HAP hu' hr
          obtain ⟨ls, hls⟩ : ∃ ls, ls = s.length := ⟨_, rfl⟩
          rw [← hls] at hpc hu'
          have HPC := Lib.hid hpc
          have HNX2 := Lib.hid hnx
          have HNO2 := Lib.hid hno
          have h9b : b9 s ≤ 255 := by unfold b9; have := (s.getD 9 0).toNat_lt; omega
          obtain ⟨k9, hk9⟩ : ∃ k, k = b9 s := ⟨_, rfl⟩
          rw [← hk9] at h9b HNX2
          have HK9 := Lib.hid hk9
          clear hpc hnx hno hs hls hu hr hk9
          go_wp2_with fail
          refine HPC.out.mono ?_
          rintro e w2 ⟨hres, hb2⟩
          have HB2 := Lib.hid (HB.out.trans (hb2.mono hsz))
          have HO2 := Lib.hid (own_below HO.out hb2)
          clear HPC
          rcases hres with ⟨hok, up, rfl, hrp⟩ | ⟨hok, rfl⟩
          · rw [← HK9.out]
            have HN := Lib.hid (HNX2.out hok)
            have hPl : (pieceP s).length ≤ 49 := by unfold pieceP; rw [List.length_take]; omega
            have HSRC := Lib.hid ((hrp.below hb2).src (P := Try.prog) Try.underlying23)
            obtain ⟨Ap, cp, rfl⟩ := rb_shape hrp
            clear hok hrp hb2 HNX2 HNO2
            generalize pieceP s = P at *
            go_wp2_with (at_builtin; refine wpList_own rfl (.tmp 45) (.tmp 46) 23 23 rfl w.heap.size 5 (.int .u8 0) 1 1 Try.underlying23 info5 rfl rfl HO2.out rfl HSRC.out HB2.out (Nat.le_refl _) ?_ ?_ ?_ ?_)
            · unfold maxLen; omega
            · omega
            · exact HB2.out.size
            intro v6 w6 ho6 hb6 _
            rw [← bvs_append, ← HAP.out] at ho6
            have HO6 := Lib.hid ho6
            have HB6 := Lib.hid hb6
            clear ho6 hb6
            go_wp2
            go_roundw
            case rel => exact ⟨i + 1, k9, L + P.length, HN.out, by go_num, rfl, by rw [HAP.out, List.length_append, ← HLE.out], HO6.out, HB6.out⟩
            case measure => simp [intOf]; omega
          · have HN := Lib.hid (frame_no (HNO2.out hok))
            clear hok hb2
            go_wp2
            go_ret2
            exact GivesFr.none_ HN.out HB2.out
        · have hne : ((i : Int) == (ss.length : Int)) = true := by rw [beq_iff_eq]; omega
          have HN := Lib.hid (frame_no (HSH.out (by omega)))
          go_wp2
          go_ret2
          exact GivesFr.none_ HN.out HB.out
      · have hz' : ((i : Int) == 0) = false := by rw [beq_eq_false_iff_ne]; omega
        have hlt' : (i : Int) < (of : Int) := by omega
        clear hz hcond hlt
        by_cases hil : i < ss.length
        · have hne : ((i : Int) == (ss.length : Int)) = false := by rw [beq_eq_false_iff_ne]; omega
          have q0 : (0 : Int) ≤ i := by omega
          have q1 : (i : Int) < ss.length := by omega
          obtain ⟨b, off, u, rfl, hb, hu, hr⟩ := rp_at HV.out hil
          have hu' := (HB.out.cell (p := ⟨b, off + i, none⟩) hb).trans hu
          have hpc := refPiece_any u ss[i] ep n i of he hn (by omega) (by omega) wr (hr.below HB.out)
          have hnx := HNX.out hil
          have hno := HNO.out hil
          have HAP := Lib.hid (allP_take hil)
          obtain ⟨Au, cu, rfl⟩ := rb_shape hr
          obtain ⟨s, hs⟩ : ∃ s, s = ss[i] := ⟨_, rfl⟩
          rw [← hs] at hpc hnx hno HAP hu' hr
          obtain ⟨ls, hls⟩ : ∃ ls, ls = s.length := ⟨_, rfl⟩
          rw [← hls] at hpc hu'
          have HPC := Lib.hid hpc
          have HNX2 := Lib.hid hnx
          have HNO2 := Lib.hid hno
          have h9b : b9 s ≤ 255 := by unfold b9; have := (s.getD 9 0).toNat_lt; omega
          obtain ⟨k9, hk9⟩ : ∃ k, k = b9 s := ⟨_, rfl⟩
          rw [← hk9] at h9b HNX2
          have HK9 := Lib.hid hk9
          clear hpc hnx hno hs hls hu hr hk9
          go_wp2_with fail
          refine HPC.out.mono ?_
          rintro e w2 ⟨hres, hb2⟩
          have HB2 := Lib.hid (HB.out.trans (hb2.mono hsz))
          have HO2 := Lib.hid (own_below HO.out hb2)
          clear HPC
          rcases hres with ⟨hok, up, rfl, hrp⟩ | ⟨hok, rfl⟩
          · rw [← HK9.out]
            have HN := Lib.hid (HNX2.out hok)
            have hPl : (pieceP s).length ≤ 49 := by unfold pieceP; rw [List.length_take]; omega
            have HSRC := Lib.hid ((hrp.below hb2).src (P := Try.prog) Try.underlying23)
            obtain ⟨Ap, cp, rfl⟩ := rb_shape hrp
            clear hok hrp hb2 HNX2 HNO2
            generalize pieceP s = P at *
            go_wp2_with (at_builtin; refine wpList_own rfl (.tmp 45) (.tmp 46) 23 23 rfl w.heap.size 5 (.int .u8 0) 1 1 Try.underlying23 info5 rfl rfl HO2.out rfl HSRC.out HB2.out (Nat.le_refl _) ?_ ?_ ?_ ?_)
            · unfold maxLen; omega
            · omega
            · exact HB2.out.size
            intro v6 w6 ho6 hb6 _
            rw [← bvs_append, ← HAP.out] at ho6
            have HO6 := Lib.hid ho6
            have HB6 := Lib.hid hb6
            clear ho6 hb6
            go_wp2
            go_roundw
            case rel => exact ⟨i + 1, k9, L + P.length, HN.out, by go_num, rfl, by rw [HAP.out, List.length_append, ← HLE.out], HO6.out, HB6.out⟩
            case measure => simp [intOf]; omega
          · have HN := Lib.hid (frame_no (HNO2.out hok))
            clear hok hb2
            go_wp2
            go_ret2
            exact GivesFr.none_ HN.out HB2.out
        · have hne : ((i : Int) == (ss.length : Int)) = true := by rw [beq_iff_eq]; omega
          have HN := Lib.hid (frame_no (HSH.out (by omega)))
          go_wp2
          go_ret2
          exact GivesFr.none_ HN.out HB.out
    · obtain ⟨hio, hg⟩ := HPF.out.done hcond
      have hz' : ((i : Int) == 0) = false := by rw [beq_eq_false_iff_ne]; omega
      have hlt' : ¬ (i : Int) < (of : Int) := by omega
      have hrb := RB.own (by rw [← HLE.out]; exact HO.out : wr.ownsRow w.heap.size 5 1 (.slice Ao L co) (allP (ss.take i)).length (bvs (allP (ss.take i))))
      have HCALL := Lib.hid (refReadChgs_any _ _ wr hrb)
      have HOK := Lib.hid (fun (h : (readChgs (allP (ss.take i))).2 = 0) => by rw [hio] at h ⊢; exact good_frame hg he hn h : (readChgs (allP (ss.take i))).2 = 0 → frameS ep n ss = ((readChgs (allP (ss.take i))).1, of))
      have HER := Lib.hid (fun (h : (readChgs (allP (ss.take i))).2 ≠ 0) => by rw [hio] at h; exact frame_err hg h : (readChgs (allP (ss.take i))).2 ≠ 0 → frameS ep n ss = ([], 0))
      clear hcond hio hg hrb
      generalize readChgs (allP (ss.take i)) = r at *
      obtain ⟨cs, er⟩ := r
      simp only at HOK HER
      go_wp2_with fail
      refine HCALL.out.mono ?_
      rintro e w2 ⟨v2, rfl, hoc, hb2⟩
      have hoc : OC 5 51 w2 wr.heap.size v2 cs := hoc
      have HOC := Lib.hid (hoc.base_ hsz)
      have HB2 := Lib.hid (HB.out.trans (hb2.mono hsz))
      obtain ⟨A2, c2, rfl, _, _, _⟩ := hoc.rc
      clear hoc hb2 HCALL
      by_cases her : er = 0
      · have H := Lib.hid (HOK.out her)
        have her' : (er != 0) = false := by rw [bne_eq_false_iff_eq]; exact her
        subst her
        go_wp2
        go_ret2
        rw [H.out]
        exact ⟨_, rfl, HOC.out, HB2.out⟩
      · have H := Lib.hid (HER.out her)
        have her' : (er != 0) = true := by rw [bne_iff_ne]; exact her
        clear her
        go_wp2
        go_ret2
        exact GivesFr.none_ H.out HB2.out
end Go.Proofs.Ytomkbgghljcbfaa

/-
  The contract of the document's Read: all frames that stand at the front of some sectors.
-/
set_option linter.unusedVariables false
namespace Go.Proofs.Ytomkbgghljcbfaa
open Go.RowKit Go.Rst Go.Pg Go.Crc

set_option maxRecDepth 100000 in
set_option maxHeartbeats 3000000 in
theorem refRead_any (ep : Int) (v : Value) (ss : List (List UInt8)) (w : World) (hv : RP w v ss) (hl : ss.length ≤ 1000000) :
    Calls Try.prog 28 #[.int .i64 ep, v] w (GivesRd w (readS ep ss)) := by
  have HV := Lib.hid hv
  obtain ⟨A, c, rfl, hlc, hc, _⟩ := hv
  unfold maxLen at hc
  have hout : (ep < 0 ∨ 1073741824 < ep) → readS ep ss = ([], 0) := fun h => by
    unfold readS
    exact readF_stop (by rw [frame_out (by omega)])
  by_cases hlo : 0 ≤ ep
  · by_cases hhi : ep ≤ 1073741824
    · obtain ⟨E, rfl⟩ := Int.eq_ofNat_of_zero_le hlo
      have hE : E ≤ 1073741824 := by omega
      have hlc' : (ss.length : Int) ≤ (c : Int) := by omega
      clear hout
      go_enter Try.func28, Try.ntmps28
      go_wp2
      go_loopw [6, 7, 8, 9] (fun ov av _ _ wr => ∃ (fs : List (List Chg)) (at_ : Nat), Left E ss (readS E ss) fs at_ ∧ av = .int .i64 at_ ∧ OF wr w.heap.size ov fs ∧ fs.length ≤ at_ ∧ Below w.heap.size w wr)
        (fun _ av _ _ _ => ss.length - (intOf av).toNat)
      case atStart => exact ⟨[], 0, Left.start E ss, rfl, OF.nil_ _ _, Nat.le_refl _, Below.refl _ _⟩
      case round =>
        obtain ⟨fs, at_, hlf, rfl, hof, hfl, hbel⟩ := hrel
        obtain ⟨Wo, hWo⟩ : ∃ x, x = wr := ⟨_, rfl⟩
        subst hWo
        have hat := hlf.1
        have hat0 : (0 : Int) ≤ (at_ : Int) := by omega
        have hat' : ((at_ : Nat) : Int) ≤ (ss.length : Int) := by omega
        obtain ⟨A1, c1, rfl, hcm1, hlc1⟩ := hof.shape
        have hfr := refFrame_any E fs.length (.slice (if c = at_ then A else Option.map (fun x => x.add at_) A) (ss.length - at_) (c - at_)) (ss.drop at_) hE (by omega) Wo (rp_cut (rp_below HV.out hbel (Nat.le_refl _)) hat)
        have hfle := frame_le (epoch := E) (num := fs.length) (ss := ss.drop at_)
        rw [List.length_drop] at hfle
        have hstop := hlf.stop
        have hnext := hlf.next
        generalize frameS (E : Int) fs.length (ss.drop at_) = r at *
        obtain ⟨l, C⟩ := r
        simp only at hstop hnext hfle
        have HFR := Lib.hid hfr
        have HOF := Lib.hid hof
        have HB := Lib.hid hbel
        have hsz := hbel.size
        have HST := Lib.hid hstop
        have HNX := Lib.hid hnext
        clear hfr hof hbel hlf hstop hnext
        by_cases hck : at_ = c
        · subst hck
          have hfr := HFR.out
          rw [if_pos rfl, Nat.sub_self, show ss.length - at_ = 0 by omega] at hfr
          have HFR2 := Lib.hid hfr
          clear hfr HFR
          go_wp2_with fail
          refine HFR2.out.mono ?_
          rintro e W2 ⟨u, rfl, huc, hb2⟩
          obtain ⟨Au, cu, rfl, _⟩ := huc.rc
          have HOF2 := Lib.hid (HOF.out.below hb2)
          have HBB := Lib.hid (HB.out.trans (hb2.mono hsz))
          have hC : C = 0 := by omega
          subst hC
          have hR := Lib.hid (HST.out rfl)
          clear huc hb2
          go_wp2
          go_ret2
          exact ⟨_, by rw [hR.out]; rfl, by rw [hR.out]; exact HOF2.out, HBB.out⟩
        · have hck' : ¬ c = at_ := fun h => hck h.symm
          have hfr := HFR.out
          rw [if_neg hck'] at hfr
          have HFR2 := Lib.hid hfr
          clear hfr HFR
          go_wp2_with fail
          refine HFR2.out.mono ?_
          rintro e W2 ⟨u, rfl, huc, hb2⟩
          obtain ⟨Au, cu, rfl, _⟩ := huc.rc
          have HOF2 := Lib.hid (HOF.out.below hb2)
          have hBB := HB.out.trans (hb2.mono hsz)
          have hsz2 := hBB.size
          have HBB := Lib.hid hBB
          have HU := Lib.hid (huc.base_ hsz)
          clear huc hBB
          by_cases hC : C = 0
          · subst hC
            have hR := Lib.hid (HST.out rfl)
            go_wp2
            go_ret2
            exact ⟨_, by rw [hR.out]; rfl, by rw [hR.out]; exact HOF2.out, HBB.out⟩
          · have hC0 : (0 : Int) < (C : Int) := by omega
            have hC1 : ((C : Int) == 0) = false := by rw [beq_eq_false_iff_ne]; omega
            have hNX := Lib.hid (HNX.out hC)
            have hb6 := (Below.refl W2.heap.size W2).alloc (Nat.le_refl _) (Obj.cells #[.slice Au l.length cu] 22)
            have HBB6 := Lib.hid (HBB.out.trans (hb6.mono hsz2))
            have hsz6 := HBB6.out.size
            have HU6 := Lib.hid (HU.out.below (hb6.mono (Nat.le_refl _)))
            obtain ⟨us, hus, ho, hf⟩ := HOF2.out.below hb6
            have HUL := Lib.hid (show us.length = fs.length by rw [← hus, List.length_map])
            have HO := Lib.hid ho
            have HF := Lib.hid hf
            have HUS := Lib.hid hus
            clear ho hf hus hb2
            have HSN := Lib.hid (src_one W2 Try.underlying42 22 (.slice Au l.length cu) rfl)
            go_wp2_with (at_builtin; refine wpList_own rfl (.tmp 30) (.tmp 32) 42 42 rfl w.heap.size 22 (.slice none 0 0) 1 24 Try.underlying42 info22 rfl rfl HO.out rfl HSN.out HBB6.out (Nat.le_refl _) ?_ ?_ ?_ ?_)
            · have := HUL.out
              unfold maxLen
              omega
            · have := HUL.out
              omega
            · exact hsz6
            intro v5 w5 ho5 hb5 hg5
            have hrf := OF.push HO.out HF.out HU6.out ho5 hg5
            rw [HUS.out] at hrf
            have HRF := Lib.hid hrf
            have HB5 := Lib.hid hb5
            clear ho5 hg5 hrf hb5
            go_wp2
            go_roundw
            case rel => exact ⟨fs ++ [l], at_ + C, hNX.out, by go_num, HRF.out, by rw [List.length_append, List.length_singleton]; omega, HB5.out⟩
            case measure => simp [intOf]; omega
    · have hR := Lib.hid (hout (.inr (by omega)))
      clear hout
      go_enter Try.func28, Try.ntmps28
      go_wp2
      go_loopw [6, 7, 8, 9] (fun ov av _ _ wr => ov = .slice none 0 0 ∧ av = .int .i64 0 ∧ wr = w) (fun _ _ _ _ _ => 0)
      case atStart => exact ⟨rfl, rfl, rfl⟩
      case round =>
        obtain ⟨rfl, rfl, rfl⟩ := hrel
        go_wp2
        go_ret2
        exact ⟨_, by rw [hR.out]; rfl, by rw [hR.out]; exact OF.nil_ _ _, Below.refl _ _⟩
  · have hR := Lib.hid (hout (.inl (by omega)))
    clear hout
    go_enter Try.func28, Try.ntmps28
    go_wp2
    go_loopw [6, 7, 8, 9] (fun ov av _ _ wr => ov = .slice none 0 0 ∧ av = .int .i64 0 ∧ wr = w) (fun _ _ _ _ _ => 0)
    case atStart => exact ⟨rfl, rfl, rfl⟩
    case round =>
      obtain ⟨rfl, rfl, rfl⟩ := hrel
      go_wp2
      go_ret2
      exact ⟨_, by rw [hR.out]; rfl, by rw [hR.out]; exact OF.nil_ _ _, Below.refl _ _⟩
end Go.Proofs.Ytomkbgghljcbfaa
