/-
  The contract of the document's own level of a tree.
-/
import Derived.Test.YtbacdeogggcbfaaRefTree
import Derived.Test.YtbacdeogggcbfaaRefEnc
namespace Go.Pg
theorem ok_fit {lev : Int} (h0 : 0 ≤ lev) (h4 : lev ≤ 4) (rs : List Rw) : pageOk lev (rs.take (fitN rs)) = true := by
  have := fitN_fit rs
  unfold pageOk
  simp only [decide_eq_true_eq]
  exact ⟨h0, h4, this⟩
theorem chunk_end (f : Nat) {cs : List (List Rw)} (h : cs ≠ []) : chunkF f cs [] = some cs := by
  cases f with
  | zero => rfl
  | succ f => rw [chunkF, if_pos ⟨rfl, h⟩]
theorem chunk_none {f : Nat} {cs : List (List Rw)} {l : List Rw} (hl : l ≠ []) (h0 : fitN l = 0) : chunkF (f + 1) cs l = none := by
  rw [chunkF, if_neg (fun h => hl h.1), if_pos ⟨h0, hl⟩]
theorem chunk_more {f : Nat} {cs : List (List Rw)} {l : List Rw} (hl : l ≠ []) (h0 : 0 < fitN l) : chunkF (f + 1) cs l = chunkF f (cs ++ [l.take (fitN l)]) (l.drop (fitN l)) := by
  rw [chunkF, if_neg (fun h => hl h.1), if_neg (fun h => by omega)]
theorem chunk_first (f : Nat) : chunkF (f + 1) [] [] = some [[]] := by
  rw [chunkF, if_neg (fun h => h.2 rfl), if_neg (fun h => h.2 rfl)]
  exact chunk_end f (by simp)
end Go.Pg
namespace Go.Proofs.Ytbacdeogggcbfaa
open Go.RowKit Go.Rst Go.Pg Go.Crc

def vlen (v : Value) : Nat := match v with
  | .slice _ n _ => n
  | _ => 0
def GivesLv (w : World) (r : Option (List (List UInt8) × List Rw)) (e : Ending) (w' : World) : Prop :=
  ∃ p a, e = .returned (.tuple #[p, a, .bool r.isSome]) ∧ OP 5 23 w' w.heap.size p ((r.map (·.1)).getD []) ∧ OR 5 25 w' w.heap.size a ((r.map (·.2)).getD []) ∧ Below w.heap.size w w'
theorem GivesLv.none_ {w w' : World} {r : Option (List (List UInt8) × List Rw)} (h : r = none) (hb : Below w.heap.size w w') : GivesLv w r (.returned (.tuple #[.slice none 0 0, .slice none 0 0, .bool false])) w' := by
  subst h
  exact ⟨_, _, rfl, OP.nil_ _ _ _ _, OR.nil_ _ _ _ _, hb⟩
theorem GivesLv.some_ {w w' : World} {r : Option (List (List UInt8) × List Rw)} {ps : List (List UInt8)} {rs : List Rw} {p a : Value} (h : r = some (ps, rs)) (hp : OP 5 23 w' w.heap.size p ps) (ha : OR 5 25 w' w.heap.size a rs) (hb : Below w.heap.size w w') :
    GivesLv w r (.returned (.tuple #[p, a, .bool true])) w' := by
  subst h
  exact ⟨_, _, rfl, hp, ha, hb⟩
theorem rr_shape {w : World} {v : Value} {rs : List Rw} (h : RR w v rs) : ∃ A c, v = .slice A rs.length c ∧ rs.length ≤ c ∧ (c : Int) ≤ 9223372036854775807 := by
  obtain ⟨A, c, h, h1, h2, _⟩ := h
  refine ⟨A, c, h, h1, ?_⟩
  unfold maxLen at h2; omega
theorem rr_drop {w : World} {b off m c : Nat} {rs : List Rw} (h : RR w (.slice (some ⟨b, off, none⟩) m c) rs) {k : Nat} (hk : k ≤ rs.length) : RR w (.slice (some ⟨b, off + k * 2, none⟩) (m - k) (c - k)) (rs.drop k) := by
  obtain ⟨A', c', he, h1, h2, h3⟩ := h
  injection he with e1 e2 e3
  subst e1
  subst e2
  subst e3
  refine ⟨some ⟨b, off + k * 2, none⟩, c - k, by rw [List.length_drop], by rw [List.length_drop]; omega, by omega, ?_⟩
  rcases h3 with rfl | ⟨b', off', he, hb, hc⟩
  · exact .inl (by simp)
  · injection he with he
    injection he with e1 e2 _
    subst e1
    subst e2
    refine .inr ⟨b, off + k * 2, rfl, hb, fun j hj => ?_⟩
    rw [List.length_drop] at hj
    have := hc (k + j) (by omega)
    rw [List.getElem_drop, show off + k * 2 + j * 2 = off + (k + j) * 2 from by omega]
    exact this
theorem rr_empty {w : World} (A : Option Addr) (c : Nat) (h : c ≤ maxLen) : RR w (.slice A 0 c) [] := ⟨A, c, rfl, Nat.zero_le _, h, .inl rfl⟩

set_option maxRecDepth 100000 in
set_option maxHeartbeats 400000 in
theorem refLevel_any (n from_ : Nat) (hn : n ≤ 4) (hfr : from_ ≤ 1000000) (v : Value) (rs : List Rw) (hlen : rs.length ≤ 1000000) (w : World) (hv : RR w v rs) :
    Calls Try.prog 30 #[.int .i64 n, .int .i64 from_, v] w (GivesLv w (levelL n from_ rs)) := by
  have HV := Lib.hid hv
  obtain ⟨A, c, rfl, _, _⟩ := rr_shape hv
  have hL : levelL n from_ rs = (chunks rs).map fun cs => (pagesF n cs, aboveF from_ cs) := rfl
  have HL := Lib.hid hL
  clear hv hL
  go_enter Try.func30, Try.ntmps30
  go_wp2
  go_loopw [2, 9, 10] (fun lv pv av wr => ∃ (f : Nat) (cs : List (List Rw)) (rest : List Rw), RR w lv rest ∧ OP 5 23 wr w.heap.size pv (pagesF n cs) ∧ OR 5 25 wr w.heap.size av (aboveF from_ cs) ∧ Below w.heap.size w wr ∧
      chunkF f cs rest = chunks rs ∧ rest.length ≤ f ∧ (cs = [] → rest.length + 1 ≤ f) ∧ cs.length + rest.length ≤ rs.length + 1)
    (fun lv pv _ _ => vlen lv + (1 - vlen pv))
  case atStart => exact ⟨rs.length + 1, [], rs, HV.out, OP.nil_ _ _ _ _, OR.nil_ _ _ _ _, Below.refl _ _, rfl, by omega, fun _ => Nat.le_refl _, by simp⟩
  case round =>
    obtain ⟨f, cs, rest, hrr, hop, hor, hbel, hch, hf1, hf2, hcl⟩ := hrel
    obtain ⟨Wo, hWo⟩ : ∃ x, x = wr := ⟨_, rfl⟩
    subst hWo
    obtain ⟨Al, cl, rfl, hlc, hc63⟩ := rr_shape hrr
    obtain ⟨Ap, cp, rfl, hp63, hpc⟩ := hop.shape
    obtain ⟨Aa, ca, rfl⟩ := or_shape hor
    have hpl := pages_len (n : Int) cs
    have hal := above_len from_ cs
    have hsz := hbel.size
    rw [hpl] at hpc ⊢
    rw [hal]
    have HRR := Lib.hid hrr
    have HOP := Lib.hid hop
    have HOR := Lib.hid hor
    have HB := Lib.hid hbel
    have HCH := Lib.hid hch
    have HPL := Lib.hid hpl
    have HAL := Lib.hid hal
    clear hrr hop hor hbel hch hpl hal
    by_cases hend : rest = [] ∧ cs ≠ []
    · obtain ⟨rfl, hne⟩ := hend
      have hcpos : 0 < cs.length := List.length_pos_iff.2 hne
      have hc0 : ((cs.length : Int) == 0) = false := by rw [beq_eq_false_iff_ne]; omega
      have E := Lib.hid (show levelL n from_ rs = some (pagesF n cs, aboveF from_ cs) by rw [HL.out, ← HCH.out, chunk_end f hne]; rfl)
      clear HCH HL hf1 hf2
      rw [List.length_nil] at *
      go_wp2
      go_ret3
      exact GivesLv.some_ E.out (by have := HOP.out; rw [HPL.out] at this; exact this) (by have := HOR.out; rw [HAL.out] at this; exact this) HB.out
    · obtain ⟨K, hK⟩ : ∃ K, K = fitN rest := ⟨_, rfl⟩
      have hrw := rr_below HRR.out HB.out (Nat.le_refl _)
      have hfit := refFit_any _ rest Wo hrw
      have hKl := fitN_le rest
      rw [← hK] at hfit hKl
      have hok := ok_fit (lev := (n : Int)) (by omega) (by omega) rest
      rw [← hK] at hok
      have hpl256 := encL_length hok
      have henc := fun W v h => refEnc_any (n : Int) v (rest.take K) W h
      unfold GivesEnc at henc
      rw [hok, hpl256] at henc
      have hnew := pages_snoc (n : Int) cs (rest.take K)
      have hnewa := above_snoc from_ cs (rest.take K)
      have hrt := fun (W : World) (h : RR W (.slice Al rest.length cl) rest) => rr_take h hKl
      obtain ⟨pg, hpg⟩ : ∃ pg, pg = encL (n : Int) (rest.take K) := ⟨_, rfl⟩
      rw [← hpg] at henc hnew hpl256
      have HEN := Lib.hid henc
      have HNEW := Lib.hid hnew
      have HNEWA := Lib.hid hnewa
      have HRT := Lib.hid hrt
      have HFIT := Lib.hid hfit
      have HP256 := Lib.hid hpl256
      have hfc : from_ + cs.length ≤ 9007199254740992 := by omega
      have hclip : clip ((from_ : Int) + (cs.length : Int)) = from_ + cs.length := by unfold clip; omega
      have HCLIP := Lib.hid hclip
      clear hfit hok hpl256 henc hnew hnewa hrt hpg hclip
      by_cases hr0 : rest = []
      · have hcs : cs = [] := by
          by_cases h2 : cs = []
          · exact h2
          · exact (hend ⟨hr0, h2⟩).elim
        subst hcs
        subst hr0
        obtain rfl : K = 0 := by rw [hK]; rfl
        have E := Lib.hid (show chunks rs = some [[]] by
          rw [← HCH.out]
          obtain ⟨f', rfl⟩ : ∃ f', f = f' + 1 := ⟨f - 1, by have := hf2 rfl; omega⟩
          exact chunk_first f')
        have hk0i : (((0 : Nat) : Int) == 0) = true := by rfl
        have HK := Lib.hid hK
        rw [List.length_nil] at *
        clear hK HCH
        go_wp2_with fail
        refine HFIT.out.mono ?_
        rintro e w2 ⟨rfl, hb2⟩
        have HB2 := Lib.hid (HB.out.trans (hb2.mono hsz))
        have HR2 := Lib.hid (rr_below HRR.out (HB.out.trans (hb2.mono hsz)) (Nat.le_refl _))
        have HOP2 := Lib.hid (HOP.out.below hb2)
        have HOR2 := Lib.hid (HOR.out.below hb2)
        clear hb2 HOP HOR HFIT hrw
        go_wp2_with fail
        refine (HEN.out _ _ (HRT.out _ HR2.out)).mono ?_
        rintro e w3 ⟨v3, rfl, ho3, hb3⟩
        have HFB3 := Lib.hid (FB.own (show w3.ownsRow w2.heap.size 5 1 v3 pg.length (bvs pg) by rw [HP256.out]; exact ho3))
        obtain ⟨A3, c3, rfl, _⟩ := own_shape ho3
        have HB3 := Lib.hid (HB2.out.trans (hb3.mono HB2.out.size))
        have HR3 := Lib.hid (rr_below HR2.out hb3 (Nat.le_refl _))
        have HOP3 := Lib.hid (HOP2.out.below hb3)
        have HOR3 := Lib.hid (HOR2.out.below hb3)
        clear ho3 hb3 HR2 HOP2 HOR2
        go_wp2_with fail
        refine (refNum_any _ _).mono ?_
        rintro e w4 ⟨v4, rfl, ho4, hb4⟩
        rw [show clip (from_ : Int) = from_ + 0 from by unfold clip; omega] at ho4
        have HFB4 := Lib.hid (FB.own ho4)
        obtain ⟨A4, c4, rfl, _⟩ := own_shape ho4
        have hb5 : Below w.heap.size w w4 := HB3.out.trans (hb4.mono HB3.out.size)
        have HR4 := Lib.hid (rr_below HR3.out hb4 (Nat.le_refl _))
        have HOP4 := Lib.hid (HOP3.out.below hb4)
        have HFB34 := Lib.hid (HFB3.out.below hb4)
        have hor2 := (HOR3.out.below hb4).alloc (Obj.cells #[.string ⟨#[]⟩, .slice A4 (numL (from_ + 0)).length c4] 25)
        have hfb2 := (HFB4.out.base_ (base' := w.heap.size) HB3.out.size).below ((Below.refl _ _).alloc (Nat.le_refl _) (Obj.cells #[.string ⟨#[]⟩, .slice A4 (numL (from_ + 0)).length c4] 25))
        have hbel3 := hb5.alloc hb5.size (Obj.cells #[.string ⟨#[]⟩, .slice A4 (numL (from_ + 0)).length c4] 25)
        obtain ⟨us, hus, ho, hfs⟩ := hor2
        have HLU := Lib.hid (show us.length = 0 by have h := congrArg List.length hus; rw [List.length_map, HAL.out] at h; exact h)
        have HUS := Lib.hid hus
        have hsz4 := hb5.size
        rw [HAL.out] at ho
        clear ho4 hb4 hus HFB4 HR3 HOP3 HOR3 HFB3
        go_wp2_with (at_builtin; refine wpList_own rfl (.tmp 50) (.tmp 58) 22 22 rfl w.heap.size 25 (.agg #[.string ⟨#[]⟩, .slice none 0 0]) 2 40 Try.underlying22 info25 rfl rfl ho rfl (src_two _ (by simp) Try.underlying22 25 _ _ rfl rfl) hbel3 (Nat.le_refl _) ?_ ?_ ?_ ?_)
        · have := HLU.out; unfold maxLen; omega
        · have := HLU.out; omega
        · simp; omega
        intro v5 w5 ho5 hb5' hg5
        have hor5 := OR.push (by decide) ho hfs hfb2 ho5 hg5
        rw [HUS.out] at hor5
        have hop5 := (HOP4.out.alloc (Obj.cells #[.string ⟨#[]⟩, .slice A4 (numL (from_ + 0)).length c4] 25)).grown ho (by decide) (by decide) hg5
        have hfb5 := (HFB34.out.below ((Below.refl _ _).alloc (Nat.le_refl _) (Obj.cells #[.string ⟨#[]⟩, .slice A4 (numL (from_ + 0)).length c4] 25))).grown ho (by decide) hg5
        have hor6 := hor5.alloc (Obj.cells #[.slice A3 256 c3] 23)
        have hop6 := hop5.alloc (Obj.cells #[.slice A3 256 c3] 23)
        have hfb6 := (hfb5.base_ (base' := w.heap.size) HB2.out.size).below ((Below.refl _ _).alloc (Nat.le_refl _) (Obj.cells #[.slice A3 256 c3] 23))
        have hbel6 := hb5'.alloc hb5'.size (Obj.cells #[.slice A3 256 c3] 23)
        have hsz5 := hb5'.size
        obtain ⟨up, hup, hpo, hpf⟩ := hop6
        have HLP := Lib.hid (show up.length = 0 by have h := congrArg List.length hup; rw [List.length_map, HPL.out] at h; exact h)
        have HUP := Lib.hid hup
        have HOR6 := Lib.hid hor6
        rw [HPL.out] at hpo
        clear ho hfs hfb2 ho5 hb5' hg5 hor5 hop5 hfb5 hor6 hup HOP4 HFB34 hbel3
        go_wp2_with (at_builtin; refine wpList_own rfl (.tmp 60) (.tmp 62) 33 33 rfl w.heap.size 23 (.slice none 0 0) 1 24 Try.underlying33 info23 rfl rfl hpo rfl (src_one _ Try.underlying33 23 _ rfl) hbel6 (Nat.le_refl _) ?_ ?_ ?_ ?_)
        · have := HLP.out; unfold maxLen; omega
        · have := HLP.out; omega
        · simp; omega
        intro v6 w6 ho6 hb6 hg6
        have hop7 := OP.push (by decide) hpo hpf hfb6 ho6 hg6
        rw [HUP.out] at hop7
        have hor7 := or_grown HOR6.out hpo (by decide) (by decide) hg6
        have HOP7 := Lib.hid hop7
        have HOR7 := Lib.hid hor7
        have HB6 := Lib.hid hb6
        clear hpo hpf hfb6 ho6 hb6 hg6 hop7 hor7 hbel6 HOR6
        obtain ⟨Av, cv, hv6, _, _⟩ := HOP7.out.shape
        have hl6 : (pagesF (n : Int) [] ++ [pg]).length = 1 := rfl
        rw [hl6] at hv6
        have hnw : pagesF (n : Int) [[]] = pagesF (n : Int) [] ++ [pg] := HNEW.out
        have hnwa : aboveF from_ [[]] = aboveF from_ [] ++ [(⟨#[]⟩, numL (from_ + 0))] := HNEWA.out
        have HNW := Lib.hid hnw
        have HNWA := Lib.hid hnwa
        have hcm : cl ≤ maxLen := by unfold maxLen; omega
        clear hnw hnwa
        go_wp2
        go_roundw
        case rel =>
          refine ⟨0, [[]], [], rr_empty _ _ (by first | exact hcm | (simp; done) | (unfold maxLen; omega)), by rw [HNW.out]; exact HOP7.out, by rw [HNWA.out]; exact HOR7.out, HB6.out, ?_, Nat.le_refl _, fun h => by simp at h, by simp⟩
          rw [chunk_end 0 (by simp)]
          exact E.out.symm
        case measure =>
          rw [hv6]
          simp [vlen]
      · have hrl : 0 < rest.length := List.length_pos_iff.2 hr0
        have hrl' : (0 : Int) < (rest.length : Int) := by omega
        by_cases hK0 : K = 0
        · subst hK0
          have E := Lib.hid (show levelL n from_ rs = none by
            rw [HL.out, ← HCH.out]
            obtain ⟨f', rfl⟩ : ∃ f', f = f' + 1 := ⟨f - 1, by omega⟩
            rw [chunk_none hr0 (by omega)]; rfl)
          have hk0i : (((0 : Nat) : Int) == 0) = true := by rfl
          have HK := Lib.hid hK
          clear hK
          clear HCH HL hf1 hf2 HNEW HNEWA
          go_wp2_with fail
          refine HFIT.out.mono ?_
          rintro e w2 ⟨rfl, hb2⟩
          have HB2 := Lib.hid (HB.out.trans (hb2.mono hsz))
          have HR2 := Lib.hid (rr_below HRR.out (HB.out.trans (hb2.mono hsz)) (Nat.le_refl _))
          clear hb2
          go_wp2_with fail
          refine (HEN.out _ _ (HRT.out _ HR2.out)).mono ?_
          rintro e w3 ⟨v3, rfl, ho3, hb3⟩
          obtain ⟨A3, c3, rfl, _⟩ := own_shape ho3
          have HB3 := Lib.hid (HB2.out.trans (hb3.mono HB2.out.size))
          clear ho3 hb3
          go_wp2
          go_ret3
          exact GivesLv.none_ E.out HB3.out
        · obtain ⟨b, off, u, rfl, hx0, _, _⟩ := rr_at HRR.out hrl
          have hb0 := rr_block HRR.out hrl
          have hb : b < Wo.heap.size := Nat.lt_of_lt_of_le hb0 hsz
          rw [Nat.zero_mul, Nat.add_zero] at hx0
          replace hx0 := (HB.out.cell (p := ⟨b, off, none⟩) hb0).trans hx0
          have hkey : headKey (rest.take K) = (rest[0]'hrl).1 := by
            obtain ⟨k', rfl⟩ : ∃ k', K = k' + 1 := ⟨K - 1, by omega⟩
            cases rest with
            | nil => simp at hrl
            | cons r t => rfl
          obtain ⟨ky, hky⟩ : ∃ ky, ky = (rest[0]'hrl).1 := ⟨_, rfl⟩
          rw [← hky] at hkey hx0
          have HKEY := Lib.hid hkey
          have hk0i : ((K : Int) == 0) = false := by rw [beq_eq_false_iff_ne]; omega
          have HK := Lib.hid hK
          have hKpos : (0 : Int) < (K : Int) := by omega
          have E := Lib.hid (show chunkF (f - 1) (cs ++ [rest.take K]) (rest.drop K) = chunks rs by
            rw [← HCH.out]
            obtain ⟨f', rfl⟩ : ∃ f', f = f' + 1 := ⟨f - 1, by omega⟩
            rw [chunk_more hr0 (by omega), ← hK]; rfl)
          clear hky hkey HCH hK hK0
          go_wp2_with fail
          refine HFIT.out.mono ?_
          rintro e w2 ⟨rfl, hb2⟩
          have HB2 := Lib.hid (HB.out.trans (hb2.mono hsz))
          have HR2 := Lib.hid (rr_below HRR.out (HB.out.trans (hb2.mono hsz)) (Nat.le_refl _))
          have HOP2 := Lib.hid (HOP.out.below hb2)
          have HOR2 := Lib.hid (HOR.out.below hb2)
          have hx2 := (hb2.cell (p := ⟨b, off, none⟩) hb).trans hx0
          have hbw2 : b < w2.heap.size := Nat.lt_of_lt_of_le hb hb2.size
          clear hb2 HOP HOR HFIT hx0 hrw
          go_wp2_with fail
          refine (HEN.out _ _ (HRT.out _ HR2.out)).mono ?_
          rintro e w3 ⟨v3, rfl, ho3, hb3⟩
          have HFB3 := Lib.hid (FB.own (show w3.ownsRow w2.heap.size 5 1 v3 pg.length (bvs pg) by rw [HP256.out]; exact ho3))
          obtain ⟨A3, c3, rfl, _⟩ := own_shape ho3
          have HB3 := Lib.hid (HB2.out.trans (hb3.mono HB2.out.size))
          have HR3 := Lib.hid (rr_below HR2.out hb3 (Nat.le_refl _))
          have HOP3 := Lib.hid (HOP2.out.below hb3)
          have HOR3 := Lib.hid (HOR2.out.below hb3)
          have hx3 := (hb3.cell (p := ⟨b, off, none⟩) hbw2).trans hx2
          clear ho3 hb3 HR2 HOP2 HOR2 hx2
          go_wp2_with fail
          refine (refNum_any _ _).mono ?_
          rintro e w4 ⟨v4, rfl, ho4, hb4⟩
          rw [HCLIP.out] at ho4
          have HFB4 := Lib.hid (FB.own ho4)
          obtain ⟨A4, c4, rfl, _⟩ := own_shape ho4
          have hb5 : Below w.heap.size w w4 := HB3.out.trans (hb4.mono HB3.out.size)
          have HR4 := Lib.hid (rr_below HR3.out hb4 (Nat.le_refl _))
          have HOP4 := Lib.hid (HOP3.out.below hb4)
          have HFB34 := Lib.hid (HFB3.out.below hb4)
          have hor2 := (HOR3.out.below hb4).alloc (Obj.cells #[.string ky, .slice A4 (numL (from_ + cs.length)).length c4] 25)
          have hfb2 := (HFB4.out.base_ (base' := w.heap.size) HB3.out.size).below ((Below.refl _ _).alloc (Nat.le_refl _) (Obj.cells #[.string ky, .slice A4 (numL (from_ + cs.length)).length c4] 25))
          have hbel3 := hb5.alloc hb5.size (Obj.cells #[.string ky, .slice A4 (numL (from_ + cs.length)).length c4] 25)
          obtain ⟨us, hus, ho, hfs⟩ := hor2
          have HLU := Lib.hid (show us.length = cs.length by have h := congrArg List.length hus; rw [List.length_map, HAL.out] at h; exact h)
          have HUS := Lib.hid hus
          have hsz4 := hb5.size
          rw [HAL.out] at ho
          clear ho4 hb4 hus HFB4 HR3 HOP3 HOR3 HFB3 hx3
          go_wp2_with (at_builtin; refine wpList_own rfl (.tmp 50) (.tmp 58) 22 22 rfl w.heap.size 25 (.agg #[.string ⟨#[]⟩, .slice none 0 0]) 2 40 Try.underlying22 info25 rfl rfl ho rfl (src_two _ (by simp) Try.underlying22 25 _ _ rfl rfl) hbel3 (Nat.le_refl _) ?_ ?_ ?_ ?_)
          · have := HLU.out; unfold maxLen; omega
          · have := HLU.out; omega
          · simp; omega
          intro v5 w5 ho5 hb5' hg5
          have hor5 := OR.push (by decide) ho hfs hfb2 ho5 hg5
          rw [HUS.out] at hor5
          have hop5 := (HOP4.out.alloc (Obj.cells #[.string ky, .slice A4 (numL (from_ + cs.length)).length c4] 25)).grown ho (by decide) (by decide) hg5
          have hfb5 := (HFB34.out.below ((Below.refl _ _).alloc (Nat.le_refl _) (Obj.cells #[.string ky, .slice A4 (numL (from_ + cs.length)).length c4] 25))).grown ho (by decide) hg5
          have hor6 := hor5.alloc (Obj.cells #[.slice A3 256 c3] 23)
          have hop6 := hop5.alloc (Obj.cells #[.slice A3 256 c3] 23)
          have hfb6 := (hfb5.base_ (base' := w.heap.size) HB2.out.size).below ((Below.refl _ _).alloc (Nat.le_refl _) (Obj.cells #[.slice A3 256 c3] 23))
          have hbel6 := hb5'.alloc hb5'.size (Obj.cells #[.slice A3 256 c3] 23)
          have hsz5 := hb5'.size
          obtain ⟨up, hup, hpo, hpf⟩ := hop6
          have HLP := Lib.hid (show up.length = cs.length by have h := congrArg List.length hup; rw [List.length_map, HPL.out] at h; exact h)
          have HUP := Lib.hid hup
          have HOR6 := Lib.hid hor6
          rw [HPL.out] at hpo
          clear ho hfs hfb2 ho5 hb5' hg5 hor5 hop5 hfb5 hor6 hup HOP4 HFB34 hbel3
          go_wp2_with (at_builtin; refine wpList_own rfl (.tmp 60) (.tmp 62) 33 33 rfl w.heap.size 23 (.slice none 0 0) 1 24 Try.underlying33 info23 rfl rfl hpo rfl (src_one _ Try.underlying33 23 _ rfl) hbel6 (Nat.le_refl _) ?_ ?_ ?_ ?_)
          · have := HLP.out; unfold maxLen; omega
          · have := HLP.out; omega
          · simp; omega
          intro v6 w6 ho6 hb6 hg6
          have hop7 := OP.push (by decide) hpo hpf hfb6 ho6 hg6
          rw [HUP.out] at hop7
          have hor7 := or_grown HOR6.out hpo (by decide) (by decide) hg6
          have HOP7 := Lib.hid hop7
          have HOR7 := Lib.hid hor7
          have HB6 := Lib.hid hb6
          clear hpo hpf hfb6 ho6 hb6 hg6 hop7 hor7 hbel6 HOR6
          have hKc : (K : Int) ≤ (cl : Int) := by omega
          have hKl' : (K : Int) ≤ (rest.length : Int) := by omega
          obtain ⟨Av, cv, hv6, _, _⟩ := HOP7.out.shape
          have hl6 : (pagesF (n : Int) cs ++ [pg]).length = cs.length + 1 := by rw [List.length_append, HPL.out]; rfl
          rw [hl6] at hv6
          go_wp2
          go_roundw
          case rel =>
            refine ⟨f - 1, cs ++ [rest.take K], rest.drop K, ?_, by rw [HNEW.out]; exact HOP7.out, by rw [HNEWA.out, HKEY.out]; exact HOR7.out, HB6.out, E.out, by rw [List.length_drop]; omega, fun h => by simp at h, by rw [List.length_drop, List.length_append]; simp; omega⟩
            by_cases hck : cl = K
            · rw [if_pos hck, List.drop_eq_nil_of_le (by omega), show rest.length - K = 0 from by omega]
              exact rr_empty _ _ (by unfold maxLen; omega)
            · rw [if_neg hck]
              exact rr_drop HRR.out (by omega)
          case measure =>
            rw [hv6]
            simp [vlen]
            omega
end Go.Proofs.Ytbacdeogggcbfaa
