/-
  The contract of the document's own pairs (layer topic).
-/
import Derived.Test.YtcmkmdghekkkhaaDoorTpRight
set_option linter.unusedVariables false
namespace Go.Tp
open Go
/-- Not behind, byte by byte. -/
def leS (a b : List UInt8) : Bool := Op.bytesLess a b || a == b
def pairOk (last p : List UInt8) : Bool := match splitL 61 p with
  | [a, b] => wordB a && wordB b && !leS a last
  | _ => false
def firstOf (p : List UInt8) : List UInt8 := (splitL 61 p).headD []
def pairsP : List UInt8 → List (List UInt8) → Bool
  | _, [] => true
  | last, p :: ps => pairOk last p && pairsP (firstOf p) ps
/-- The pairs of a text; false: it has others. -/
def pairsR (l : List UInt8) : List (List UInt8) × Bool := if l = [] then ([], true) else if pairsP [] (splitL 44 l) = true then (splitL 44 l, decide (l.length ≤ 30)) else ([], false)
def attrsB (l : List UInt8) : Bool := (pairsR l).2
def wantB (a b : List UInt8) : Bool := (pairsR a).1.all (fun x => (pairsR b).1.contains x) && ((pairsR a).2 && (pairsR b).2)
theorem pairsP_step {ps : List (List UInt8)} {k : Nat} (hk : k < ps.length) (last : List UInt8) : pairsP last (ps.drop k) = (pairOk last ps[k] && pairsP (firstOf ps[k]) (ps.drop (k + 1))) := by
  rw [List.drop_eq_getElem_cons hk, pairsP]
theorem pairOk_two {last p : List UInt8} {q : List (List UInt8)} (hq : q = splitL 61 p) (h2 : q.length = 2) : pairOk last p = (wordB (q[0]'(by omega)) && wordB (q[1]'(by omega)) && !leS (q[0]'(by omega)) last) ∧ firstOf p = q[0]'(by omega) := by
  match q, h2 with
  | [a, b], _ =>
    unfold pairOk firstOf
    rw [← hq]
    exact ⟨rfl, rfl⟩
theorem pairOk_not {last p : List UInt8} (h2 : (splitL 61 p).length ≠ 2) : pairOk last p = false := by
  unfold pairOk
  split
  · rename_i h; rw [h] at h2; simp at h2
  · rfl
theorem pairsR_no {l : List UInt8} (h0 : l ≠ []) (h : pairsP [] (splitL 44 l) = false) : pairsR l = ([], false) := by
  unfold pairsR
  rw [if_neg h0, h]
  rfl
end Go.Tp
namespace Go.Proofs.YtcmkmdghekkkhaaDoor
open Go.RowKit Go.Rst Go.Tp
def GivesP (w : World) (r : List (List UInt8) × Bool) (e : Ending) (w' : World) : Prop := ∃ v, e = .returned (.tuple #[v, .bool r.2]) ∧ w'.ownsRow w.heap.size 9 1 v r.1.length (svs r.1) ∧ Below w.heap.size w w'
theorem GivesP.no {w w' : World} {r : List (List UInt8) × Bool} (h : r = ([], false)) (hb : Below w.heap.size w w') : GivesP w r (.returned (.tuple #[.slice none 0 0, .bool false])) w' := by
  subst h
  exact ⟨_, rfl, World.ownsRow_nil _ _ _ _, hb⟩
set_option maxRecDepth 100000 in
set_option maxHeartbeats 2000000 in
theorem pairs_any (l : List UInt8) (hl : l.length ≤ 1000000) (w : World) : Calls Tryd.prog 95 #[sv l] w (GivesP w (pairsR l)) := by
  go_enter Tryd.func95, Tryd.ntmps95
  by_cases h0 : l = []
  · have HE := Lib.hid (show pairsR l = ([], true) by unfold pairsR; rw [if_pos h0])
    go_wp2
    exact bodyPost_ret (v := .tuple #[.slice none 0 0, .bool true]) (by simp [results, Tryd.results95, go_sem]) rfl ⟨.slice none 0 0, by rw [HE.out], by rw [HE.out]; exact World.ownsRow_nil _ _ _ _, Below.refl _ _⟩
  have b0 : (l == []) = false := by simpa using h0
  have HSP := Lib.hid (split_any 44 l hl w)
  have H0 := Lib.hid h0
  go_wp2_with fail
  go_at_call 93
  refine HSP.out.mono ?_
  rintro e w1 ⟨v, rfl, hown, hb⟩
  obtain ⟨A, c, rfl, _⟩ := own_shape hown
  obtain ⟨ps, hps⟩ : ∃ ps, ps = splitL 44 l := ⟨_, rfl⟩
  have hlen := fun p (hp : p ∈ ps) => splitL_mem 44 l p (by rw [← hps]; exact hp)
  have hpl := splitL_len 44 l
  rw [← hps] at hown hpl ⊢
  have HOW := Lib.hid hown
  have HB := Lib.hid hb
  have HLEN := Lib.hid hlen
  have HYES := Lib.hid (show pairsP [] ps = true → pairsR l = (ps, decide (l.length ≤ 30)) from fun h => by unfold pairsR; rw [if_neg H0.out, ← hps, if_pos h])
  have HNO := Lib.hid (show pairsP [] ps = false → pairsR l = ([], false) from fun h => pairsR_no H0.out (by rw [← hps]; exact h))
  clear hown hb hlen hps h0 b0
  go_wp2_with fail
  go_loopw [5, 6] (fun s i wr => ∃ (k : Nat) (last : List UInt8), k ≤ ps.length ∧ i = .int .i64 k ∧ s = .string ⟨last.toArray⟩ ∧ pairsP [] ps = pairsP last (ps.drop k) ∧ Below w1.heap.size w1 wr) (fun _ i _ => ps.length - (intOf i).toNat)
  case atStart => exact ⟨0, [], Nat.zero_le _, rfl, rfl, by simp, Below.refl _ _⟩
  case round =>
    obtain ⟨k, last, hk, rfl, rfl, hst, hbel⟩ := hrel
    have HST := Lib.hid hst
    have HBl := Lib.hid hbel
    have HBW := Lib.hid (HB.out.trans (hbel.mono HB.out.size))
    have HA := Lib.hid (own_below HOW.out hbel)
    clear hst hbel
    by_cases hlt : k < ps.length
    · have q1 : (k : Int) < (ps.length : Int) := by omega
      obtain ⟨g, rfl, hg, hcell⟩ := own_str HA.out hlt
      have hstep := pairsP_step hlt last
      obtain ⟨p, hp⟩ : ∃ p, p = ps[k] := ⟨_, rfl⟩
      have hpl2 : p.length ≤ 1000000 := by have := HLEN.out p (by rw [hp]; exact List.getElem_mem hlt); omega
      rw [← hp] at hcell hstep
      have HSTEP := Lib.hid hstep
      have HSP2 := Lib.hid (split_any 61 p hpl2 wr)
      clear hstep hp
      go_wp2_with fail
      go_at_call 93
      refine HSP2.out.mono ?_
      rintro e w2 ⟨v2, rfl, hown2, hb2⟩
      obtain ⟨A2, c2, rfl, _⟩ := own_shape hown2
      obtain ⟨q, hq⟩ : ∃ q, q = splitL 61 p := ⟨_, rfl⟩
      have hqm := fun x (hx : x ∈ q) => splitL_mem 61 p x (by rw [← hq]; exact hx)
      rw [← hq] at hown2 ⊢
      have HQ := Lib.hid hq
      have HQM := Lib.hid hqm
      have HB2 := Lib.hid (HBW.out.trans (hb2.mono HBW.out.size))
      have HBl2 := Lib.hid (HBl.out.trans (hb2.mono HBl.out.size))
      have HO2 := Lib.hid hown2
      clear hb2 hq hqm hown2 hcell
      by_cases h2 : q.length = 2
      rotate_left
      · have b2 : ((q.length : Int) == 2) = false := by simp; omega
        have e := HNO.out (by rw [HST.out, HSTEP.out, pairOk_not (by rw [← HQ.out]; exact h2), Bool.false_and])
        have HE := Lib.hid e
        clear e
        go_wp2
        exact bodyPost_ret (v := .tuple #[.slice none 0 0, .bool false]) (by simp [results, Tryd.results95, go_sem]) rfl (GivesP.no HE.out HB2.out)
      · obtain ⟨ho1, ho2⟩ := pairOk_two (last := last) HQ.out h2
        obtain ⟨g2, rfl, hg2, hc0⟩ := own_str HO2.out (show 0 < q.length by omega)
        obtain ⟨_, hh, _, hc1⟩ := own_str HO2.out (show 1 < q.length by omega)
        injection hh with hh
        injection hh with hh
        subst hh
        have hw0 := word_any (q[0]'(by omega)) (by have := HQM.out _ (List.getElem_mem (show 0 < q.length by omega)); omega) w2
        have hw1 := word_any (q[1]'(by omega)) (by have := HQM.out _ (List.getElem_mem (show 1 < q.length by omega)); omega) w2
        generalize q[0] = x at *
        generalize q[1] = y at *
        rw [h2] at HO2 ⊢
        have HO := Lib.hid ho1
        have HF := Lib.hid ho2
        have HW0 := Lib.hid hw0
        have HW1 := Lib.hid hw1
        clear ho1 ho2 hw0 hw1
        go_wp2_with fail
        go_at_call 94
        refine HW0.out.mono ?_
        rintro e w3 ⟨rfl, rfl⟩
        cases hw : wordB x with
        | false =>
          have e := HNO.out (by rw [HST.out, HSTEP.out, HO.out]; simp [hw])
          have HE := Lib.hid e
          clear e hw
          go_wp2
          exact bodyPost_ret (v := .tuple #[.slice none 0 0, .bool false]) (by simp [results, Tryd.results95, go_sem]) rfl (GivesP.no HE.out HB2.out)
        | true =>
        rw [hw, Bool.true_and] at HO
        clear hw
        go_wp2_with fail
        go_at_call 94
        refine HW1.out.mono ?_
        rintro e w4 ⟨rfl, rfl⟩
        cases hw : wordB y with
        | false =>
          have e := HNO.out (by rw [HST.out, HSTEP.out, HO.out]; simp [hw])
          have HE := Lib.hid e
          clear e hw
          go_wp2
          exact bodyPost_ret (v := .tuple #[.slice none 0 0, .bool false]) (by simp [results, Tryd.results95, go_sem]) rfl (GivesP.no HE.out HB2.out)
        | true =>
        rw [hw, Bool.true_and] at HO
        clear hw
        cases hbl : Op.bytesLess x last with
        | true =>
          have e := HNO.out (by rw [HST.out, HSTEP.out, HO.out]; simp [leS, hbl])
          have HE := Lib.hid e
          clear e
          go_wp2
          exact bodyPost_ret (v := .tuple #[.slice none 0 0, .bool false]) (by simp [results, Tryd.results95, go_sem]) rfl (GivesP.no HE.out HB2.out)
        | false =>
          cases heq : (x == last) with
          | true =>
            have e := HNO.out (by rw [HST.out, HSTEP.out, HO.out]; simp only [leS, hbl, heq]; simp)
            have HE := Lib.hid e
            clear e
            go_wp2
            exact bodyPost_ret (v := .tuple #[.slice none 0 0, .bool false]) (by simp [results, Tryd.results95, go_sem]) rfl (GivesP.no HE.out HB2.out)
          | false =>
            have HN := Lib.hid (show pairsP last (ps.drop k) = pairsP x (ps.drop (k + 1)) by rw [HSTEP.out, HO.out, HF.out]; simp only [leS, hbl, heq]; simp)
            go_wp2
            go_roundw
            case rel => exact ⟨k + 1, x, by omega, by go_num, rfl, HST.out.trans HN.out, HBl2.out⟩
            case measure => simp [intOf]; omega
    · obtain rfl : k = ps.length := by omega
      have q1 : ¬ (ps.length : Int) < (ps.length : Int) := by omega
      have e := HYES.out (by rw [HST.out, List.drop_length, pairsP])
      have HE := Lib.hid e
      clear e
      go_wp2
      exact bodyPost_ret (v := .tuple #[.slice A ps.length c, .bool (decide (l.length ≤ 30))]) (by simp [results, Tryd.results95, go_sem]; try omega) rfl ⟨_, by rw [HE.out], by rw [HE.out]; exact HA.out, HBW.out⟩
end Go.Proofs.YtcmkmdghekkkhaaDoor
