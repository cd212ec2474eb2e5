/-
  The contracts of the program's told, piece and frame.
-/
import Derived.Test.YtomkbgghljcbfaaGRead
import Derived.Test.YtomkbgghljcbfaaParts
import Derived.Test.YtomkbgghljcbfaaGTake
set_option linter.unusedVariables false

namespace Go.Proofs.Ytomkbgghljcbfaa
open Go.RowKit Go.Rst Go.Crc

set_option maxRecDepth 100000 in
set_option maxHeartbeats 1000000 in
theorem told_any (v : Value) (ss : List (List UInt8)) (w : World) (hv : RP w v ss) : Calls Try.prog 60 #[v] w fun e w' => e = .returned (.int .i64 (toldL ss : Nat)) ∧ w = w' := by
  have HV := Lib.hid hv
  obtain ⟨A, c, rfl, _, hc, _⟩ := hv
  unfold maxLen at hc
  cases ss with
  | nil =>
    rw [List.length_nil]
    go_enter Try.func60, Try.ntmps60
    go_wp2
    go_ret
    exact ⟨rfl, rfl⟩
  | cons s ss =>
    obtain ⟨b, off, u, rfl, _, hx, hr⟩ := rp_at HV.out (k := 0) (by simp)
    simp only [List.getElem_cons_zero, Nat.add_zero] at hx hr
    have HR := Lib.hid hr
    obtain ⟨A3, c3, rfl, _, hc3, _⟩ := hr
    unfold maxLen at hc3
    obtain ⟨L, hL⟩ : ∃ L, L = s.length := ⟨_, rfl⟩
    rw [← hL] at hx
    obtain ⟨M, hM⟩ : ∃ M, M = (s :: ss).length := ⟨_, rfl⟩
    rw [← hM]
    have hM0 : 0 < M := by rw [hM]; simp
    have hm1 : ((M : Int) == 0) = false := by rw [beq_eq_false_iff_ne]; omega
    have hm2 : (0 : Int) < (M : Int) := by omega
    have HLN := Lib.hid hL
    clear hM
    by_cases h64 : L = 64
    · subst h64
      have hcell : ∃ b2 o2, A3 = some ⟨b2, o2, none⟩ ∧ b2 < w.heap.size ∧ w.cell? ⟨b2, o2 + 9, none⟩ = some (bv s[9]) := by
        have := HR.out
        exact rb_cell this (k := 9) (by rw [← HLN.out]; decide)
      obtain ⟨b2, o2, rfl, _, h9⟩ := hcell
      have e : (toldL (s :: ss)) = (s[9]'(by rw [← HLN.out]; decide)).toNat := by
        show (if s.length = 64 then b9 s else 0) = _
        unfold b9
        rw [if_pos HLN.out.symm, List.getD_eq_getElem?_getD, List.getElem?_eq_getElem (by rw [← HLN.out]; decide)]
        rfl
      rw [e]
      obtain ⟨x, hx9⟩ : ∃ x, x = s[9]'(by rw [← HLN.out]; decide) := ⟨_, rfl⟩
      rw [← hx9] at h9 ⊢
      unfold bv at h9
      have hx256 := x.toNat_lt
      clear e hx9
      go_enter Try.func60, Try.ntmps60
      go_wp2
      go_ret
      exact ⟨rfl, rfl⟩
    · have e : toldL (s :: ss) = 0 := by show (if s.length = 64 then b9 s else 0) = 0; rw [if_neg (by rw [← HLN.out]; exact h64)]
      rw [e]
      have h64' : ((L : Int) != 64) = true := by simp; omega
      clear e
      go_enter Try.func60, Try.ntmps60
      go_wp2
      go_ret
      exact ⟨rfl, rfl⟩

set_option maxRecDepth 100000 in
set_option maxHeartbeats 1000000 in
theorem pieceP_any (v : Value) (s : List UInt8) (w : World) (hv : RB w v s) (hl : s.length = 64) : Calls Try.prog 61 #[v] w fun e w' => (∃ u, e = .returned u ∧ RB w u (pieceP s)) ∧ w = w' := by
  have HV := Lib.hid hv
  obtain ⟨A, c, rfl, hlc, hc, _⟩ := hv
  unfold maxLen at hc
  have hcell := rb_cell HV.out (k := 10) (by omega)
  obtain ⟨b, off, rfl, _, hx⟩ := hcell
  have h10 : b10 s = (s[10]'(by omega)).toNat := by
    unfold b10
    rw [List.getD_eq_getElem?_getD, List.getElem?_eq_getElem (by omega)]
    rfl
  obtain ⟨x, hxe⟩ : ∃ x, x = s[10]'(by omega) := ⟨_, rfl⟩
  rw [← hxe] at hx h10
  obtain ⟨M, hM⟩ : ∃ M, M = min x.toNat 49 := ⟨_, rfl⟩
  have hcut := HV.out.cut (q := 11) (n := M) (by omega)
  have hp : (s.drop 11).take M = pieceP s := by unfold pieceP; rw [h10, hM]
  rw [hp] at hcut
  have HC := Lib.hid hcut
  have hx256 := x.toNat_lt
  unfold bv at hx
  rw [hl] at hlc
  rw [hl]
  clear hp hcut hxe h10
  rcases Nat.lt_or_ge 49 x.toNat with h | h
  · obtain rfl : M = 49 := by omega
    have q2 : (49 : Int) < (x.toNat : Int) := by omega
    clear hM
    go_enter Try.func61, Try.ntmps61
    go_wp2
    go_ret
    exact ⟨⟨_, rfl, HC.out⟩, rfl⟩
  · obtain rfl : M = x.toNat := by omega
    have q1 : 11 + x.toNat - 11 = x.toNat := by omega
    clear hM
    go_enter Try.func61, Try.ntmps61
    go_wp2
    go_ret
    refine ⟨⟨_, rfl, ?_⟩, rfl⟩
    show RB w (.slice (some ⟨b, off + 11, none⟩) (11 + x.toNat - 11) (c - 11)) (pieceP s)
    rw [q1]
    exact HC.out
end Go.Proofs.Ytomkbgghljcbfaa

/-
  The contract of the program's frame.
-/
namespace Go.Proofs.Ytomkbgghljcbfaa
open Go.RowKit Go.Rst Go.Crc
/-- What frame hands back. -/
def GivesFr (w : World) (r : List Chg × Nat) (e : Ending) (w' : World) : Prop :=
  ∃ u, e = .returned (.tuple #[u, .int .i64 (r.2 : Nat)]) ∧ OC 5 51 w' w.heap.size u r.1 ∧ Below w.heap.size w w'
theorem GivesFr.none_ {w w' : World} {r : List Chg × Nat} (h : r = ([], 0)) (hb : Below w.heap.size w w') : GivesFr w r (.returned (.tuple #[.slice none 0 0, .int .i64 0])) w' := by
  subst h
  exact ⟨_, rfl, OC.nil_ _ _ _ _, hb⟩
theorem told_le (ss : List (List UInt8)) : toldL ss ≤ 255 := by
  cases ss with
  | nil => simp [toldL]
  | cons s ss =>
    show (if s.length = 64 then b9 s else 0) ≤ 255
    unfold b9
    have := (s.getD 9 0).toNat_lt
    split <;> omega
theorem rp_take {w : World} {A : Option Addr} {m c : Nat} {ps : List (List UInt8)} (h : RP w (.slice A m c) ps) {n : Nat} (hn : n ≤ ps.length) : RP w (.slice A n c) (ps.take n) := by
  obtain ⟨A', c', he, h1, h2, h3⟩ := h
  injection he with e1 _ e3
  subst e1
  subst e3
  have hl : (ps.take n).length = n := by rw [List.length_take]; omega
  refine ⟨A, c, by rw [hl], by omega, h2, ?_⟩
  rcases h3 with rfl | ⟨b, off, rfl, hb, hc⟩
  · exact .inl (by simp)
  · refine .inr ⟨b, off, rfl, hb, fun j hj => ?_⟩
    have := hc j (by omega)
    rw [List.getElem_take]
    exact this

set_option maxRecDepth 100000 in
set_option maxHeartbeats 4000000 in
theorem frameP_any (ep num : Int) (v : Value) (ss : List (List UInt8)) (w : World) (hv : RP w v ss) :
    Calls Try.prog 43 #[.int .i64 ep, .int .i64 num, v] w (GivesFr w (frameS ep num ss)) := by
  have htold := told_any v ss w hv
  have hle := told_le ss
  have hF : frameS ep num ss = if ss.length < toldL ss then ([], 0)
    else if (ss.take (toldL ss)).all (fun s => s.length == 64) = false then ([], 0)
    else if (readChgs (allP (ss.take (toldL ss)))).2 ≠ 0 then ([], 0)
    else if (partsL ep num (readChgs (allP (ss.take (toldL ss)))).1).1 = ss.take (toldL ss) then ((readChgs (allP (ss.take (toldL ss)))).1, toldL ss)
    else ([], 0) := rfl
  obtain ⟨C, hC⟩ : ∃ C, C = toldL ss := ⟨_, rfl⟩
  rw [← hC] at htold hle hF
  generalize frameS ep num ss = R at *
  have HT := Lib.hid htold
  have HV := Lib.hid hv
  obtain ⟨A, c, rfl, hlc, hc, _⟩ := hv
  unfold maxLen at hc
  clear htold hC
  by_cases hbig : ss.length < C
  · rw [if_pos hbig] at hF
    have HF := Lib.hid hF
    have hbig' : (ss.length : Int) < (C : Int) := by omega
    clear hF
    go_enter Try.func43, Try.ntmps43
    go_wp2
    refine wp_scope_fwd 0 rfl ?_
    go_wp2_with fail
    refine HT.out.mono ?_
    rintro e w1 ⟨rfl, rfl⟩
    go_wp2
    go_step3
    refine ⟨rfl, ?_⟩
    unfold Behind
    go_wp2
    rw [Exit.noGoto_ret]
    go_ret2
    exact GivesFr.none_ HF.out (Below.refl _ _)
  · rw [if_neg hbig] at hF
    have HF := Lib.hid hF
    have hCl : C ≤ ss.length := by omega
    have hbig' : (C : Int) ≤ (ss.length : Int) := by omega
    have hd1 : decide (ss.length < C) = false := by rw [decide_eq_false_iff_not]; omega
    have hd2 : decide ((ss.length : Int) < (C : Int)) = false := by rw [decide_eq_false_iff_not]; omega
    clear hF hbig
    go_enter Try.func43, Try.ntmps43
    go_wp2
    refine wp_scope_fwd 0 rfl ?_
    go_wp2_with fail
    refine HT.out.mono ?_
    rintro e w1 ⟨rfl, rfl⟩
    go_wp2
    go_loopw [8, 25] (fun bv i wr => ∃ k : Nat, k ≤ C ∧ i = .int .i64 k ∧ (ss.take k).all (fun s => s.length == 64) = true ∧ wr.ownsRow w.heap.size 5 1 bv (allP (ss.take k)).length (bvs (allP (ss.take k))) ∧ Below w.heap.size w wr) (fun _ i _ => C - (intOf i).toNat)
    case atStart => exact ⟨0, Nat.zero_le _, rfl, by simp, World.ownsRow_nil _ _ _ _, Below.refl _ _⟩
    case round =>
      obtain ⟨k, hk, rfl, hall, hown, hbel⟩ := hrel
      obtain ⟨Ab, cb, rfl, _⟩ := own_shape hown
      by_cases hlt : k < C
      · have hkl : k < ss.length := by omega
        obtain ⟨b, off, u, rfl, hbw, hx, hr⟩ := rp_at HV.out hkl
        have hx' := (hbel.cell (p := ⟨b, off + k, none⟩) hbw).trans hx
        have hr' := hr.below hbel
        obtain ⟨A3, c3, hus, _, hc3, _⟩ := hr
        obtain ⟨L, hL⟩ : ∃ L, L = ss[k].length := ⟨_, rfl⟩
        rw [← hL] at hus
        subst hus
        have htk := List.take_succ_eq_append_getElem hkl
        by_cases h64 : L = 64
        · subst h64
          have hall2 : (ss.take (k + 1)).all (fun s => s.length == 64) = true := by rw [htk, List.all_append, hall]; simp [← hL]
          have hpc := pieceP_any _ _ wr hr' hL.symm
          have hpl : (pieceP ss[k]).length ≤ 49 := by unfold pieceP; rw [List.length_take]; omega
          have hap := allP_take hkl
          have hal := allP_len (ss.take k)
          rw [List.length_take] at hal
          generalize pieceP ss[k] = p at *
          generalize allP (ss.take k) = acc at *
          have HPC := Lib.hid hpc
          have HO := Lib.hid hown
          have HB := Lib.hid hbel
          have HAP := Lib.hid hap
          have HALL := Lib.hid hall2
          have hsz := hbel.size
          clear hpc hown hbel hap hall hall2 htk hr' hL hx
          go_wp2_with fail
          refine HPC.out.mono ?_
          rintro e w2 ⟨⟨u2, rfl, hr2⟩, rfl⟩
          have HR2 := Lib.hid hr2
          obtain ⟨A4, c4, rfl, _⟩ := hr2
          go_wp2_with (at_builtin; refine wpList_own rfl (.tmp 32) (.tmp 34) 23 23 rfl w.heap.size 5 (.int .u8 0) 1 1 Try.underlying23 info5 rfl rfl HO.out rfl (HR2.out.src Try.underlying23) HB.out (Nat.le_refl _) ?_ ?_ ?_ ?_)
          · unfold maxLen; omega
          · omega
          · exact hsz
          intro v5 w5 ho5 hb5 _
          have HO5 := Lib.hid ho5
          have HB5 := Lib.hid hb5
          clear ho5 hb5
          go_wp2
          go_roundw
          case rel => exact ⟨k + 1, by omega, by go_num, HALL.out, by rw [HAP.out]; exact own_cat HO5.out, HB5.out⟩
          case measure => simp [intOf]; omega
        · have hF2 := HF.out
          rw [if_pos (by
            rw [List.all_eq_false]
            exact ⟨ss[k], by rw [List.mem_take_iff_getElem]; exact ⟨k, by omega, rfl⟩, by rw [← hL]; simp [h64]⟩)] at hF2
          have HF2 := Lib.hid hF2
          have HB := Lib.hid hbel
          have h64' : ((L : Int) != 64) = true := by simp; omega
          clear hF2 hown hbel hall htk hr' hL hx
          go_wp2
          go_step3
          refine ⟨rfl, ?_⟩
          unfold Behind
          go_wp2
          rw [Exit.noGoto_ret]
          go_ret2
          exact GivesFr.none_ HF2.out HB.out
      · obtain rfl : k = C := by omega
        have hF2 := HF.out
        rw [if_neg (by rw [hall]; decide)] at hF2
        have hread := readChgs_any _ _ wr (RB.own hown)
        have hval := readChgs_val (allP (ss.take k))
        have hfew := @readChgs_few (allP (ss.take k))
        have hal := allP_len (ss.take k)
        rw [List.length_take] at hal
        obtain ⟨cs, er, hrd⟩ : ∃ cs er, readChgs (allP (ss.take k)) = (cs, er) := ⟨_, _, rfl⟩
        rw [hrd] at hF2 hread hval
        have hfew2 : er = 0 → (chgsB cs).length ≤ 49 * 255 ∧ cs.length ≤ 49 * 255 := fun h => by
          have := hfew (cs := cs) (by rw [hrd, h])
          omega
        simp only at hF2 hread hval
        have hszr := hbel.size
        have HB := Lib.hid hbel
        have HRD := Lib.hid hread
        have HF2 := Lib.hid hF2
        have HVAL := Lib.hid hval
        clear hF2 hread hval hfew hrd hown hbel hall
        go_wp2_with fail
        refine HRD.out.mono ?_
        rintro e w2 ⟨v2, rfl, hoc, hb2⟩
        have hoc : OC 5 51 w2 wr.heap.size v2 cs := hoc
        have HB2 := Lib.hid (HB.out.trans (hb2.mono hszr))
        obtain ⟨A2, c2, hv2, _⟩ := hoc.rc
        subst hv2
        have HOC := Lib.hid (hoc.base_ (base' := w.heap.size) hszr)
        clear hoc hb2 HRD
        by_cases he : er = 0
        · subst he
          obtain ⟨hf1, hf2⟩ := hfew2 rfl
          have hparts := parts_any ep num _ cs w2 HOC.out.rc (by omega) (by omega) (fun r hr => by have := HVAL.out r hr; omega)
          have hF3 := HF2.out
          rw [if_neg (by simp)] at hF3
          generalize hpp : partsL ep num cs = P at *
          have HPT := Lib.hid hparts
          have HF3 := Lib.hid hF3
          have HRT := Lib.hid (rp_take HV.out hCl)
          clear hparts hF3 hpp HF2 hfew2
          go_wp2_with fail
          refine HPT.out.mono ?_
          rintro e w3 ⟨v3, rfl, hop, hb3⟩
          obtain ⟨A3, c3, rfl, hc3, hc32⟩ := hop.shape
          have hrp := hop.rp
          have HB3 := Lib.hid (HB2.out.trans (hb3.mono HB2.out.size))
          have HOC3 := Lib.hid (HOC.out.below hb3)
          have hcall := eqF_any _ _ _ _ w3 hrp (rp_below HRT.out HB3.out (Nat.le_refl _))
          obtain ⟨M, hM⟩ : ∃ M, M = P.1.length := ⟨_, rfl⟩
          rw [← hM] at hcall hc32 ⊢
          by_cases heq : P.1 = ss.take k
          · have hd : decide (P.1 = ss.take k) = true := decide_eq_true heq
            rw [hd] at hcall
            have HCL := Lib.hid hcall
            have HE := Lib.hid heq
            clear hcall hd heq hop hb3 hrp HPT HOC hM
            go_wp2_with fail
            refine HCL.out.mono ?_
            rintro e w4 ⟨rfl, rfl⟩
            go_wp2
            simp only [Exit.jump]
            go_ret2
            have h := HF3.out
            rw [if_pos HE.out] at h
            rw [h]
            exact ⟨_, rfl, HOC3.out, HB3.out⟩
          · have hd : decide (P.1 = ss.take k) = false := decide_eq_false heq
            rw [hd] at hcall
            have HCL := Lib.hid hcall
            have HE := Lib.hid heq
            clear hcall hd heq hop hb3 hrp HPT HOC hM
            go_wp2_with fail
            refine HCL.out.mono ?_
            rintro e w4 ⟨rfl, rfl⟩
            go_wp2
            go_step3
            refine ⟨rfl, ?_⟩
            unfold Behind
            go_wp2
            rw [Exit.noGoto_ret]
            go_ret2
            have h := HF3.out
            rw [if_neg HE.out] at h
            exact GivesFr.none_ h HB3.out
        · have hF3 := HF2.out
          rw [if_pos he] at hF3
          have HF3 := Lib.hid hF3
          have hne : (er != 0) = true := by simp [he]
          have hne2 : (er == 0) = false := by rw [beq_eq_false_iff_ne]; exact he
          clear hF3 HF2 hfew2
          go_wp2
          go_step3
          refine ⟨rfl, ?_⟩
          unfold Behind
          go_wp2
          rw [Exit.noGoto_ret]
          go_ret2
          exact GivesFr.none_ HF3.out HB2.out
end Go.Proofs.Ytomkbgghljcbfaa
