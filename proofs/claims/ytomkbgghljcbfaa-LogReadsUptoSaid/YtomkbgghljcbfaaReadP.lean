/-
  The contract of the program's Read.
-/
import Derived.Test.YtomkbgghljcbfaaGRead
import Derived.Test.YtomkbgghljcbfaaGFrame
namespace Go.Proofs.Ytomkbgghljcbfaa
open Go.RowKit Go.Rst Go.Crc
/-- What Read hands back. -/
def GivesRd (w : World) (r : List (List Chg) × Nat) (e : Ending) (w' : World) : Prop :=
  ∃ u, e = .returned (.tuple #[u, .int .i64 (r.2 : Nat)]) ∧ OF w' w.heap.size u r.1 ∧ Below w.heap.size w w'
/-- What holds at the label. -/
def AtNext (ep : Int) (v : Value) (ss : List (List UInt8)) (w : World) (a : Act) (W : World) : Prop :=
  ∃ (fs : List (List Chg)) (at_ : Nat) (fv u2 u3 u4 u5 u8 u9 u10 u11 u12 u13 u14 u15 u16 u17 u18 u19 u20 u21 u22 u23 u24 u25 u26 u27 u28 u29 u30 : Value),
    a = { tmps := #[.int .i64 ep, v, u2, u3, u4, u5, fv, .int .i64 at_, u8, u9, u10, u11, u12, u13, u14, u15, u16, u17, u18, u19, u20, u21, u22, u23, u24, u25, u26, u27, u28, u29, u30], defers := [] } ∧
    OF W w.heap.size fv fs ∧ Below w.heap.size w W ∧ Left ep ss (readS ep ss) fs at_ ∧ fs.length ≤ at_
theorem from_next {ep : Int} {v : Value} {ss : List (List UInt8)} {w : World} {P : Act → World → Prop} {a0 : Act} {W0 : World} (h : AtNext ep v ss w a0 W0) (hP : ∀ a W, AtNext ep v ss w a W → P a W) : P a0 W0 := hP _ _ h
def left7 (n : Nat) (a : Act) (_ : World) : Nat := n - (intOf (a.tmps.getD 7 undef)).toNat

set_option maxRecDepth 100000 in
set_option maxHeartbeats 1000000 in
theorem readP_any (ep : Int) (v : Value) (ss : List (List UInt8)) (w : World) (hv : RP w v ss) (hl : ss.length ≤ 1000000) :
    Calls Try.prog 23 #[.int .i64 ep, v] w (GivesRd w (readS ep ss)) := by
  have HV := Lib.hid hv
  obtain ⟨A, c, rfl, hlc, hc, _⟩ := hv
  unfold maxLen at hc
  go_enter Try.func23, Try.ntmps23
  go_wp2
  refine wp_scope_jumps 0 (AtNext ep (.slice A ss.length c) ss w) (left7 ss.length) rfl ?_ ?_
  · go_wp2_with fail
    refine wp_label ?_
    rename_i K hK
    refine hK _ _ ?_
    refine from_next (ep := ep) (v := .slice A ss.length c) (ss := ss) (w := w) (P := Code.wp Try.prog _ _) ⟨[], 0, .slice none 0 0, _, _, _, _, _, _, _, _, _, _, _, _, _, _, _, _, _, _, _, _, _, _, _, _, _, _, _, rfl, OF.nil_ w w.heap.size, Below.refl w.heap.size w, Left.start ep ss, Nat.zero_le _⟩ ?_
    rintro _ W ⟨fs, at_, fv, u2, u3, u4, u5, u8, u9, u10, u11, u12, u13, u14, u15, u16, u17, u18, u19, u20, u21, u22, u23, u24, u25, u26, u27, u28, u29, u30, rfl, hof, hbel, hlf, hfl⟩
    have hat := hlf.1
    have hat' : ((at_ : Nat) : Int) ≤ (ss.length : Int) := by omega
    have hlc' : (ss.length : Int) ≤ (c : Int) := by omega
    obtain ⟨A1, c1, rfl, hcm1, hlc1⟩ := hof.shape
    have hfr := frameP_any ep fs.length (.slice (if c = at_ then A else Option.map (fun x => x.add at_) A) (ss.length - at_) (c - at_)) (ss.drop at_) W (rp_cut (rp_below HV.out hbel (Nat.le_refl _)) hat)
    have hfle := frame_le (epoch := ep) (num := fs.length) (ss := ss.drop at_)
    rw [List.length_drop] at hfle
    have hstop := hlf.stop
    have hnext := hlf.next
    generalize frameS ep fs.length (ss.drop at_) = r at *
    obtain ⟨l, C⟩ := r
    simp only at hstop hnext hfle
    have HFR := Lib.hid hfr
    have HOF := Lib.hid hof
    have HB := Lib.hid hbel
    have hsz := hbel.size
    have HST := Lib.hid hstop
    have HNX := Lib.hid hnext
    clear hfr hof hbel hlf hstop hnext
    by_cases hck : at_ = c
    · subst hck
      have hfr := HFR.out
      rw [if_pos rfl, Nat.sub_self, show ss.length - at_ = 0 by omega] at hfr
      have HFR2 := Lib.hid hfr
      clear hfr HFR
      go_wp2_with fail
      refine HFR2.out.mono ?_
      rintro e W2 ⟨u, rfl, huc, hb2⟩
      obtain ⟨Au, cu, rfl, _⟩ := huc.rc
      have HOF2 := Lib.hid (HOF.out.below hb2)
      have hBB := HB.out.trans (hb2.mono hsz)
      have hsz2 := hBB.size
      have HBB := Lib.hid hBB
      have HU := Lib.hid (huc.base_ hsz)
      clear huc hBB
      by_cases hC : C = 0
      · subst hC
        have hR := Lib.hid (HST.out rfl)
        go_wp2
        try go_ret2
        exact ⟨_, by rw [hR.out]; rfl, by rw [hR.out]; exact HOF2.out, HBB.out⟩
      · exfalso
        omega
    · have hck' : ¬ c = at_ := fun h => hck h.symm
      have hfr := HFR.out
      rw [if_neg hck'] at hfr
      have HFR2 := Lib.hid hfr
      clear hfr HFR
      go_wp2_with fail
      refine HFR2.out.mono ?_
      rintro e W2 ⟨u, rfl, huc, hb2⟩
      obtain ⟨Au, cu, rfl, _⟩ := huc.rc
      have HOF2 := Lib.hid (HOF.out.below hb2)
      have hBB := HB.out.trans (hb2.mono hsz)
      have hsz2 := hBB.size
      have HBB := Lib.hid hBB
      have HU := Lib.hid (huc.base_ hsz)
      clear huc hBB
      by_cases hC : C = 0
      · subst hC
        have hR := Lib.hid (HST.out rfl)
        go_wp2
        try go_ret2
        exact ⟨_, by rw [hR.out]; rfl, by rw [hR.out]; exact HOF2.out, HBB.out⟩
      · have hC0 : (0 : Int) < (C : Int) := by omega
        have hNX := Lib.hid (HNX.out hC)
        have hb6 := (Below.refl W2.heap.size W2).alloc (Nat.le_refl _) (Obj.cells #[.slice Au l.length cu] 22)
        have HBB6 := Lib.hid (HBB.out.trans (hb6.mono hsz2))
        have hsz6 := HBB6.out.size
        have HU6 := Lib.hid (HU.out.below (hb6.mono (Nat.le_refl _)))
        obtain ⟨us, hus, ho, hf⟩ := HOF2.out.below hb6
        have HUL := Lib.hid (show us.length = fs.length by rw [← hus, List.length_map])
        have HO := Lib.hid ho
        have HF := Lib.hid hf
        have HUS := Lib.hid hus
        clear ho hf hus
        have HSN := Lib.hid (src_one W2 Try.underlying42 22 (.slice Au l.length cu) rfl)
        go_wp2_with (at_builtin; refine wpList_own rfl (.tmp 22) (.tmp 24) 42 42 rfl w.heap.size 22 (.slice none 0 0) 1 24 Try.underlying42 info22 rfl rfl HO.out rfl HSN.out HBB6.out (Nat.le_refl _) ?_ ?_ ?_ ?_)
        · have := HUL.out
          unfold maxLen
          omega
        · have := HUL.out
          omega
        · exact hsz6
        intro v5 w5 ho5 hb5 hg5
        have hrf := OF.push HO.out HF.out HU6.out ho5 hg5
        rw [HUS.out] at hrf
        have HRF := Lib.hid hrf
        have HB5 := Lib.hid hb5
        clear ho5 hg5 hrf hb5
        go_wp2_with fail
        go_step3
        refine ⟨rfl, ?_⟩
        have hcast : ((at_ : Nat) : Int) + (C : Int) = ((at_ + C : Nat) : Int) := by omega
        rw [hcast]
        exact ⟨fs ++ [l], at_ + C, v5, _, _, _, _, _, _, _, _, _, _, _, _, _, _, _, _, _, _, _, _, _, _, _, _, _, _, _, rfl, HRF.out, HB5.out, HNX.out hC, by rw [List.length_append, List.length_singleton]; omega⟩
  · rintro _ W ⟨fs, at_, fv, u2, u3, u4, u5, u8, u9, u10, u11, u12, u13, u14, u15, u16, u17, u18, u19, u20, u21, u22, u23, u24, u25, u26, u27, u28, u29, u30, rfl, hof, hbel, hlf, hfl⟩
    have hat := hlf.1
    have hat' : ((at_ : Nat) : Int) ≤ (ss.length : Int) := by omega
    have hlc' : (ss.length : Int) ≤ (c : Int) := by omega
    obtain ⟨A1, c1, rfl, hcm1, hlc1⟩ := hof.shape
    have hfr := frameP_any ep fs.length (.slice (if c = at_ then A else Option.map (fun x => x.add at_) A) (ss.length - at_) (c - at_)) (ss.drop at_) W (rp_cut (rp_below HV.out hbel (Nat.le_refl _)) hat)
    have hfle := frame_le (epoch := ep) (num := fs.length) (ss := ss.drop at_)
    rw [List.length_drop] at hfle
    have hstop := hlf.stop
    have hnext := hlf.next
    generalize frameS ep fs.length (ss.drop at_) = r at *
    obtain ⟨l, C⟩ := r
    simp only at hstop hnext hfle
    have HFR := Lib.hid hfr
    have HOF := Lib.hid hof
    have HB := Lib.hid hbel
    have hsz := hbel.size
    have HST := Lib.hid hstop
    have HNX := Lib.hid hnext
    clear hfr hof hbel hlf hstop hnext
    by_cases hck : at_ = c
    · subst hck
      have hfr := HFR.out
      rw [if_pos rfl, Nat.sub_self, show ss.length - at_ = 0 by omega] at hfr
      have HFR2 := Lib.hid hfr
      clear hfr HFR
      go_wp2_with fail
      refine HFR2.out.mono ?_
      rintro e W2 ⟨u, rfl, huc, hb2⟩
      obtain ⟨Au, cu, rfl, _⟩ := huc.rc
      have HOF2 := Lib.hid (HOF.out.below hb2)
      have hBB := HB.out.trans (hb2.mono hsz)
      have hsz2 := hBB.size
      have HBB := Lib.hid hBB
      have HU := Lib.hid (huc.base_ hsz)
      clear huc hBB
      by_cases hC : C = 0
      · subst hC
        have hR := Lib.hid (HST.out rfl)
        go_wp2
        try go_ret2
        exact ⟨_, by rw [hR.out]; rfl, by rw [hR.out]; exact HOF2.out, HBB.out⟩
      · exfalso
        omega
    · have hck' : ¬ c = at_ := fun h => hck h.symm
      have hfr := HFR.out
      rw [if_neg hck'] at hfr
      have HFR2 := Lib.hid hfr
      clear hfr HFR
      go_wp2_with fail
      refine HFR2.out.mono ?_
      rintro e W2 ⟨u, rfl, huc, hb2⟩
      obtain ⟨Au, cu, rfl, _⟩ := huc.rc
      have HOF2 := Lib.hid (HOF.out.below hb2)
      have hBB := HB.out.trans (hb2.mono hsz)
      have hsz2 := hBB.size
      have HBB := Lib.hid hBB
      have HU := Lib.hid (huc.base_ hsz)
      clear huc hBB
      by_cases hC : C = 0
      · subst hC
        have hR := Lib.hid (HST.out rfl)
        go_wp2
        try go_ret2
        exact ⟨_, by rw [hR.out]; rfl, by rw [hR.out]; exact HOF2.out, HBB.out⟩
      · have hC0 : (0 : Int) < (C : Int) := by omega
        have hNX := Lib.hid (HNX.out hC)
        have hb6 := (Below.refl W2.heap.size W2).alloc (Nat.le_refl _) (Obj.cells #[.slice Au l.length cu] 22)
        have HBB6 := Lib.hid (HBB.out.trans (hb6.mono hsz2))
        have hsz6 := HBB6.out.size
        have HU6 := Lib.hid (HU.out.below (hb6.mono (Nat.le_refl _)))
        obtain ⟨us, hus, ho, hf⟩ := HOF2.out.below hb6
        have HUL := Lib.hid (show us.length = fs.length by rw [← hus, List.length_map])
        have HO := Lib.hid ho
        have HF := Lib.hid hf
        have HUS := Lib.hid hus
        clear ho hf hus
        have HSN := Lib.hid (src_one W2 Try.underlying42 22 (.slice Au l.length cu) rfl)
        go_wp2_with (at_builtin; refine wpList_own rfl (.tmp 22) (.tmp 24) 42 42 rfl w.heap.size 22 (.slice none 0 0) 1 24 Try.underlying42 info22 rfl rfl HO.out rfl HSN.out HBB6.out (Nat.le_refl _) ?_ ?_ ?_ ?_)
        · have := HUL.out
          unfold maxLen
          omega
        · have := HUL.out
          omega
        · exact hsz6
        intro v5 w5 ho5 hb5 hg5
        have hrf := OF.push HO.out HF.out HU6.out ho5 hg5
        rw [HUS.out] at hrf
        have HRF := Lib.hid hrf
        have HB5 := Lib.hid hb5
        clear ho5 hg5 hrf hb5
        go_wp2_with fail
        go_step3
        refine ⟨rfl, ?_⟩
        have hcast : ((at_ : Nat) : Int) + (C : Int) = ((at_ + C : Nat) : Int) := by omega
        rw [hcast]
        refine ⟨⟨fs ++ [l], at_ + C, v5, _, _, _, _, _, _, _, _, _, _, _, _, _, _, _, _, _, _, _, _, _, _, _, _, _, _, _, rfl, HRF.out, HB5.out, HNX.out hC, by rw [List.length_append, List.length_singleton]; omega⟩, ?_⟩
        simp [left7, intOf]
        omega
end Go.Proofs.Ytomkbgghljcbfaa
