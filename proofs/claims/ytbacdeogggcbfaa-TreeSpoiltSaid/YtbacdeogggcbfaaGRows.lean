/-
  The contract of the program's Rows of a tree.
-/
import Derived.Test.YtbacdeogggcbfaaGBuild
import Derived.Test.YtbacdeogggcbfaaEqF
import Derived.Test.YtbacdeogggcbfaaGGet

namespace Go.Pg
theorem rowsF_go {ps : List (List UInt8)} {k : Nat} {acc : List Rw} (h : k < ps.length) : rowsF (ps.drop k) acc = if (decR ps[k]).2.2 ≠ 0 then ([], (decR ps[k]).2.2) else rowsF (ps.drop (k + 1)) (if (decR ps[k]).1 = 0 ∧ acc.length ≤ 5000 then acc ++ (decR ps[k]).2.1 else acc) := by
  rw [List.drop_eq_getElem_cons h, rowsF]
end Go.Pg
namespace Go.Proofs.Ytbacdeogggcbfaa
open Go.RowKit Go.Rst Go.Pg Go.Crc
theorem rowCells_append (a b : List (ByteArray × List UInt8 × Value)) : rowCells (a ++ b) = rowCells a ++ rowCells b := by unfold rowCells; rw [List.flatMap_append]
/-- Rows behind others. -/
theorem OR.join {e eR : TypeId} {w w' : World} {base : Nat} {v v' : Value} {us us2 : List (ByteArray × List UInt8 × Value)} (hne : e ≠ eR)
    (ho : w.ownsRow base eR 2 v us.length (rowCells us)) (hf : ∀ x ∈ us, FB e w base x.2.2 x.2.1) (hf2 : ∀ x ∈ us2, FB e w base x.2.2 x.2.1)
    (ho' : w'.ownsRow base eR 2 v' (us.length + us2.length) (rowCells us ++ rowCells us2)) (hg : w.grownBy w' v.ownBlock) : OR e eR w' base v' (us.map (fun x => (x.1, x.2.1)) ++ us2.map (fun x => (x.1, x.2.1))) := by
  refine ⟨us ++ us2, by simp, by rw [List.length_append, rowCells_append]; exact ho', fun x hx => ?_⟩
  rcases List.mem_append.1 hx with hx | hx
  · exact (hf x hx).grown ho hne hg
  · exact (hf2 x hx).grown ho hne hg
/-- The source of an append of rows. -/
theorem OR.src {e eR : TypeId} {w : World} {base base' : Nat} {v : Value} {us : List (ByteArray × List UInt8 × Value)} {tx e' : TypeId} (ho : w.ownsRow base eR 2 v us.length (rowCells us)) (hf : ∀ x ∈ us, FB e w base' x.2.2 x.2.1) (hk : Try.prog.underlying tx = some (.slice e')) :
    Src Try.prog 2 tx v us.length (rowCells us) w := by
  rcases ho.2 with ⟨rfl, h0⟩ | ⟨g, cap, cur, rfl, hb, hg, hnc, hcm, hcs, ht⟩
  · have : us = [] := List.eq_nil_of_length_eq_zero h0
    subst this
    exact Src.ofNil _ hk 0
  · refine Src.ofSlice _ hk ⟨g, 0, none⟩ _ _ _ (rowCells_length us) (fun j x hj => ho.cells (g := g) rfl j x hj) (fun x hx => ?_)
    unfold rowCells at hx
    obtain ⟨y, hy, hx⟩ := List.mem_flatMap.1 hx
    simp only [List.mem_cons, List.not_mem_nil, or_false] at hx
    rcases hx with rfl | rfl
    · rfl
    · exact fb_one (hf y hy)
def GivesRw (w : World) (r : List Rw × Nat) (e : Ending) (w' : World) : Prop := ∃ v, e = .returned (.tuple #[v, .int .u16 r.2]) ∧ OR 5 25 w' w.heap.size v r.1 ∧ Below w.heap.size w w'
theorem GivesRw.err {w w' : World} {r : List Rw × Nat} {x : Nat} (h : r = ([], x)) (hb : Below w.heap.size w w') : GivesRw w r (.returned (.tuple #[.slice none 0 0, .int .u16 x])) w' := by
  subst h
  exact ⟨_, rfl, OR.nil_ _ _ _ _, hb⟩
theorem GivesRw.ok {w w' : World} {r : List Rw × Nat} {l : List Rw} {v : Value} (h : r = (l, 0)) (ho : OR 5 25 w' w.heap.size v l) (hb : Below w.heap.size w w') : GivesRw w r (.returned (.tuple #[v, .int .u16 0])) w' := by
  subst h
  exact ⟨_, rfl, ho, hb⟩

set_option maxRecDepth 100000 in
set_option maxHeartbeats 4000000 in
theorem rows_any (v : Value) (ps : List (List UInt8)) (w : World) (hv : RP w v ps) :
    Calls Try.prog 17 #[v] w (GivesRw w (rowsT ps)) := by
  have HV := Lib.hid hv
  have hT : rowsT ps = if (rowsF ps []).2 ≠ 0 then ([], (rowsF ps []).2) else if buildL (rowsF ps []).1 = some ps then ((rowsF ps []).1, 0) else ([], 11) := rfl
  have HT := Lib.hid hT
  obtain ⟨A, c, rfl, hlc, hc, _⟩ := hv
  unfold maxLen at hc
  clear hT
  go_enter Try.func17, Try.ntmps17
  go_wp2
  go_loopw [4, 14] (fun lv i wr => ∃ (k : Nat) (acc : List Rw), k ≤ ps.length ∧ i = .int .i64 k ∧ OR 5 25 wr w.heap.size lv acc ∧ Below w.heap.size w wr ∧ rowsF (ps.drop k) acc = rowsF ps [] ∧ acc.length ≤ 5250) (fun _ i _ => ps.length - (intOf i).toNat)
  case atStart => exact ⟨0, [], Nat.zero_le _, rfl, OR.nil_ _ _ _ _, Below.refl _ _, rfl, by simp⟩
  case round =>
    obtain ⟨k, acc, hk, rfl, hor, hbel, hrf, hacc⟩ := hrel
    obtain ⟨Wo, hWo⟩ : ∃ x, x = wr := ⟨_, rfl⟩
    subst hWo
    obtain ⟨Al, cl, rfl⟩ := or_shape hor
    have HOR := Lib.hid hor
    have HB := Lib.hid hbel
    have HRF := Lib.hid hrf
    clear hor hbel hrf
    by_cases hlt : k < ps.length
    · have hrf := HRF.out
      rw [rowsF_go hlt] at hrf
      obtain ⟨bb, off, u, rfl, hbb, hx0, hr⟩ := rp_at HV.out hlt
      have hx := (HB.out.cell (p := ⟨bb, off + k, none⟩) hbb).trans hx0
      have hdec := dec_any u ps[k] Wo (hr.below HB.out)
      obtain ⟨A1, c1, hu, _, _, _⟩ := hr
      obtain ⟨pl, hpl⟩ : ∃ pl, pl = ps[k].length := ⟨_, rfl⟩
      rw [← hpl] at hu
      subst hu
      have hl250 := decR_len ps[k]
      unfold GivesDec at hdec
      generalize hd1 : (decR ps[k]).1 = lev at *
      generalize hd2 : (decR ps[k]).2.1 = l at *
      generalize hd3 : (decR ps[k]).2.2 = e at *
      have HDEC := Lib.hid hdec
      have HRR := Lib.hid hrf
      have q1 : (0 : Int) ≤ (k : Int) := by omega
      have q2 : (k : Int) < ps.length := by omega
      clear hdec hrf hd1 hd2 hd3 hpl hx0 HRF
      by_cases he : e = 0
      · subst he
        have hgg := HRR.out
        rw [if_neg (by decide)] at hgg
        by_cases hap : lev = 0 ∧ acc.length ≤ 5000
        · rw [if_pos hap] at hgg
          have E := Lib.hid hgg
          obtain ⟨rfl, hac⟩ := hap
          have hac' : (acc.length : Int) ≤ 5000 := by omega
          clear hgg
          go_wp2_with fail
          refine HDEC.out.mono ?_
          rintro ee w2 ⟨v2, rfl, ho2, hb2⟩
          have HB2 := Lib.hid (HB.out.trans (hb2.mono HB.out.size))
          obtain ⟨us, hus, ho, hf⟩ := HOR.out.below hb2
          obtain ⟨us2, hus2, hoo, hf2⟩ := ho2.base_ (base' := w.heap.size) HB.out.size
          have hul : us.length = acc.length := by have h := congrArg List.length hus; rw [List.length_map] at h; exact h
          have hul2 : us2.length = l.length := by have h := congrArg List.length hus2; rw [List.length_map] at h; exact h
          have hsrc := OR.src (tx := 22) hoo hf2 Try.underlying22
          obtain ⟨A2, c2, rfl⟩ := or_shape ho2
          rw [hul] at ho
          rw [hul2] at hsrc
          have HSRC := Lib.hid hsrc
          have HO := Lib.hid ho
          have HUL := Lib.hid hul
          have HUL2 := Lib.hid hul2
          have HUS := Lib.hid hus
          have HUS2 := Lib.hid hus2
          clear ho2 hb2 hoo hul hul2 hsrc ho hus hus2
          go_wp2_with (at_builtin; refine wpList_own rfl (.tmp 34) (.tmp 35) 22 22 rfl w.heap.size 25 (.agg #[.string ⟨#[]⟩, .slice none 0 0]) 2 40 Try.underlying22 info25 rfl rfl HO.out rfl HSRC.out HB2.out (Nat.le_refl _) ?_ ?_ ?_ ?_)
          · unfold maxLen; omega
          · omega
          · exact HB2.out.size
          intro v4 w4 ho4 hb4 hg4
          have hor4 := OR.join (e := 5) (eR := 25) (us := us) (us2 := us2) (by decide) (by rw [HUL.out]; exact HO.out) hf hf2 (by rw [HUL.out, HUL2.out]; exact ho4) hg4
          rw [HUS.out, HUS2.out] at hor4
          obtain ⟨A4, c4, rfl⟩ := or_shape hor4
          have HOR4 := Lib.hid hor4
          have HB4 := Lib.hid hb4
          clear hor4 hb4 hg4 ho4 hf hf2
          go_wp2
          go_roundw
          case rel => exact ⟨k + 1, acc ++ l, by omega, by go_num, HOR4.out, HB4.out, E.out, by rw [List.length_append]; omega⟩
          case measure => simp [intOf]; omega
        · rw [if_neg hap] at hgg
          have E := Lib.hid hgg
          clear hgg
          by_cases hl0 : lev = 0
          · subst hl0
            have hac' : (5000 : Int) < (acc.length : Int) := by omega
            clear hap
            go_wp2_with fail
            refine HDEC.out.mono ?_
            rintro ee w2 ⟨v2, rfl, ho2, hb2⟩
            obtain ⟨A2, c2, rfl⟩ := or_shape ho2
            have HB2 := Lib.hid (HB.out.trans (hb2.mono HB.out.size))
            have HOR2 := Lib.hid (HOR.out.below hb2)
            clear ho2 hb2
            go_wp2
            go_roundw
            case rel => exact ⟨k + 1, acc, by omega, by go_num, HOR2.out, HB2.out, E.out, hacc⟩
            case measure => simp [intOf]; omega
          · have hl0' : ((lev : Int) == 0) = false := by rw [beq_eq_false_iff_ne]; omega
            clear hap hl0
            go_wp2_with fail
            refine HDEC.out.mono ?_
            rintro ee w2 ⟨v2, rfl, ho2, hb2⟩
            obtain ⟨A2, c2, rfl⟩ := or_shape ho2
            have HB2 := Lib.hid (HB.out.trans (hb2.mono HB.out.size))
            have HOR2 := Lib.hid (HOR.out.below hb2)
            clear ho2 hb2
            go_wp2
            go_roundw
            case rel => exact ⟨k + 1, acc, by omega, by go_num, HOR2.out, HB2.out, E.out, hacc⟩
            case measure => simp [intOf]; omega
      · have hgg := HRR.out
        rw [if_pos he] at hgg
        have E := Lib.hid (show rowsT ps = ([], e) by rw [HT.out, ← hgg, if_pos he])
        have he' : ((e : Int) != 0) = true := by rw [bne_iff_ne]; omega
        clear hgg he
        go_wp2_with fail
        refine HDEC.out.mono ?_
        rintro ee w2 ⟨v2, rfl, ho2, hb2⟩
        obtain ⟨A2, c2, rfl⟩ := or_shape ho2
        have HB2 := Lib.hid (HB.out.trans (hb2.mono HB.out.size))
        clear ho2 hb2
        go_wp2
        go_ret2
        exact GivesRw.err E.out HB2.out
    · obtain rfl : k = ps.length := by omega
      have hrf := HRF.out
      rw [List.drop_length, rowsF] at hrf
      have hT2 : rowsT ps = if buildL acc = some ps then (acc, 0) else ([], 11) := by rw [HT.out, ← hrf, if_neg (by simp)]
      have hbd := build_any _ acc Wo HOR.out.rr
      have HBD := Lib.hid hbd
      have HT2 := Lib.hid hT2
      clear hrf hT2 hbd
      cases hb : buildL acc with
      | none =>
        rw [hb] at HBD
        have E := Lib.hid (show rowsT ps = ([], 11) by rw [HT2.out, hb, if_neg (by simp)])
        have HBD2 := Lib.hid (show Calls Try.prog 14 _ Wo (GivesBd Wo none) from HBD.out)
        clear hb HBD
        go_wp2_with fail
        refine HBD2.out.mono ?_
        rintro ee w2 ⟨v2, rfl, ho2, hb2⟩
        obtain ⟨A2, c2, rfl, _, _⟩ := ho2.shape
        have HB2 := Lib.hid (HB.out.trans (hb2.mono HB.out.size))
        clear ho2 hb2
        go_wp2
        go_ret2
        exact GivesRw.err E.out HB2.out
      | some qs =>
        rw [hb] at HBD
        have E0 := Lib.hid (show rowsT ps = if qs = ps then (acc, 0) else ([], 11) by rw [HT2.out, hb]; simp)
        have HBD2 := Lib.hid (show Calls Try.prog 14 _ Wo (GivesBd Wo (some qs)) from HBD.out)
        clear hb HBD
        go_wp2_with fail
        refine HBD2.out.mono ?_
        rintro ee w2 ⟨v2, rfl, ho2, hb2⟩
        have ho2 : OP 5 23 w2 Wo.heap.size v2 qs := ho2
        have hbw := HB.out.trans (hb2.mono HB.out.size)
        have HEQ := Lib.hid (eqF_any v2 _ qs ps w2 ho2.rp (rp_below HV.out hbw (Nat.le_refl _)))
        obtain ⟨A2, c2, rfl, _, _⟩ := ho2.shape
        have HB2 := Lib.hid hbw
        have HOR2 := Lib.hid (HOR.out.below hb2)
        clear ho2 hb2 hbw
        by_cases hqp : qs = ps
        · have E := Lib.hid (show rowsT ps = (acc, 0) by rw [E0.out, if_pos hqp])
          have hdt : decide (qs = ps) = true := by rw [decide_eq_true_iff]; exact hqp
          rw [hdt] at HEQ
          clear hqp hdt
          go_wp2_with fail
          refine HEQ.out.mono ?_
          rintro ee w3 ⟨rfl, rfl⟩
          go_wp2
          go_ret2
          exact GivesRw.ok E.out HOR2.out HB2.out
        · have E := Lib.hid (show rowsT ps = ([], 11) by rw [E0.out, if_neg hqp])
          have hdt : decide (qs = ps) = false := by rw [decide_eq_false_iff_not]; exact hqp
          rw [hdt] at HEQ
          clear hqp hdt
          go_wp2_with fail
          refine HEQ.out.mono ?_
          rintro ee w3 ⟨rfl, rfl⟩
          go_wp2
          go_ret2
          exact GivesRw.err E.out HB2.out
end Go.Proofs.Ytbacdeogggcbfaa

/-
  The contract of the program's Scan of a tree.
-/
namespace Go.Pg
def inS (from_ to : ByteArray) (k : ByteArray) : Bool := !(Op.bytesLess k.toList from_.toList) && (to.toList == [] || Op.bytesLess k.toList to.toList)
def scanL (ps : List (List UInt8)) (from_ to : ByteArray) : List Rw × Nat :=
  if (rowsT ps).2 ≠ 0 then ([], (rowsT ps).2) else ((rowsT ps).1.filter (fun r => inS from_ to r.1), 0)
theorem rowsT_len (ps : List (List UInt8)) : (rowsT ps).1.length ≤ 5000 := by
  unfold rowsT
  split
  · simp
  · split
    · rename_i h
      unfold buildL at h
      split at h
      · cases h
      · rename_i h2
        simp only [not_or, Nat.not_lt] at h2
        exact h2.2
    · simp
end Go.Pg
namespace Go.Proofs.Ytbacdeogggcbfaa
open Go.RowKit Go.Rst Go.Pg Go.Crc
theorem or_row {e eR : TypeId} {w : World} {base : Nat} {v : Value} {rs : List Rw} (h : OR e eR w base v rs) {j : Nat} (hj : j < rs.length) :
    ∃ g cap u, v = .slice (some ⟨g, 0, none⟩) rs.length cap ∧ g < w.heap.size ∧ w.cell? ⟨g, j * 2, none⟩ = some (.string rs[j].1) ∧ w.cell? ⟨g, j * 2 + 1, none⟩ = some u ∧ FB e w base u rs[j].2 := by
  obtain ⟨us, rfl, ho, hf⟩ := h
  have hj' : j < us.length := by simpa using hj
  rcases ho.2 with ⟨_, h0⟩ | ⟨g, cap, cur, rfl, hb, hg, hnc, hcm, hcs, ht⟩
  · omega
  · have h1 := rowCells_get us j hj'
    have hcell : ∀ i, i < us.length * 2 → w.cell? ⟨g, i, none⟩ = (rowCells us)[i]? := by
      intro i hi
      rw [cell_of_row _ g i cur eR (0, 0) hg, ← ht, List.getElem?_take, if_pos (by omega), Array.getElem?_toList]
    refine ⟨g, cap, us[j].2.2, by simp, (Array.getElem?_eq_some_iff.1 hg).1, ?_, ?_, ?_⟩
    · rw [hcell _ (by omega), h1.1]; simp
    · rw [hcell _ (by omega), h1.2]
    · have := hf us[j] (List.getElem_mem hj')
      simpa using this

set_option maxRecDepth 100000 in
set_option maxHeartbeats 4000000 in
theorem scan_any (v : Value) (ps : List (List UInt8)) (from_ to : ByteArray) (w : World) (hv : RP w v ps) :
    Calls Try.prog 15 #[v, .string from_, .string to] w (GivesRw w (scanL ps from_ to)) := by
  have hcall := rows_any v ps w hv
  obtain ⟨A, c, rfl, hlc, hc, _⟩ := hv
  have hT : scanL ps from_ to = if (rowsT ps).2 ≠ 0 then ([], (rowsT ps).2) else ((rowsT ps).1.filter (fun r => inS from_ to r.1), 0) := rfl
  have hlen := rowsT_len ps
  unfold GivesRw at hcall
  generalize hr1 : (rowsT ps).1 = rs at *
  generalize hr2 : (rowsT ps).2 = e at *
  have HC := Lib.hid hcall
  have HT := Lib.hid hT
  clear hcall hT hr1 hr2
  by_cases he : e = 0
  · subst he
    have E := Lib.hid (show scanL ps from_ to = (rs.filter (fun r => inS from_ to r.1), 0) by rw [HT.out, if_neg (by simp)])
    go_enter Try.func15, Try.ntmps15
    go_wp2_with fail
    refine HC.out.mono ?_
    rintro ee w2 ⟨v2, rfl, ho2, hb2⟩
    have HO2 := Lib.hid ho2
    have HB2 := Lib.hid hb2
    have hsz2 := hb2.size
    obtain ⟨A2, c2, rfl, hlc2, hc263⟩ := rr_shape ho2.rr
    clear ho2 hb2 HC HT
    go_wp2
    go_loopw [10, 23] (fun lv i wr => ∃ (k : Nat) (us : List (ByteArray × List UInt8 × Value)), k ≤ rs.length ∧ i = .int .i64 k ∧ us.map (fun x => (x.1, x.2.1)) = (rs.take k).filter (fun r => inS from_ to r.1) ∧ wr.ownsRow w2.heap.size 25 2 lv us.length (rowCells us) ∧ (∀ x ∈ us, FB 5 w2 w.heap.size x.2.2 x.2.1) ∧ us.length ≤ k ∧ Below w2.heap.size w2 wr) (fun _ i _ => rs.length - (intOf i).toNat)
    case atStart => exact ⟨0, [], Nat.zero_le _, rfl, rfl, World.ownsRow_nil _ _ _ _, fun _ h => (by cases h), Nat.le_refl _, Below.refl _ _⟩
    case round =>
      obtain ⟨k, us, hk, rfl, hus, hown, hfs, huk, hbel⟩ := hrel
      obtain ⟨Al, cl, rfl, _⟩ := own_shape hown
      obtain ⟨Wo, hWo⟩ : ∃ x, x = wr := ⟨_, rfl⟩
      subst hWo
      by_cases hlt : k < rs.length
      · obtain ⟨g, cap, u, hsh, hgl, hk0, hk1, hfb⟩ := or_row HO2.out hlt
        have hx := (hbel.cell (p := ⟨g, k * 2, none⟩) hgl).trans hk0
        have hy := (hbel.cell (p := ⟨g, k * 2 + 1, none⟩) hgl).trans hk1
        have htk : (rs.take (k + 1)).filter (fun r => inS from_ to r.1) = (rs.take k).filter (fun r => inS from_ to r.1) ++ (if inS from_ to rs[k].1 = true then [rs[k]] else []) := by
          rw [List.take_succ_eq_append_getElem hlt, List.filter_append]
          congr 1
          by_cases h : inS from_ to rs[k].1 = true <;> simp [h]
        injection hsh with e1 _ e3
        subst e1
        subst e3
        obtain ⟨A1, c1, hu⟩ := hfb.shape
        obtain ⟨kk, hkk⟩ : ∃ x, x = rs[k].1 := ⟨_, rfl⟩
        obtain ⟨vv, hvv⟩ : ∃ x, x = rs[k].2 := ⟨_, rfl⟩
        have hrk : rs[k] = (kk, vv) := by rw [hkk, hvv]
        rw [← hvv] at hu hfb
        rw [← hkk] at hx htk
        rw [hrk] at htk
        obtain ⟨n1, hn1⟩ : ∃ n1, n1 = vv.length := ⟨_, rfl⟩
        rw [← hn1] at hu
        subst hu
        have HTK := Lib.hid htk
        have HFB := Lib.hid hfb
        have HUS := Lib.hid hus
        have HO := Lib.hid hown
        have HFS := Lib.hid hfs
        have HBEL := Lib.hid hbel
        have q1 : (0 : Int) ≤ (k : Int) := by omega
        have q2 : (k : Int) < rs.length := by omega
        clear htk hfb hus hown hfs hbel hk0 hk1 hkk hvv hrk hn1
        cases h1 : Op.bytesLess kk.toList from_.toList with
        | true =>
          have hin : inS from_ to kk = false := by unfold inS; rw [h1]; rfl
          rw [hin, if_neg (by decide), List.append_nil] at HTK
          clear hin
          go_wp2
          go_roundw
          case rel => exact ⟨k + 1, us, by omega, by go_num, by rw [HTK.out]; exact HUS.out, own_below HO.out ((Below.refl _ _).alloc (Nat.le_refl _) _), HFS.out, by omega, HBEL.out.alloc HBEL.out.size _⟩
          case measure => simp [intOf]; omega
        | false =>
          cases h2 : (to.toList == []) with
          | true =>
            have hin : inS from_ to kk = true := by unfold inS; rw [h1, h2]; rfl
            rw [hin, if_pos rfl] at HTK
            have hbA := HBEL.out.alloc HBEL.out.size (Obj.cells #[.string kk, .slice A1 n1 c1] 25)
            have hbB := hbA.alloc hbA.size (Obj.cells #[.string kk, .slice A1 n1 c1] 25)
            have ho := own_below (own_below HO.out ((Below.refl _ _).alloc (Nat.le_refl _) (Obj.cells #[.string kk, .slice A1 n1 c1] 25))) ((Below.refl _ _).alloc (Nat.le_refl _) (Obj.cells #[.string kk, .slice A1 n1 c1] 25))
            clear hin
            go_wp2_with (at_builtin; refine wpList_own rfl (.tmp 41) (.tmp 43) 22 22 rfl w2.heap.size 25 (.agg #[.string ⟨#[]⟩, .slice none 0 0]) 2 40 Try.underlying22 info25 rfl rfl ho rfl (src_two _ (by simp) Try.underlying22 25 _ _ rfl rfl) hbB (Nat.le_refl _) ?_ ?_ ?_ ?_)
            · unfold maxLen; omega
            · omega
            · have := hbB.size; simpa using this
            intro v4 w4 ho4 hb4 hg4
            obtain ⟨g4, c4, rfl⟩ := ownsRow_succ ho4
            have HO4 := Lib.hid ho4
            have HB4 := Lib.hid hb4
            clear ho ho4 hb4 hg4 hbA hbB
            go_wp2
            go_roundw
            case rel =>
              refine ⟨k + 1, us ++ [(kk, vv, .slice A1 n1 c1)], by omega, by go_num, ?_, ?_, ?_, by simp; omega, HB4.out⟩
              · rw [HTK.out, List.map_append, HUS.out]; rfl
              · rw [List.length_append, rowCells_append]; exact HO4.out
              · intro x hx
                rcases List.mem_append.1 hx with hx | hx
                · exact HFS.out x hx
                · simp only [List.mem_singleton] at hx
                  subst hx
                  exact HFB.out
            case measure => simp [intOf]; omega
          | false =>
            cases h3 : Op.bytesLess kk.toList to.toList with
            | true =>
              have hin : inS from_ to kk = true := by unfold inS; rw [h1, h2, h3]; rfl
              rw [hin, if_pos rfl] at HTK
              have hbA := HBEL.out.alloc HBEL.out.size (Obj.cells #[.string kk, .slice A1 n1 c1] 25)
              have hbB := hbA.alloc hbA.size (Obj.cells #[.string kk, .slice A1 n1 c1] 25)
              have ho := own_below (own_below HO.out ((Below.refl _ _).alloc (Nat.le_refl _) (Obj.cells #[.string kk, .slice A1 n1 c1] 25))) ((Below.refl _ _).alloc (Nat.le_refl _) (Obj.cells #[.string kk, .slice A1 n1 c1] 25))
              clear hin
              go_wp2_with (at_builtin; refine wpList_own rfl (.tmp 41) (.tmp 43) 22 22 rfl w2.heap.size 25 (.agg #[.string ⟨#[]⟩, .slice none 0 0]) 2 40 Try.underlying22 info25 rfl rfl ho rfl (src_two _ (by simp) Try.underlying22 25 _ _ rfl rfl) hbB (Nat.le_refl _) ?_ ?_ ?_ ?_)
              · unfold maxLen; omega
              · omega
              · have := hbB.size; simpa using this
              intro v4 w4 ho4 hb4 hg4
              obtain ⟨g4, c4, rfl⟩ := ownsRow_succ ho4
              have HO4 := Lib.hid ho4
              have HB4 := Lib.hid hb4
              clear ho ho4 hb4 hg4 hbA hbB
              go_wp2
              go_roundw
              case rel =>
                refine ⟨k + 1, us ++ [(kk, vv, .slice A1 n1 c1)], by omega, by go_num, ?_, ?_, ?_, by simp; omega, HB4.out⟩
                · rw [HTK.out, List.map_append, HUS.out]; rfl
                · rw [List.length_append, rowCells_append]; exact HO4.out
                · intro x hx
                  rcases List.mem_append.1 hx with hx | hx
                  · exact HFS.out x hx
                  · simp only [List.mem_singleton] at hx
                    subst hx
                    exact HFB.out
              case measure => simp [intOf]; omega
            | false =>
              have hin : inS from_ to kk = false := by unfold inS; rw [h1, h2, h3]; rfl
              rw [hin, if_neg (by decide), List.append_nil] at HTK
              clear hin
              go_wp2
              go_roundw
              case rel => exact ⟨k + 1, us, by omega, by go_num, by rw [HTK.out]; exact HUS.out, own_below HO.out ((Below.refl _ _).alloc (Nat.le_refl _) _), HFS.out, by omega, HBEL.out.alloc HBEL.out.size _⟩
              case measure => simp [intOf]; omega
      · obtain rfl : k = rs.length := by omega
        rw [List.take_length] at hus
        have HUS := Lib.hid hus
        have HO := Lib.hid hown
        have HFS := Lib.hid hfs
        have HBEL := Lib.hid hbel
        clear hus hown hfs hbel
        go_wp2
        go_ret2
        exact GivesRw.ok E.out ⟨us, HUS.out, own_base HO.out hsz2, fun x hx => (HFS.out x hx).below HBEL.out⟩ (HB2.out.trans (HBEL.out.mono hsz2))
  · have E := Lib.hid (show scanL ps from_ to = ([], e) by rw [HT.out, if_pos he])
    have he' : ((e : Int) != 0) = true := by rw [bne_iff_ne]; omega
    clear he
    go_enter Try.func15, Try.ntmps15
    go_wp2_with fail
    refine HC.out.mono ?_
    rintro ee w2 ⟨v2, rfl, ho2, hb2⟩
    obtain ⟨A2, c2, rfl⟩ := or_shape ho2
    have HB2 := Lib.hid hb2
    clear ho2 hb2
    go_wp2
    go_ret2
    exact GivesRw.err E.out HB2.out
end Go.Proofs.Ytbacdeogggcbfaa
