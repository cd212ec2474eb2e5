/-
  The contracts of the statements' own lay, and Rising.
-/
import Derived.Test.YtomkbgghljcbfaaGPure
import Derived.Test.YtomkbgghljcbfaaGPg
import Derived.RangeFuncBox
import Derived.Test.YtomkbgghljcbfaaRowList
import Derived.Deep.QuietTactic
import Derived.BigQuiet
set_option linter.unusedVariables false

namespace Go.Pg
theorem layF_go {r : Rw} {rs : List Rw} {k : Nat} {laid : Bool} (h : k < rs.length) : layF r (rs.drop k) laid = if (rs[k].1.toList == r.1.toList) = true then layF r (rs.drop (k + 1)) laid else
    if laid = false ∧ sle rs[k].1 r.1 = false then r :: rs[k] :: layF r (rs.drop (k + 1)) true else rs[k] :: layF r (rs.drop (k + 1)) laid := by
  rw [List.drop_eq_getElem_cons h, layF]
end Go.Pg
namespace Go.Proofs.Ytomkbgghljcbfaa
open Go.RowKit Go.Rst Go.Pg Go.Crc

set_option maxRecDepth 100000 in
set_option maxHeartbeats 8000000 in
theorem lay_any (v : Value) (rs : List Rw) (key : ByteArray) (u : Value) (val : List UInt8) (ub : Nat) (w : World) (hub : ub ≤ w.heap.size) (ho : OR 5 53 w ub v rs) (hu : FB 5 w ub u val) (hlen : rs.length ≤ 1000) :
    Calls Try.prog 29 #[v, .agg #[.string key, u]] w fun e w' => ∃ v', e = .returned v' ∧ OR 5 53 w' ub v' (layF (key, val) rs false) ∧ Below w.heap.size w w' := by
  obtain ⟨A1, cu, hus⟩ := hu.shape
  obtain ⟨nu, hnu⟩ : ∃ nu, nu = val.length := ⟨_, rfl⟩
  rw [← hnu] at hus
  subst hus
  obtain ⟨Al, cl, rfl, _, _⟩ := rr_shape ho.rr
  have b1 : Below w.heap.size w (w.alloc (.cells #[.string key, .slice A1 nu cu] 53)) := (Below.refl _ _).alloc (Nat.le_refl _) _
  have hbc : ∀ i, (w.alloc (.cells #[.string key, .slice A1 nu cu] 53)).cell? ⟨w.heap.size, i, none⟩ = (#[.string key, .slice A1 nu cu] : Array Value)[i]? := fun i => cell_of_row _ _ i _ 53 (0, 0) (World.alloc_heap_new w _)
  have hb0 := hbc 0
  have hb1 := hbc 1
  simp only [List.getElem?_toArray, List.getElem?_cons_zero, List.getElem?_cons_succ] at hb0 hb1
  have HO1 := Lib.hid (ho.below b1)
  have HFU := Lib.hid (hu.below b1)
  have hsz1 : (w.alloc (.cells #[.string key, .slice A1 nu cu] 53)).heap.size = w.heap.size + 1 := World.size_alloc _ _
  have HB1 := Lib.hid b1
  clear ho hu hnu hbc b1
  go_enter Try.func29, Try.ntmps29
  go_wp2
  obtain ⟨W1, hW1⟩ : ∃ W1, W1 = (w.alloc (.cells #[.string key, .slice A1 nu cu] 53)) := ⟨_, rfl⟩
  rw [← hW1] at HO1 HFU HB1 hb0 hb1 hsz1 ⊢
  clear hW1
  go_loopw [5, 6, 7] (fun ov ld i wr => ∃ (k : Nat) (laid : Bool) (us : List (ByteArray × List UInt8 × Value)), k ≤ rs.length ∧ i = .int .i64 k ∧ ld = .bool laid ∧ wr.ownsRow (w.heap.size + 1) 53 2 ov us.length (rowCells us) ∧ (∀ x ∈ us, FB 5 W1 ub x.2.2 x.2.1) ∧
      us.map (fun x => (x.1, x.2.1)) ++ layF (key, val) (rs.drop k) laid = layF (key, val) rs false ∧ us.length ≤ 2 * k ∧ Below (w.heap.size + 1) W1 wr) (fun _ _ i _ => rs.length - (intOf i).toNat)
  case atStart => exact ⟨0, false, [], Nat.zero_le _, rfl, rfl, World.ownsRow_nil _ _ _ _, fun _ h => (by cases h), rfl, by simp, Below.refl _ _⟩
  case round =>
    obtain ⟨k, laid, us, hk, rfl, rfl, hown, hfs, hmp, huk, hbel⟩ := hrel
    obtain ⟨Ao, co, rfl, _⟩ := own_shape hown
    have hszr := hbel.size
    by_cases hlt : k < rs.length
    · obtain ⟨g, cap, ux, hsh, hgl0, hk0, hk1, hfb⟩ := or_row HO1.out hlt
      rw [hsz1] at hgl0
      have hgl := hgl0
      rw [layF_go hlt] at hmp
      obtain ⟨A2, c2, hux⟩ := hfb.shape
      obtain ⟨kk, hkk⟩ : ∃ x, x = rs[k].1 := ⟨_, rfl⟩
      obtain ⟨vv, hvv⟩ : ∃ x, x = rs[k].2 := ⟨_, rfl⟩
      have hrk : rs[k] = (kk, vv) := by rw [hkk, hvv]
      rw [← hkk] at hk0
      rw [← hvv] at hux hfb
      rw [hrk] at hmp
      simp only [] at hmp
      obtain ⟨nx, hnx⟩ : ∃ nx, nx = vv.length := ⟨_, rfl⟩
      rw [← hnx] at hux
      subst hux
      injection hsh with e1 _ e3
      subst e1
      subst e3
      have HO := Lib.hid hown
      have HFS := Lib.hid hfs
      have HFX := Lib.hid hfb
      have HB := Lib.hid hbel
      have hx := (hbel.cell (p := ⟨g, k * 2, none⟩) hgl).trans hk0
      have hy := (hbel.cell (p := ⟨g, k * 2 + 1, none⟩) hgl).trans hk1
      have hr := (hbel.cell (p := ⟨w.heap.size, 0, none⟩) (Nat.lt_succ_self _)).trans hb0
      have hs := (hbel.cell (p := ⟨w.heap.size, 1, none⟩) (Nat.lt_succ_self _)).trans hb1
      have hx' := fun j => (show (wr.drewN j).cell? ⟨g, k * 2, none⟩ = _ from hx)
      have hr' := fun j => (show (wr.drewN j).cell? ⟨w.heap.size, 0, none⟩ = _ from hr)
      have hy' := fun j => (show (wr.drewN j).cell? ⟨g, k * 2 + 1, none⟩ = _ from hy)
      have hs' := fun j => (show (wr.drewN j).cell? ⟨w.heap.size, 1, none⟩ = _ from hs)
      have HBD := Lib.hid (fun j => (⟨HB.out.os, HB.out.tape, HB.out.output, HB.out.size, HB.out.block⟩ : Below (w.heap.size + 1) W1 (wr.drewN j)))
      have HOD := Lib.hid (fun j => (show (wr.drewN j).ownsRow (w.heap.size + 1) 53 2 _ us.length (rowCells us) from HO.out))
      have q1 : (0 : Int) ≤ (k : Int) := by omega
      have q2 : (k : Int) < rs.length := by omega
      clear hown hfs hfb hbel hkk hvv hrk hnx
      cases e1 : (kk.toList == key.toList) with
      | true =>
        rw [e1, if_pos rfl] at hmp
        have E := Lib.hid hmp
        clear hmp
        go_wp2
        go_quiet (fail)
        clear hx' hr' hy' hs'
        go_wp2
        go_roundw
        case rel => exact ⟨k + 1, laid, us, by omega, by go_num, rfl, HO.out, HFS.out, E.out, by omega, HBD.out _⟩
        case measure => simp [intOf]; omega
      | false =>
        rw [e1, if_neg (by decide)] at hmp
        cases laid with
        | true =>
          rw [if_neg (by simp)] at hmp
          have E := Lib.hid hmp
          clear hmp
          go_wp2
          go_quiet (fail)
          go_wp2
          go_quiet (fail)
          have hb5 := fun j => (HBD.out j).alloc (by show _ ≤ wr.heap.size; omega) (Obj.cells #[.string kk, .slice A2 nx c2] 53)
          have ho5 := fun j => own_below (HOD.out j) ((Below.refl _ _).alloc (Nat.le_refl _) (Obj.cells #[.string kk, .slice A2 nx c2] 53))
          go_wp2_with (at_builtin; refine wpList_own rfl (.tmp 38) (.tmp 43) 34 34 rfl (w.heap.size + 1) 53 (.agg #[.string ⟨#[]⟩, .slice none 0 0]) 2 40 Try.underlying34 info53 rfl rfl (ho5 _) rfl (src_two _ (by simp) Try.underlying34 53 _ _ rfl rfl) (hb5 _) (Nat.le_refl _) ?_ ?_ ?_ ?_)
          · unfold maxLen; omega
          · omega
          · have := (hb5 0).size; have h9 : w.heap.size + 1 ≤ wr.heap.size := (by omega); simp; omega
          intro v5 w5 hn5 hbn5 hgn5
          obtain ⟨g5, c5, rfl⟩ := ownsRow_succ hn5
          have HO5 := Lib.hid hn5
          have HB5 := Lib.hid hbn5
          clear hb5 ho5 hn5 hbn5 hgn5
          go_wp2
          go_roundw
          case rel =>
            refine ⟨k + 1, true, us ++ [(kk, vv, .slice A2 nx c2)], by omega, by go_num, rfl, ?_, ?_, ?_, by simp; omega, HB5.out⟩
            · rw [List.length_append, rowCells_append]
              exact HO5.out
            · intro y hy
              rcases List.mem_append.1 hy with hy | hy
              · exact HFS.out y hy
              · simp only [List.mem_singleton] at hy
                subst hy
                exact HFX.out
            · rw [List.map_append, List.append_assoc]
              exact E.out
          case measure => simp [intOf]; omega
        | false =>
          rcases sle_cases kk key with ⟨h0, h1⟩ | ⟨h0, h1, h2⟩ | ⟨h0, h1, h2⟩
          · rw [if_neg (by rw [h0]; simp)] at hmp
            clear h0
            have E := Lib.hid hmp
            clear hmp
            go_wp2
            go_quiet (fail)
            go_wp2
            go_quiet (fail)
            have hb5 := fun j => (HBD.out j).alloc (by show _ ≤ wr.heap.size; omega) (Obj.cells #[.string kk, .slice A2 nx c2] 53)
            have ho5 := fun j => own_below (HOD.out j) ((Below.refl _ _).alloc (Nat.le_refl _) (Obj.cells #[.string kk, .slice A2 nx c2] 53))
            go_wp2_with (at_builtin; refine wpList_own rfl (.tmp 38) (.tmp 43) 34 34 rfl (w.heap.size + 1) 53 (.agg #[.string ⟨#[]⟩, .slice none 0 0]) 2 40 Try.underlying34 info53 rfl rfl (ho5 _) rfl (src_two _ (by simp) Try.underlying34 53 _ _ rfl rfl) (hb5 _) (Nat.le_refl _) ?_ ?_ ?_ ?_)
            · unfold maxLen; omega
            · omega
            · have := (hb5 0).size; have h9 : w.heap.size + 1 ≤ wr.heap.size := (by omega); simp; omega
            intro v5 w5 hn5 hbn5 hgn5
            obtain ⟨g5, c5, rfl⟩ := ownsRow_succ hn5
            have HO5 := Lib.hid hn5
            have HB5 := Lib.hid hbn5
            clear hb5 ho5 hn5 hbn5 hgn5
            go_wp2
            go_roundw
            case rel =>
              refine ⟨k + 1, false, us ++ [(kk, vv, .slice A2 nx c2)], by omega, by go_num, rfl, ?_, ?_, ?_, by simp; omega, HB5.out⟩
              · rw [List.length_append, rowCells_append]
                exact HO5.out
              · intro y hy
                rcases List.mem_append.1 hy with hy | hy
                · exact HFS.out y hy
                · simp only [List.mem_singleton] at hy
                  subst hy
                  exact HFX.out
              · rw [List.map_append, List.append_assoc]
                exact E.out
            case measure => simp [intOf]; omega
          · rw [e1] at h2
            cases h2
          · rw [if_pos ⟨rfl, h0⟩] at hmp
            clear h0
            have E := Lib.hid hmp
            clear hmp
            go_wp2
            go_quiet (fail)
            go_wp2
            go_quiet (fail)
            have hb4 := fun j => (HBD.out j).alloc (by show _ ≤ wr.heap.size; omega) (Obj.cells #[.string key, .slice A1 nu cu] 53)
            have ho4 := fun j => own_below (HOD.out j) ((Below.refl _ _).alloc (Nat.le_refl _) (Obj.cells #[.string key, .slice A1 nu cu] 53))
            go_wp2_with (at_builtin; refine wpList_own rfl (.tmp 34) (.tmp 36) 34 34 rfl (w.heap.size + 1) 53 (.agg #[.string ⟨#[]⟩, .slice none 0 0]) 2 40 Try.underlying34 info53 rfl rfl (ho4 _) rfl (src_two _ (by simp) Try.underlying34 53 _ _ rfl rfl) (hb4 _) (Nat.le_refl _) ?_ ?_ ?_ ?_)
            · unfold maxLen; omega
            · omega
            · have := (hb4 0).size; have h9 : w.heap.size + 1 ≤ wr.heap.size := (by omega); simp; omega
            intro v4 w4 hn4 hbn4 hgn4
            obtain ⟨g4, c4, rfl⟩ := ownsRow_succ hn4
            have HO4 := Lib.hid hn4
            have HB4 := Lib.hid hbn4
            clear hb4 ho4 hn4 hbn4 hgn4
            have hx4 := (HB4.out.cell (p := ⟨g, k * 2, none⟩) hgl).trans hk0
            have hy4 := (HB4.out.cell (p := ⟨g, k * 2 + 1, none⟩) hgl).trans hk1
            have hr4 := (HB4.out.cell (p := ⟨w.heap.size, 0, none⟩) (Nat.lt_succ_self _)).trans hb0
            have hs4 := (HB4.out.cell (p := ⟨w.heap.size, 1, none⟩) (Nat.lt_succ_self _)).trans hb1
            clear hx hy hr hs hx' hr' hy' hs'
            have hb5 := HB4.out.alloc (by have := HB4.out.size; omega) (Obj.cells #[.string kk, .slice A2 nx c2] 53)
            have ho5 := own_below HO4.out ((Below.refl _ _).alloc (Nat.le_refl _) (Obj.cells #[.string kk, .slice A2 nx c2] 53))
            go_wp2_with (at_builtin; refine wpList_own rfl (.tmp 38) (.tmp 43) 34 34 rfl (w.heap.size + 1) 53 (.agg #[.string ⟨#[]⟩, .slice none 0 0]) 2 40 Try.underlying34 info53 rfl rfl ho5 rfl (src_two _ (by simp) Try.underlying34 53 _ _ rfl rfl) hb5 (Nat.le_refl _) ?_ ?_ ?_ ?_)
            · unfold maxLen; omega
            · omega
            · have := hb5.size; have h9 : w.heap.size + 1 ≤ W1.heap.size := (by omega); simp at this ⊢; omega
            intro v5 w5 hn5 hbn5 hgn5
            obtain ⟨g5, c5, rfl⟩ := ownsRow_succ hn5
            have HO5 := Lib.hid hn5
            have HB5 := Lib.hid hbn5
            clear hb5 ho5 hn5 hbn5 hgn5
            go_wp2
            go_roundw
            case rel =>
              refine ⟨k + 1, true, us ++ [(key, val, .slice A1 nu cu), (kk, vv, .slice A2 nx c2)], by omega, by go_num, rfl, ?_, ?_, ?_, by simp; omega, HB5.out⟩
              · rw [List.length_append, rowCells_append]
                have h7 := HO5.out
                simp only [rowCells, List.flatMap_cons, List.flatMap_nil, List.cons_append, List.nil_append] at h7 ⊢
                exact h7
              · intro y hy
                rcases List.mem_append.1 hy with hy | hy
                · exact HFS.out y hy
                · simp only [List.mem_cons, List.not_mem_nil, or_false] at hy
                  rcases hy with rfl | rfl
                  · exact HFU.out
                  · exact HFX.out
              · rw [List.map_append, List.append_assoc]
                exact E.out
            case measure => simp [intOf]; omega
    · obtain rfl : k = rs.length := by omega
      rw [List.drop_length] at hmp
      have HO := Lib.hid hown
      have HFS := Lib.hid hfs
      have HB := Lib.hid hbel
      have hr := (hbel.cell (p := ⟨w.heap.size, 0, none⟩) (Nat.lt_succ_self _)).trans hb0
      have hs := (hbel.cell (p := ⟨w.heap.size, 1, none⟩) (Nat.lt_succ_self _)).trans hb1
      have HMP := Lib.hid hmp
      clear hown hfs hbel hmp
      cases laid with
      | true =>
        have HT := Lib.hid (show us.map (fun x => (x.1, x.2.1)) = layF (key, val) rs false by rw [← HMP.out]; simp [layF])
        go_wp2
        go_ret
        refine ⟨_, rfl, ⟨us, HT.out, own_base HO.out (by omega), fun x hx => (HFS.out x hx).below (by rw [hsz1]; exact HB.out)⟩, HB1.out.trans (HB.out.mono (Nat.le_succ _))⟩
      | false =>
        have HT := Lib.hid (show us.map (fun x => (x.1, x.2.1)) ++ [(key, val)] = layF (key, val) rs false by rw [← HMP.out]; simp [layF])
        have hb5 := HB.out.alloc (by have := HB.out.size; omega) (Obj.cells #[.string key, .slice A1 nu cu] 53)
        have ho5 := own_below HO.out ((Below.refl _ _).alloc (Nat.le_refl _) (Obj.cells #[.string key, .slice A1 nu cu] 53))
        go_wp2_with (at_builtin; refine wpList_own rfl (.tmp 47) (.tmp 49) 34 34 rfl (w.heap.size + 1) 53 (.agg #[.string ⟨#[]⟩, .slice none 0 0]) 2 40 Try.underlying34 info53 rfl rfl ho5 rfl (src_two _ (by simp) Try.underlying34 53 _ _ rfl rfl) hb5 (Nat.le_refl _) ?_ ?_ ?_ ?_)
        · unfold maxLen; omega
        · omega
        · have := hb5.size; have h9 : w.heap.size + 1 ≤ W1.heap.size := (by omega); simp at this ⊢; omega
        intro v5 w5 hn5 hbn5 hgn5
        obtain ⟨g5, c5, rfl⟩ := ownsRow_succ hn5
        have HO5 := Lib.hid hn5
        have HB5 := Lib.hid hbn5
        clear hb5 ho5 hn5 hbn5 hgn5
        go_wp2
        go_ret
        refine ⟨_, rfl, ⟨us ++ [(key, val, .slice A1 nu cu)], by rw [List.map_append]; exact HT.out, ?_, fun x hx => ?_⟩, HB1.out.trans (HB5.out.mono (Nat.le_succ _))⟩
        · rw [List.length_append, rowCells_append]
          exact own_base HO5.out (by omega)
        · have hw := HB5.out
          rw [← hsz1] at hw
          rcases List.mem_append.1 hx with hx | hx
          · exact (HFS.out x hx).below hw
          · simp only [List.mem_singleton] at hx
            subst hx
            exact HFU.out.below hw
end Go.Proofs.Ytomkbgghljcbfaa

/-
  The contract of the statements' own Rising: rows of choices, each key once, in order.
-/
namespace Go.Proofs.Ytomkbgghljcbfaa
open Go.RowKit Go.Rst Go.Pg Go.Crc

set_option maxRecDepth 100000 in
set_option maxHeartbeats 3200000 in
theorem risT_any (v : Value) (l : List UInt8) (n : Nat) (hn : n ≤ 100) (w : World) (hv : RB w v l) (hl : l.length ≤ 140737488351232) :
    Calls Try.prog 16 #[v, .int .i64 n] w (GivesRL w (risL (rowsAt l (nrows l n)))) := by
  have hcall := rowList_any v l n hn w hv hl
  have hlen : (rowsAt l (nrows l n)).length ≤ 100 := by unfold rowsAt nrows; simp; omega
  generalize rowsAt l (nrows l n) = rs at *
  have HC := Lib.hid hcall
  obtain ⟨A, c, rfl, h1, h2, _⟩ := hv
  unfold maxLen at h2
  clear hcall
  go_enter Try.func16, Try.ntmps16
  go_wp2_with fail
  refine HC.out.mono ?_
  rintro e w2 ⟨v2, rfl, hor, hb2⟩
  have HO2 := Lib.hid hor
  have HB2 := Lib.hid hb2
  have hsz2 := hb2.size
  obtain ⟨A2, c2, rfl, hlc2, hc263⟩ := rr_shape hor.rr
  clear hor hb2 HC
  go_wp2
  go_loopw [6, 7] (fun ov i wr => ∃ (k : Nat) (acc : List Rw), k ≤ rs.length ∧ i = .int .i64 k ∧ OR 5 53 wr w.heap.size ov acc ∧ Below w2.heap.size w2 wr ∧ (rs.drop k).foldl (fun o r => layF r o false) acc = risL rs ∧ acc.length ≤ k) (fun _ i _ => rs.length - (intOf i).toNat)
  case atStart => exact ⟨0, [], Nat.zero_le _, rfl, OR.nil_ _ _ _ _, Below.refl _ _, rfl, Nat.le_refl _⟩
  case round =>
    obtain ⟨k, acc, hk, rfl, hor, hbel, hf, hacc⟩ := hrel
    obtain ⟨Wo, hWo⟩ : ∃ x, x = wr := ⟨_, rfl⟩
    subst hWo
    obtain ⟨Ao, co, rfl⟩ := or_shape hor
    by_cases hlt : k < rs.length
    · obtain ⟨g, cap, u, hsh, hgl, hk0, hk1, hfb⟩ := or_row HO2.out hlt
      rw [List.drop_eq_getElem_cons hlt, List.foldl_cons] at hf
      have hx := (hbel.cell (p := ⟨g, k * 2, none⟩) hgl).trans hk0
      have hy := (hbel.cell (p := ⟨g, k * 2 + 1, none⟩) hgl).trans hk1
      have hfb2 := hfb.below hbel
      have hcall := lay_any _ acc rs[k].1 u rs[k].2 w.heap.size Wo (Nat.le_trans hsz2 hbel.size) hor hfb2 (by omega)
      obtain ⟨A1, c1, hu⟩ := hfb.shape
      have hrk : (rs[k].1, rs[k].2) = rs[k] := rfl
      rw [hrk] at hcall
      have hll := layF_len rs[k] acc false
      obtain ⟨na, hna⟩ : ∃ na, na = layF rs[k] acc false := ⟨_, rfl⟩
      rw [← hna] at hcall hf hll
      obtain ⟨kk, hkk⟩ : ∃ x, x = rs[k].1 := ⟨_, rfl⟩
      obtain ⟨n1, hn1⟩ : ∃ n1, n1 = rs[k].2.length := ⟨_, rfl⟩
      rw [← hn1] at hu
      rw [← hkk] at hx hcall
      subst hu
      injection hsh with e1 _ e3
      subst e1
      subst e3
      have HL := Lib.hid hcall
      have HF := Lib.hid hf
      have HB := Lib.hid hbel
      have q1 : (0 : Int) ≤ (k : Int) := by omega
      have q2 : (k : Int) < rs.length := by omega
      clear hcall hf hor hfb hfb2 hbel hk0 hk1 hrk hna hkk hn1
      go_wp2_with fail
      refine HL.out.mono ?_
      rintro e w3 ⟨v3, rfl, ho3, hb3⟩
      have HO3 := Lib.hid ho3
      have HB3 := Lib.hid (HB.out.trans (hb3.mono HB.out.size))
      obtain ⟨A3, c3, rfl⟩ := or_shape ho3
      clear ho3 hb3
      go_wp2
      go_roundw
      case rel => exact ⟨k + 1, na, by omega, by go_num, HO3.out, HB3.out, HF.out, by omega⟩
      case measure => simp [intOf]; omega
    · obtain rfl : k = rs.length := by omega
      rw [List.drop_length, List.foldl_nil] at hf
      subst hf
      have HO := Lib.hid hor
      have HB := Lib.hid hbel
      obtain ⟨m, hm⟩ : ∃ m, m = (risL rs).length := ⟨_, rfl⟩
      rw [← hm] at HO ⊢
      have HM := Lib.hid hm
      clear hor hbel hm
      go_wp2
      go_ret
      exact GivesRL.mk HO.out (HB2.out.trans (HB.out.mono hsz2))
end Go.Proofs.Ytomkbgghljcbfaa
