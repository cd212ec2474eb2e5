/-
  The contract of the document's put: a row laid among rows.
-/
import Derived.Test.YtomkbgghljcbfaaGChg
import Derived.Test.YtomkbgghljcbfaaGSet
import Derived.Test.YtomkbgghljcbfaaGRis
namespace Go.Proofs.Ytomkbgghljcbfaa
open Go.RowKit Go.Rst Go.Pg Go.Crc

set_option maxRecDepth 100000 in
set_option maxHeartbeats 8000000 in
theorem put_any (W0 : World) (v : Value) (rs : List Rw) (key : ByteArray) (u : Value) (val : List UInt8) (w : World) (ho : RV W0 w v rs) (hu : RB W0 u val) (hlen : rs.length ≤ 3000000000001) :
    Calls Try.prog 38 #[v, .agg #[.string key, u]] w fun e w' => ∃ v', e = .returned v' ∧ RV W0 w' v' (layF (key, val) rs false) ∧ Below w.heap.size w w' := by
  obtain ⟨A1, cu, hus⟩ := rb_shape hu
  obtain ⟨nu, hnu⟩ : ∃ nu, nu = val.length := ⟨_, rfl⟩
  rw [← hnu] at hus
  subst hus
  obtain ⟨Al, cl, rfl, _, _⟩ := ho.shape
  have b1 : Below w.heap.size w (w.alloc (.cells #[.string key, .slice A1 nu cu] 53)) := (Below.refl _ _).alloc (Nat.le_refl _) _
  have hbc : ∀ i, (w.alloc (.cells #[.string key, .slice A1 nu cu] 53)).cell? ⟨w.heap.size, i, none⟩ = (#[.string key, .slice A1 nu cu] : Array Value)[i]? := fun i => cell_of_row _ _ i _ 53 (0, 0) (World.alloc_heap_new w _)
  have hb0 := hbc 0
  have hb1 := hbc 1
  simp only [List.getElem?_toArray, List.getElem?_cons_zero, List.getElem?_cons_succ] at hb0 hb1
  have HO1 := Lib.hid (ho.below b1 (Nat.le_refl _))
  have HFU := Lib.hid hu
  have hsz1 : (w.alloc (.cells #[.string key, .slice A1 nu cu] 53)).heap.size = w.heap.size + 1 := World.size_alloc _ _
  have HB1 := Lib.hid b1
  clear ho hu hnu hbc b1
  go_enter Try.func38, Try.ntmps38
  go_wp2
  obtain ⟨W1, hW1⟩ : ∃ W1, W1 = (w.alloc (.cells #[.string key, .slice A1 nu cu] 53)) := ⟨_, rfl⟩
  rw [← hW1] at HO1 HB1 hb0 hb1 hsz1 ⊢
  clear hW1
  go_loopw [5, 6, 7] (fun ov ld i wr => ∃ (k : Nat) (laid : Bool) (us : List (ByteArray × List UInt8 × Value)), k ≤ rs.length ∧ i = .int .i64 k ∧ ld = .bool laid ∧ wr.ownsRow (w.heap.size + 1) 53 2 ov us.length (rowCells us) ∧ (∀ x ∈ us, RB W0 x.2.2 x.2.1) ∧
      us.map (fun x => (x.1, x.2.1)) ++ layF (key, val) (rs.drop k) laid = layF (key, val) rs false ∧ us.length ≤ 2 * k ∧ Below (w.heap.size + 1) W1 wr) (fun _ _ i _ => rs.length - (intOf i).toNat)
  case atStart => exact ⟨0, false, [], Nat.zero_le _, rfl, rfl, World.ownsRow_nil _ _ _ _, fun _ h => (by cases h), rfl, by simp, Below.refl _ _⟩
  case round =>
    obtain ⟨k, laid, us, hk, rfl, rfl, hown, hfs, hmp, huk, hbel⟩ := hrel
    have hul : us.length ≤ rs.length + 1 := by
      have h := congrArg List.length hmp
      have h2 := layF_len (key, val) rs false
      rw [List.length_append, List.length_map] at h
      omega
    obtain ⟨Ao, co, rfl, _⟩ := own_shape hown
    have hszr := hbel.size
    by_cases hlt : k < rs.length
    · obtain ⟨g, off, ux, rfl, hgl0, hk0, hk1, hfb⟩ := rv_at HO1.out hlt
      rw [hsz1] at hgl0
      have hgl := hgl0
      rw [layF_go hlt] at hmp
      obtain ⟨A2, c2, hux⟩ := rb_shape hfb
      obtain ⟨kk, hkk⟩ : ∃ x, x = rs[k].1 := ⟨_, rfl⟩
      obtain ⟨vv, hvv⟩ : ∃ x, x = rs[k].2 := ⟨_, rfl⟩
      have hrk : rs[k] = (kk, vv) := by rw [hkk, hvv]
      rw [← hkk] at hk0
      rw [← hvv] at hux hfb
      rw [hrk] at hmp
      simp only [] at hmp
      obtain ⟨nx, hnx⟩ : ∃ nx, nx = vv.length := ⟨_, rfl⟩
      rw [← hnx] at hux
      subst hux
      have HO := Lib.hid hown
      have HFS := Lib.hid hfs
      have HFX := Lib.hid hfb
      have HB := Lib.hid hbel
      have hx := (hbel.cell (p := ⟨g, off + k * 2, none⟩) hgl).trans hk0
      have hy := (hbel.cell (p := ⟨g, off + k * 2 + 1, none⟩) hgl).trans hk1
      have hr := (hbel.cell (p := ⟨w.heap.size, 0, none⟩) (Nat.lt_succ_self _)).trans hb0
      have hs := (hbel.cell (p := ⟨w.heap.size, 1, none⟩) (Nat.lt_succ_self _)).trans hb1
      have hx' := fun j => (show (wr.drewN j).cell? ⟨g, off + k * 2, none⟩ = _ from hx)
      have hr' := fun j => (show (wr.drewN j).cell? ⟨w.heap.size, 0, none⟩ = _ from hr)
      have hy' := fun j => (show (wr.drewN j).cell? ⟨g, off + k * 2 + 1, none⟩ = _ from hy)
      have hs' := fun j => (show (wr.drewN j).cell? ⟨w.heap.size, 1, none⟩ = _ from hs)
      have HBD := Lib.hid (fun j => (⟨HB.out.os, HB.out.tape, HB.out.output, HB.out.size, HB.out.block⟩ : Below (w.heap.size + 1) W1 (wr.drewN j)))
      have HOD := Lib.hid (fun j => (show (wr.drewN j).ownsRow (w.heap.size + 1) 53 2 _ us.length (rowCells us) from HO.out))
      have q1 : (0 : Int) ≤ (k : Int) := by omega
      have q2 : (k : Int) < rs.length := by omega
      clear hown hfs hfb hbel hkk hvv hrk hnx
      cases e1 : (kk.toList == key.toList) with
      | true =>
        rw [e1, if_pos rfl] at hmp
        have E := Lib.hid hmp
        clear hmp
        go_wp2
        go_quiet (fail)
        clear hx' hr' hy' hs'
        go_wp2
        go_roundw
        case rel => exact ⟨k + 1, laid, us, by omega, by go_num, rfl, HO.out, HFS.out, E.out, by omega, HBD.out _⟩
        case measure => simp [intOf]; omega
      | false =>
        rw [e1, if_neg (by decide)] at hmp
        cases laid with
        | true =>
          rw [if_neg (by simp)] at hmp
          have E := Lib.hid hmp
          clear hmp
          go_wp2
          go_quiet (fail)
          go_wp2
          go_quiet (fail)
          have hb5 := fun j => (HBD.out j).alloc (by show _ ≤ wr.heap.size; omega) (Obj.cells #[.string kk, .slice A2 nx c2] 53)
          have ho5 := fun j => own_below (HOD.out j) ((Below.refl _ _).alloc (Nat.le_refl _) (Obj.cells #[.string kk, .slice A2 nx c2] 53))
          go_wp2_with (at_builtin; refine wpList_own rfl (.tmp 38) (.tmp 43) 34 34 rfl (w.heap.size + 1) 53 (.agg #[.string ⟨#[]⟩, .slice none 0 0]) 2 40 Try.underlying34 info53 rfl rfl (ho5 _) rfl (src_two _ (by simp) Try.underlying34 53 _ _ rfl rfl) (hb5 _) (Nat.le_refl _) ?_ ?_ ?_ ?_)
          · unfold maxLen; omega
          · omega
          · have := (hb5 0).size; have h9 : w.heap.size + 1 ≤ wr.heap.size := (by omega); simp; omega
          intro v5 w5 hn5 hbn5 hgn5
          obtain ⟨g5, c5, rfl⟩ := ownsRow_succ hn5
          have HO5 := Lib.hid hn5
          have HB5 := Lib.hid hbn5
          clear hb5 ho5 hn5 hbn5 hgn5
          go_wp2
          go_roundw
          case rel =>
            refine ⟨k + 1, true, us ++ [(kk, vv, .slice A2 nx c2)], by omega, by go_num, rfl, ?_, ?_, ?_, by simp; omega, HB5.out⟩
            · rw [List.length_append, rowCells_append]
              exact HO5.out
            · intro y hy
              rcases List.mem_append.1 hy with hy | hy
              · exact HFS.out y hy
              · simp only [List.mem_singleton] at hy
                subst hy
                exact HFX.out
            · rw [List.map_append, List.append_assoc]
              exact E.out
          case measure => simp [intOf]; omega
        | false =>
          rcases sle_cases kk key with ⟨h0, h1⟩ | ⟨h0, h1, h2⟩ | ⟨h0, h1, h2⟩
          · rw [if_neg (by rw [h0]; simp)] at hmp
            clear h0
            have E := Lib.hid hmp
            clear hmp
            go_wp2
            go_quiet (fail)
            go_wp2
            go_quiet (fail)
            have hb5 := fun j => (HBD.out j).alloc (by show _ ≤ wr.heap.size; omega) (Obj.cells #[.string kk, .slice A2 nx c2] 53)
            have ho5 := fun j => own_below (HOD.out j) ((Below.refl _ _).alloc (Nat.le_refl _) (Obj.cells #[.string kk, .slice A2 nx c2] 53))
            go_wp2_with (at_builtin; refine wpList_own rfl (.tmp 38) (.tmp 43) 34 34 rfl (w.heap.size + 1) 53 (.agg #[.string ⟨#[]⟩, .slice none 0 0]) 2 40 Try.underlying34 info53 rfl rfl (ho5 _) rfl (src_two _ (by simp) Try.underlying34 53 _ _ rfl rfl) (hb5 _) (Nat.le_refl _) ?_ ?_ ?_ ?_)
            · unfold maxLen; omega
            · omega
            · have := (hb5 0).size; have h9 : w.heap.size + 1 ≤ wr.heap.size := (by omega); simp; omega
            intro v5 w5 hn5 hbn5 hgn5
            obtain ⟨g5, c5, rfl⟩ := ownsRow_succ hn5
            have HO5 := Lib.hid hn5
            have HB5 := Lib.hid hbn5
            clear hb5 ho5 hn5 hbn5 hgn5
            go_wp2
            go_roundw
            case rel =>
              refine ⟨k + 1, false, us ++ [(kk, vv, .slice A2 nx c2)], by omega, by go_num, rfl, ?_, ?_, ?_, by simp; omega, HB5.out⟩
              · rw [List.length_append, rowCells_append]
                exact HO5.out
              · intro y hy
                rcases List.mem_append.1 hy with hy | hy
                · exact HFS.out y hy
                · simp only [List.mem_singleton] at hy
                  subst hy
                  exact HFX.out
              · rw [List.map_append, List.append_assoc]
                exact E.out
            case measure => simp [intOf]; omega
          · rw [e1] at h2
            cases h2
          · rw [if_pos ⟨rfl, h0⟩] at hmp
            clear h0
            have E := Lib.hid hmp
            clear hmp
            go_wp2
            go_quiet (fail)
            go_wp2
            go_quiet (fail)
            have hb4 := fun j => (HBD.out j).alloc (by show _ ≤ wr.heap.size; omega) (Obj.cells #[.string key, .slice A1 nu cu] 53)
            have ho4 := fun j => own_below (HOD.out j) ((Below.refl _ _).alloc (Nat.le_refl _) (Obj.cells #[.string key, .slice A1 nu cu] 53))
            go_wp2_with (at_builtin; refine wpList_own rfl (.tmp 34) (.tmp 36) 34 34 rfl (w.heap.size + 1) 53 (.agg #[.string ⟨#[]⟩, .slice none 0 0]) 2 40 Try.underlying34 info53 rfl rfl (ho4 _) rfl (src_two _ (by simp) Try.underlying34 53 _ _ rfl rfl) (hb4 _) (Nat.le_refl _) ?_ ?_ ?_ ?_)
            · unfold maxLen; omega
            · omega
            · have := (hb4 0).size; have h9 : w.heap.size + 1 ≤ wr.heap.size := (by omega); simp; omega
            intro v4 w4 hn4 hbn4 hgn4
            obtain ⟨g4, c4, rfl⟩ := ownsRow_succ hn4
            have HO4 := Lib.hid hn4
            have HB4 := Lib.hid hbn4
            clear hb4 ho4 hn4 hbn4 hgn4
            have hx4 := (HB4.out.cell (p := ⟨g, off + k * 2, none⟩) hgl).trans hk0
            have hy4 := (HB4.out.cell (p := ⟨g, off + k * 2 + 1, none⟩) hgl).trans hk1
            have hr4 := (HB4.out.cell (p := ⟨w.heap.size, 0, none⟩) (Nat.lt_succ_self _)).trans hb0
            have hs4 := (HB4.out.cell (p := ⟨w.heap.size, 1, none⟩) (Nat.lt_succ_self _)).trans hb1
            clear hx hy hr hs hx' hr' hy' hs'
            have hb5 := HB4.out.alloc (by have := HB4.out.size; omega) (Obj.cells #[.string kk, .slice A2 nx c2] 53)
            have ho5 := own_below HO4.out ((Below.refl _ _).alloc (Nat.le_refl _) (Obj.cells #[.string kk, .slice A2 nx c2] 53))
            go_wp2_with (at_builtin; refine wpList_own rfl (.tmp 38) (.tmp 43) 34 34 rfl (w.heap.size + 1) 53 (.agg #[.string ⟨#[]⟩, .slice none 0 0]) 2 40 Try.underlying34 info53 rfl rfl ho5 rfl (src_two _ (by simp) Try.underlying34 53 _ _ rfl rfl) hb5 (Nat.le_refl _) ?_ ?_ ?_ ?_)
            · unfold maxLen; omega
            · omega
            · have := hb5.size; have h9 : w.heap.size + 1 ≤ W1.heap.size := (by omega); simp at this ⊢; omega
            intro v5 w5 hn5 hbn5 hgn5
            obtain ⟨g5, c5, rfl⟩ := ownsRow_succ hn5
            have HO5 := Lib.hid hn5
            have HB5 := Lib.hid hbn5
            clear hb5 ho5 hn5 hbn5 hgn5
            go_wp2
            go_roundw
            case rel =>
              refine ⟨k + 1, true, us ++ [(key, val, .slice A1 nu cu), (kk, vv, .slice A2 nx c2)], by omega, by go_num, rfl, ?_, ?_, ?_, by simp; omega, HB5.out⟩
              · rw [List.length_append, rowCells_append]
                have h7 := HO5.out
                simp only [rowCells, List.flatMap_cons, List.flatMap_nil, List.cons_append, List.nil_append] at h7 ⊢
                exact h7
              · intro y hy
                rcases List.mem_append.1 hy with hy | hy
                · exact HFS.out y hy
                · simp only [List.mem_cons, List.not_mem_nil, or_false] at hy
                  rcases hy with rfl | rfl
                  · exact HFU.out
                  · exact HFX.out
              · rw [List.map_append, List.append_assoc]
                exact E.out
            case measure => simp [intOf]; omega
    · obtain rfl : k = rs.length := by omega
      rw [List.drop_length] at hmp
      have HO := Lib.hid hown
      have HFS := Lib.hid hfs
      have HB := Lib.hid hbel
      have hr := (hbel.cell (p := ⟨w.heap.size, 0, none⟩) (Nat.lt_succ_self _)).trans hb0
      have hs := (hbel.cell (p := ⟨w.heap.size, 1, none⟩) (Nat.lt_succ_self _)).trans hb1
      have HMP := Lib.hid hmp
      clear hown hfs hbel hmp
      cases laid with
      | true =>
        have HT := Lib.hid (show us.map (fun x => (x.1, x.2.1)) = layF (key, val) rs false by rw [← HMP.out]; simp [layF])
        go_wp2
        go_ret
        exact ⟨_, rfl, by rw [← HT.out]; exact RV.own HO.out HFS.out, HB1.out.trans (HB.out.mono (Nat.le_succ _))⟩
      | false =>
        have HT := Lib.hid (show us.map (fun x => (x.1, x.2.1)) ++ [(key, val)] = layF (key, val) rs false by rw [← HMP.out]; simp [layF])
        have hb5 := HB.out.alloc (by have := HB.out.size; omega) (Obj.cells #[.string key, .slice A1 nu cu] 53)
        have ho5 := own_below HO.out ((Below.refl _ _).alloc (Nat.le_refl _) (Obj.cells #[.string key, .slice A1 nu cu] 53))
        go_wp2_with (at_builtin; refine wpList_own rfl (.tmp 47) (.tmp 49) 34 34 rfl (w.heap.size + 1) 53 (.agg #[.string ⟨#[]⟩, .slice none 0 0]) 2 40 Try.underlying34 info53 rfl rfl ho5 rfl (src_two _ (by simp) Try.underlying34 53 _ _ rfl rfl) hb5 (Nat.le_refl _) ?_ ?_ ?_ ?_)
        · unfold maxLen; omega
        · omega
        · have := hb5.size; have h9 : w.heap.size + 1 ≤ W1.heap.size := (by omega); simp at this ⊢; omega
        intro v5 w5 hn5 hbn5 hgn5
        obtain ⟨g5, c5, rfl⟩ := ownsRow_succ hn5
        have HO5 := Lib.hid hn5
        have HB5 := Lib.hid hbn5
        clear hb5 ho5 hn5 hbn5 hgn5
        go_wp2
        go_ret
        refine ⟨_, rfl, ?_, HB1.out.trans (HB5.out.mono (Nat.le_succ _))⟩
        have ht : ((us ++ [(key, val, .slice A1 nu cu)] : List (ByteArray × List UInt8 × Value))).map (fun x => (x.1, x.2.1)) = layF (key, val) rs false := by rw [List.map_append]; exact HT.out
        rw [← ht]
        refine RV.own (base := w.heap.size + 1) (eR := 53) ?_ (fun x hx => ?_)
        · rw [List.length_append, rowCells_append]
          exact HO5.out
        · rcases List.mem_append.1 hx with hx | hx
          · exact HFS.out x hx
          · simp only [List.mem_singleton] at hx
            subst hx
            exact HFU.out
end Go.Proofs.Ytomkbgghljcbfaa
