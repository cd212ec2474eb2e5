/-
  The contract of the document's without: rows but those of a key.
-/
import Derived.Test.YtomkbgghljcbfaaGChg
import Derived.Test.YtomkbgghljcbfaaGSet
import Derived.Deep.QuietTactic
import Derived.BigQuiet
import Derived.RangeFuncBox
namespace Go.Pg
theorem outL_go {k : ByteArray} {rs : List Rw} {j : Nat} (h : j < rs.length) : outL k (rs.take (j + 1)) = if (rs[j].1.toList == k.toList) = true then outL k (rs.take j) else outL k (rs.take j) ++ [rs[j]] := by
  unfold outL
  rw [List.take_succ_eq_append_getElem h, List.filter_append, List.filter_cons, List.filter_nil]
  cases rs[j].1.toList == k.toList <;> simp
end Go.Pg
namespace Go.Proofs.Ytomkbgghljcbfaa
open Go.RowKit Go.Rst Go.Pg Go.Crc

set_option maxRecDepth 100000 in
set_option maxHeartbeats 4000000 in
theorem out_any (W0 : World) (v : Value) (rs : List Rw) (key : ByteArray) (w : World) (ho : RV W0 w v rs) (hlen : rs.length ≤ 3000000000001) :
    Calls Try.prog 37 #[v, .string key] w fun e w' => ∃ v', e = .returned v' ∧ RV W0 w' v' (outL key rs) ∧ Below w.heap.size w w' := by
  have HO1 := Lib.hid ho
  obtain ⟨Al, cl, rfl, _, _⟩ := ho.shape
  clear ho
  go_enter Try.func37, Try.ntmps37
  go_wp2
  go_loopw [5, 6] (fun ov i wr => ∃ (k : Nat) (us : List (ByteArray × List UInt8 × Value)), k ≤ rs.length ∧ i = .int .i64 k ∧ wr.ownsRow w.heap.size 53 2 ov us.length (rowCells us) ∧ (∀ x ∈ us, RB W0 x.2.2 x.2.1) ∧
      us.map (fun x => (x.1, x.2.1)) = outL key (rs.take k) ∧ us.length ≤ k ∧ Below w.heap.size w wr) (fun _ i _ => rs.length - (intOf i).toNat)
  case atStart => exact ⟨0, [], Nat.zero_le _, rfl, World.ownsRow_nil _ _ _ _, fun _ h => (by cases h), rfl, by simp, Below.refl _ _⟩
  case round =>
    obtain ⟨k, us, hk, rfl, hown, hfs, hmp, huk, hbel⟩ := hrel
    obtain ⟨Ao, co, rfl, _⟩ := own_shape hown
    have hszr := hbel.size
    by_cases hlt : k < rs.length
    · obtain ⟨g, off, ux, rfl, hgl, hk0, hk1, hfb⟩ := rv_at HO1.out hlt
      have hgo := outL_go (k := key) hlt
      obtain ⟨A2, c2, hux⟩ := rb_shape hfb
      obtain ⟨kk, hkk⟩ : ∃ x, x = rs[k].1 := ⟨_, rfl⟩
      obtain ⟨vv, hvv⟩ : ∃ x, x = rs[k].2 := ⟨_, rfl⟩
      have hrk : rs[k] = (kk, vv) := by rw [hkk, hvv]
      rw [← hkk] at hk0
      rw [← hvv] at hux hfb
      rw [hrk] at hgo
      simp only [] at hgo
      obtain ⟨nx, hnx⟩ : ∃ nx, nx = vv.length := ⟨_, rfl⟩
      rw [← hnx] at hux
      subst hux
      have HO := Lib.hid hown
      have HFS := Lib.hid hfs
      have HFX := Lib.hid hfb
      have HB := Lib.hid hbel
      have hx := (hbel.cell (p := ⟨g, off + k * 2, none⟩) hgl).trans hk0
      have hy := (hbel.cell (p := ⟨g, off + k * 2 + 1, none⟩) hgl).trans hk1
      have q1 : (0 : Int) ≤ (k : Int) := by omega
      have q2 : (k : Int) < rs.length := by omega
      clear hown hfs hfb hbel hkk hvv hrk hnx hk0 hk1
      cases e1 : (kk.toList == key.toList) with
      | true =>
        rw [e1, if_pos rfl, ← hmp] at hgo
        have E := Lib.hid hgo
        clear hgo hmp
        go_wp2
        go_roundw
        case rel => exact ⟨k + 1, us, by omega, by go_num, HO.out, HFS.out, E.out.symm, by omega, HB.out⟩
        case measure => simp [intOf]; omega
      | false =>
        rw [e1, if_neg (by decide), ← hmp] at hgo
        have E := Lib.hid hgo
        clear hgo hmp
        have hb5 := HB.out.alloc (by omega) (Obj.cells #[.string kk, .slice A2 nx c2] 53)
        have ho5 := own_below HO.out ((Below.refl _ _).alloc (Nat.le_refl _) (Obj.cells #[.string kk, .slice A2 nx c2] 53))
        go_wp2_with (at_builtin; refine wpList_own rfl (.tmp 20) (.tmp 25) 34 34 rfl w.heap.size 53 (.agg #[.string ⟨#[]⟩, .slice none 0 0]) 2 40 Try.underlying34 info53 rfl rfl ho5 rfl (src_two _ (by simp) Try.underlying34 53 _ _ rfl rfl) hb5 (Nat.le_refl _) ?_ ?_ ?_ ?_)
        · unfold maxLen; omega
        · omega
        · simp; omega
        intro v5 w5 hn5 hbn5 hgn5
        obtain ⟨g5, c5, rfl⟩ := ownsRow_succ hn5
        have HO5 := Lib.hid hn5
        have HB5 := Lib.hid hbn5
        clear hb5 ho5 hn5 hbn5 hgn5
        go_wp2
        go_roundw
        case rel =>
          refine ⟨k + 1, us ++ [(kk, vv, .slice A2 nx c2)], by omega, by go_num, ?_, ?_, ?_, by simp; omega, HB5.out⟩
          · rw [List.length_append, rowCells_append]
            exact HO5.out
          · intro y hy
            rcases List.mem_append.1 hy with hy | hy
            · exact HFS.out y hy
            · simp only [List.mem_singleton] at hy
              subst hy
              exact HFX.out
          · rw [List.map_append, E.out]
            rfl
        case measure => simp [intOf]; omega
    · obtain rfl : k = rs.length := by omega
      rw [List.take_length] at hmp
      have HO := Lib.hid hown
      have HFS := Lib.hid hfs
      have HB := Lib.hid hbel
      have HMP := Lib.hid hmp
      clear hown hfs hbel hmp
      go_wp2
      go_ret
      exact ⟨_, rfl, by rw [← HMP.out]; exact RV.own HO.out HFS.out, HB.out⟩
end Go.Proofs.Ytomkbgghljcbfaa
