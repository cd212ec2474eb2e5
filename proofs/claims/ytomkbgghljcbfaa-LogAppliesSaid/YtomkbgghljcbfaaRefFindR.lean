/-
  The contract of the document's find: a row of a key.
-/
import Derived.Test.YtomkbgghljcbfaaGSet
import Derived.Test.YtomkbgghljcbfaaGChg
import Derived.Deep.QuietTactic
import Derived.BigQuiet
namespace Go.Proofs.Ytomkbgghljcbfaa
open Go.RowKit Go.Rst Go.Pg Go.Crc
def GivesFd (w : World) (r : Option Rw) (e : Ending) (w' : World) : Prop :=
  (match r with
    | none => e = .returned (.tuple #[.agg #[.string ⟨#[]⟩, .slice none 0 0], .bool false])
    | some x => ∃ u, e = .returned (.tuple #[.agg #[.string x.1, u], .bool true]) ∧ RB w u x.2) ∧ Below w.heap.size w w'
theorem findR_next {rs : List Rw} {key : ByteArray} {k : Nat} (h : k < rs.length) (h0 : findR (rs.take k) key = none) :
    findR (rs.take (k + 1)) key = if (rs[k].1.toList == key.toList) = true then some rs[k] else none := by
  unfold findR at h0 ⊢
  rw [List.take_succ_eq_append_getElem h, List.find?_append, h0, List.find?_cons]
  cases rs[k].1.toList == key.toList <;> simp
theorem findR_more {rs : List Rw} {key : ByteArray} {k : Nat} {x : Rw} (h : findR (rs.take k) key = some x) : findR rs key = some x := by
  unfold findR at h ⊢
  rw [← List.take_append_drop k rs, List.find?_append, h]
  rfl

set_option maxRecDepth 100000 in
set_option maxHeartbeats 2000000 in
theorem refFind_any (v : Value) (rs : List Rw) (key : ByteArray) (w : World) (hv : RR w v rs) :
    Calls Try.prog 42 #[v, .string key] w (GivesFd w (findR rs key)) := by
  have HV := Lib.hid hv
  obtain ⟨Al, cl, rfl, _, _⟩ := rr_shape hv
  clear hv
  have hbel : Below w.heap.size w (w.alloc (.cells #[.string ⟨#[]⟩, .slice none 0 0] 53)) := (Below.refl _ _).alloc (Nat.le_refl _) _
  have HB := Lib.hid hbel
  go_enter Try.func42, Try.ntmps42
  go_wp2
  go_loopw [6] (fun i wr => ∃ k : Nat, k ≤ rs.length ∧ i = .int .i64 k ∧ findR (rs.take k) key = none ∧ wr = w.alloc (.cells #[.string ⟨#[]⟩, .slice none 0 0] 53)) (fun i _ => rs.length - (intOf i).toNat)
  case atStart => exact ⟨0, Nat.zero_le _, rfl, rfl, rfl⟩
  case round =>
    obtain ⟨k, hk, rfl, hno, hwr⟩ := hrel
    subst hwr
    by_cases hlt : k < rs.length
    · obtain ⟨g, off, ux, rfl, hk0, hk1, hfb⟩ := rr_at HV.out hlt
      have hgl : g < w.heap.size := block_lt_of_cell hk0
      have hgo := findR_next hlt hno
      obtain ⟨kk, hkk⟩ : ∃ x, x = rs[k].1 := ⟨_, rfl⟩
      obtain ⟨vv, hvv⟩ : ∃ x, x = rs[k].2 := ⟨_, rfl⟩
      have hrk : rs[k] = (kk, vv) := by rw [hkk, hvv]
      rw [← hkk] at hk0
      rw [← hvv] at hfb
      rw [hrk] at hgo
      simp only [] at hgo
      obtain ⟨A2, c2, hux⟩ := rb_shape hfb
      obtain ⟨nx, hnx⟩ : ∃ nx, nx = vv.length := ⟨_, rfl⟩
      rw [← hnx] at hux
      subst hux
      have HFX := Lib.hid hfb
      have hx := (hbel.cell (p := ⟨g, off + k * 2, none⟩) hgl).trans hk0
      have hy := (hbel.cell (p := ⟨g, off + k * 2 + 1, none⟩) hgl).trans hk1
      have q1 : (0 : Int) ≤ (k : Int) := by omega
      have q2 : (k : Int) < rs.length := by omega
      clear hfb hkk hvv hrk hnx hk0 hk1 hno
      cases e1 : (kk.toList == key.toList) with
      | true =>
        rw [e1, if_pos rfl] at hgo
        have E := Lib.hid (findR_more hgo)
        clear hgo
        go_wp2
        refine bodyPost_ret (v := .tuple #[.agg #[.string kk, .slice A2 nx c2], .bool true]) (by simp [results, Try.results42, go_sem]) rfl ⟨by rw [E.out]; exact ⟨_, rfl, HFX.out⟩, ?_⟩
        exact (Below.refl _ _).alloc (Nat.le_refl _) _
      | false =>
        rw [e1, if_neg (by decide)] at hgo
        have E := Lib.hid hgo
        clear hgo
        go_wp2
        go_roundw
        case rel => exact ⟨k + 1, by omega, by go_num, E.out, by first | rfl | trivial⟩
        case measure => simp [intOf]; omega
    · have e : k = rs.length := by omega
      rw [e, List.take_length] at hno
      have E := Lib.hid hno
      clear hno e
      go_wp2
      refine bodyPost_ret (v := .tuple #[.agg #[.string ⟨#[]⟩, .slice none 0 0], .bool false]) (by simp [results, Try.results42, go_sem]) rfl ⟨by rw [E.out], ?_⟩
      exact (Below.refl _ _).alloc (Nat.le_refl _) _
end Go.Proofs.Ytomkbgghljcbfaa
