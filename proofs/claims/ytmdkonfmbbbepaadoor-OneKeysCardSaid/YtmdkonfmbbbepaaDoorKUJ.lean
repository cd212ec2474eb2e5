/-
  The contracts of bytes.Equal, slices.Grow of nil, slices.Concat of two, and crc.Seal.; The contracts of slices.Concat, and of crc.Seal: rows of bytes, one behind the other; bytes with their check behind.
-/
import Derived.Lib.AppendZerosOnto
import Derived.Test.YtmdkonfmbbbepaaDoorKUI
set_option linter.unusedVariables false
namespace Go.Proofs.YtmdkonfmbbbepaaDoor
open Go.RowKit Go.Rst Go.Crc
set_option maxRecDepth 100000 in
set_option maxHeartbeats 400000 in
theorem equal_any (v u : Value) (l m : List UInt8) (w : World) (hv : RB w v l) (hu : RB w u m) :
    Calls Tryd.prog 46 #[v, u] w fun e w' => e = .returned (.bool (l == m)) ∧ w = w' := by
  have h1 : ∀ w', w' = w → (convert 22 9 v).run Tryd.prog w' = .ok (.string ⟨l.toArray⟩) w' := fun w' h => by rw [h]; exact hv.str Tryd.underlying22 Tryd.underlying5 Tryd.underlying9
  have h2 := hu.str (P := Tryd.prog) (src := 22) (dst := 9) Tryd.underlying22 Tryd.underlying5 Tryd.underlying9
  have h1' := h1 w rfl
  obtain ⟨A, c, rfl, _⟩ := hv
  obtain ⟨A', c', rfl, _⟩ := hu
  clear h1
  go_enter Tryd.func46, Tryd.ntmps46
  go_wp2
  go_ret
  exact ⟨rfl, rfl⟩
set_option maxRecDepth 100000 in
set_option maxHeartbeats 400000 in
theorem grow_zero (w : World) : Calls Tryd.prog 65 #[.slice none 0 0, .int .i64 0] w fun e w' => e = .returned (.slice none 0 0) ∧ w = w' := by
  go_enter Tryd.func65, Tryd.ntmps65
  go_wp2
  go_ret
  exact ⟨rfl, rfl⟩
def Room (w : World) (e : Ending) (w' : World) : Prop := ∃ v, e = .returned v ∧ w'.ownsRow w.heap.size 5 1 v 0 [] ∧ Below w.heap.size w w'
theorem room_new {w : World} {c : Nat} {cs : Array Value} (hm : c ≤ maxLen) (hs : cs.size = c) :
    Room w (.returned (.slice (some ⟨w.heap.size, 0, none⟩) 0 c)) (w.drew.alloc (.cells cs 5)) :=
  ⟨_, rfl, ⟨by simp, .inr ⟨w.heap.size, c, cs, rfl, Nat.le_refl _, heap_alloc_new w.drew _, Nat.zero_le _, hm, by simpa using hs, by simp⟩⟩, (Below.refl _ _).drew.alloc (Nat.le_refl _) _⟩
set_option maxRecDepth 100000 in
set_option maxHeartbeats 400000 in
theorem grow_pos (n : Nat) (h0 : 0 < n) (hn : n ≤ 2000000) (w : World) : Calls Tryd.prog 65 #[.slice none 0 0, .int .i64 n] w (Room w) := by
  obtain ⟨i, hi, hz, hsz, hb⟩ := info_parts info5
  have hcap : n ≤ grownCap w n 0 5 := grownCap_ge w n 0 5
  have hcm : grownCap w n 0 5 ≤ maxLen := grownCap_le_maxLen w n 0 5 (by unfold maxLen; omega)
  have hrun : ∀ ty, (Builtin.append_ #[22, 3] ty #[.slice none 0 0, .int .i64 n]).run Tryd.prog w =
      .ok (.slice (some ⟨w.heap.size, 0, none⟩) n (grownCap w n 0 5)) (w.drew.alloc (.cells ((#[] : Array Value) ++ Builtin.zeroCells (Value.cells (.int .u8 0)) n ++ Builtin.zeroCells (Value.cells (.int .u8 0)) (grownCap w n 0 5 - n)) 5)) := fun ty => by
    have h := Lib.run_append_grow_zeros (P := Tryd.prog) w 22 3 ty 5 i (.int .u8 0) .i64 .i64 Tryd.underlying22 Tryd.underlying3 hi hz none 0 0 [] (by rw [hsz]; exact run_firstCells_none w.drew 1 0 0 0) n h0 (by rw [hsz]; decide) (by omega) (by omega) (by rw [hb]; omega)
      (growslice_fits (by omega) (by rw [hb]; omega))
    simpa using h
  have hsize : ((#[] : Array Value) ++ Builtin.zeroCells (Value.cells (.int .u8 0)) n ++ Builtin.zeroCells (Value.cells (.int .u8 0)) (grownCap w n 0 5 - n)).size = grownCap w n 0 5 := by
    simp only [Array.size_append, size_zeroCells]
    simp [Value.cells]
    omega
  generalize ((#[] : Array Value) ++ Builtin.zeroCells (Value.cells (.int .u8 0)) n ++ Builtin.zeroCells (Value.cells (.int .u8 0)) (grownCap w n 0 5 - n)) = cs at *
  generalize grownCap w n 0 5 = c at *
  have hend := room_new (w := w) hcm hsize
  have HE := Lib.hid hend
  have hc63 : c ≤ 9223372036854775807 := by unfold maxLen at hcm; omega
  have HR := Lib.hid hrun
  clear hend hcm hsize hrun hi hz hsz hb
  go_enter Tryd.func65, Tryd.ntmps65
  go_wp2_with (at_builtin; refine Lib.wpList_append_run _ rfl _ _ _ _ rfl _ _ rfl rfl _ _ (HR.out _) ?_)
  go_ret
  exact HE.out
theorem grow_any (n : Nat) (hn : n ≤ 2000000) (w : World) : Calls Tryd.prog 65 #[.slice none 0 0, .int .i64 n] w (Room w) := by
  rcases Nat.eq_zero_or_pos n with h | h
  · subst h
    refine (grow_zero w).mono ?_
    rintro e w' ⟨rfl, rfl⟩
    exact ⟨_, rfl, World.ownsRow_nil _ _ _ _, Below.refl _ _⟩
  · exact grow_pos n h hn w
end Go.Proofs.YtmdkonfmbbbepaaDoor
namespace Go.Proofs.YtmdkonfmbbbepaaDoor
open Go.RowKit Go.Rst Go.Crc
def PS (w : World) (v : Value) (ps : List (Value × List UInt8)) : Prop :=
  ∃ g off c, v = .slice (some ⟨g, off, none⟩) ps.length c ∧ ps.length ≤ c ∧ c ≤ maxLen ∧ g < w.heap.size ∧ ∀ j (h : j < ps.length), w.cell? ⟨g, off + j, none⟩ = some ps[j].1 ∧ RB w ps[j].1 ps[j].2
theorem PS.two {w : World} {v0 v1 : Value} {l0 l1 : List UInt8} {e : TypeId} (h0 : RB w v0 l0) (h1 : RB w v1 l1) :
    PS (w.alloc (.cells #[v0, v1] e)) (.slice (some ⟨w.heap.size, 0, none⟩) 2 2) [(v0, l0), (v1, l1)] := by
  refine ⟨w.heap.size, 0, 2, rfl, by simp, by decide, by simp, fun j hj => ?_⟩
  have hc := cell_of_row (w.alloc (.cells #[v0, v1] e)) w.heap.size (0 + j) #[v0, v1] e (0, 0) (heap_alloc_new w _)
  match j, hj with
  | 0, _ => exact ⟨hc, h0.alloc _⟩
  | 1, _ => exact ⟨hc, h1.alloc _⟩
def cat (ps : List (Value × List UInt8)) : List UInt8 := ps.flatMap fun p => p.2
theorem cat_take {ps : List (Value × List UInt8)} {k : Nat} (h : k < ps.length) : cat (ps.take (k + 1)) = cat (ps.take k) ++ ps[k].2 := by
  unfold cat
  rw [List.take_succ_eq_append_getElem h, List.flatMap_append]
  simp
theorem cat_le (ps : List (Value × List UInt8)) (k : Nat) : (cat (ps.take k)).length ≤ (cat ps).length := by
  conv => rhs; rw [← List.take_append_drop k ps]
  unfold cat
  rw [List.flatMap_append, List.length_append]
  omega
set_option maxRecDepth 100000 in
set_option maxHeartbeats 1000000 in
theorem concat_any (v : Value) (ps : List (Value × List UInt8)) (w : World) (hv : PS w v ps) (hl : (cat ps).length ≤ 1000000) :
    Calls Tryd.prog 51 #[v] w (NewB 5 w (cat ps)) := by
  obtain ⟨g, off, c, rfl, hlc, hcm, hg, hcells⟩ := hv
  simp only [maxLen] at hcm
  have HC := Lib.hid hcells
  clear hcells
  go_enter Tryd.func51, Tryd.ntmps51
  go_wp2
  go_loop [3, 11] (fun n i => ∃ k : Nat, k ≤ ps.length ∧ i = .int .i64 k ∧ n = .int .i64 ((cat (ps.take k)).length : Nat)) (fun _ i => ps.length - (intOf i).toNat)
  case atStart => exact ⟨0, Nat.zero_le _, rfl, rfl⟩
  case round =>
    obtain ⟨k, hk, rfl, rfl⟩ := hrel
    by_cases hlt : k < ps.length
    · obtain ⟨hc, hr⟩ := HC.out k hlt
      have ht := congrArg List.length (cat_take hlt)
      rw [List.length_append] at ht
      have hle := cat_le ps (k + 1)
      rw [ht] at hle
      obtain ⟨p, hp⟩ : ∃ p, p = ps[k] := ⟨_, rfl⟩
      rw [← hp] at hc hr ht hle
      obtain ⟨pv, pl⟩ := p
      obtain ⟨A, c', he, h1, h2, _⟩ := hr
      simp only at he
      subst he
      generalize (cat (ps.take k)).length = n at *
      have HT := Lib.hid ht
      simp only at hc hle
      clear hp ht
      go_wp2
      go_round
      case rel => exact ⟨k + 1, by omega, by go_num, by rw [HT.out]; go_num⟩
      case measure => simp [intOf]; omega
    · have e : k = ps.length := by omega
      rw [e, List.take_length]
      have hn : (cat ps).length ≤ 2000000 := by omega
      have HE := Lib.hid e
      clear e
      go_wp2_with fail
      refine (grow_any _ hn _).mono ?_
      rintro e w1 ⟨v1, rfl, hown, hbel⟩
      have HO := Lib.hid hown
      have HB := Lib.hid hbel
      clear hown hbel
      go_wp2
      go_loopw [6, 27] (fun b i wr => ∃ k : Nat, k ≤ ps.length ∧ i = .int .i64 k ∧ wr.ownsRow w.heap.size 5 1 b (cat (ps.take k)).length (bvs (cat (ps.take k))) ∧ Below w.heap.size w wr) (fun _ i _ => ps.length - (intOf i).toNat)
      case atStart => exact ⟨0, Nat.zero_le _, rfl, HO.out, HB.out⟩
      case round =>
        clear HO HB
        obtain ⟨k, hk, rfl, hown, hbel⟩ := hrel
        by_cases hlt : k < ps.length
        · obtain ⟨hc, hr⟩ := HC.out k hlt
          have hc' := (hbel.cell (p := ⟨g, off + k, none⟩) hg).trans hc
          have ht := cat_take hlt
          have hle := cat_le ps (k + 1)
          rw [ht, List.length_append] at hle
          obtain ⟨p, hp⟩ : ∃ p, p = ps[k] := ⟨_, rfl⟩
          rw [← hp] at hc' hr ht hle
          obtain ⟨pv, pl⟩ := p
          have hr' := hr.below hbel
          simp only at hr'
          have HR := Lib.hid hr'
          obtain ⟨A, c', he, h1, h2, _⟩ := hr
          simp only at he
          subst he
          simp only at hc' hle ht
          generalize cat (ps.take k) = acc at *
          have HT := Lib.hid ht
          have HO := Lib.hid hown
          have HB := Lib.hid hbel
          clear hp ht hown hbel hc hr' HE
          go_wp2_with (at_builtin; refine wpList_own rfl (.tmp 31) (.tmp 32) 22 22 rfl w.heap.size 5 (.int .u8 0) 1 1 Tryd.underlying22 info5 rfl rfl HO.out rfl (HR.out.src Tryd.underlying22) HB.out (Nat.le_refl _) ?_ ?_ ?_ ?_)
          · unfold maxLen; omega
          · omega
          · exact HB.out.size
          · intro v2 w2 hown2 hbel2 _
            have HO2 := Lib.hid hown2
            have HB2 := Lib.hid hbel2
            clear hown2 hbel2
            go_wp2
            go_roundw
            case rel => exact ⟨k + 1, by omega, by go_num, by rw [HT.out]; exact own_cat HO2.out, HB2.out⟩
            case measure => simp [intOf]; omega
        · have e : k = ps.length := by omega
          rw [e, List.take_length] at hown
          have HO := Lib.hid hown
          have HB := Lib.hid hbel
          clear hown hbel e HE
          go_wp2
          go_ret
          exact ⟨_, rfl, HO.out, HB.out⟩
end Go.Proofs.YtmdkonfmbbbepaaDoor
