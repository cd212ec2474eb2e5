/-
  The contracts of slices.Concat, and of crc.Seal: rows of bytes, one behind the other; bytes with their check behind.
-/
import Derived.Test.YtomkbgghljcbfaaCEqual
namespace Go.Proofs.Ytomkbgghljcbfaa
open Go.RowKit Go.Rst Go.Crc

/-- A slice of slices as it reads. -/
def PS (w : World) (v : Value) (ps : List (Value × List UInt8)) : Prop :=
  ∃ g off c, v = .slice (some ⟨g, off, none⟩) ps.length c ∧ ps.length ≤ c ∧ c ≤ maxLen ∧ g < w.heap.size ∧ ∀ j (h : j < ps.length), w.cell? ⟨g, off + j, none⟩ = some ps[j].1 ∧ RB w ps[j].1 ps[j].2
theorem PS.two {w : World} {v0 v1 : Value} {l0 l1 : List UInt8} {e : TypeId} (h0 : RB w v0 l0) (h1 : RB w v1 l1) :
    PS (w.alloc (.cells #[v0, v1] e)) (.slice (some ⟨w.heap.size, 0, none⟩) 2 2) [(v0, l0), (v1, l1)] := by
  refine ⟨w.heap.size, 0, 2, rfl, by simp, by decide, by simp, fun j hj => ?_⟩
  have hc := cell_of_row (w.alloc (.cells #[v0, v1] e)) w.heap.size (0 + j) #[v0, v1] e (0, 0) (heap_alloc_new w _)
  match j, hj with
  | 0, _ => exact ⟨hc, h0.alloc _⟩
  | 1, _ => exact ⟨hc, h1.alloc _⟩
def cat (ps : List (Value × List UInt8)) : List UInt8 := ps.flatMap fun p => p.2
theorem cat_take {ps : List (Value × List UInt8)} {k : Nat} (h : k < ps.length) : cat (ps.take (k + 1)) = cat (ps.take k) ++ ps[k].2 := by
  unfold cat
  rw [List.take_succ_eq_append_getElem h, List.flatMap_append]
  simp
theorem cat_le (ps : List (Value × List UInt8)) (k : Nat) : (cat (ps.take k)).length ≤ (cat ps).length := by
  conv => rhs; rw [← List.take_append_drop k ps]
  unfold cat
  rw [List.flatMap_append, List.length_append]
  omega

set_option maxRecDepth 100000 in
set_option maxHeartbeats 1000000 in
theorem concat_any (v : Value) (ps : List (Value × List UInt8)) (w : World) (hv : PS w v ps) (hl : (cat ps).length ≤ 1000000) :
    Calls Try.prog 68 #[v] w (NewB 5 w (cat ps)) := by
  obtain ⟨g, off, c, rfl, hlc, hcm, hg, hcells⟩ := hv
  simp only [maxLen] at hcm
  have HC := Lib.hid hcells
  clear hcells
  go_enter Try.func68, Try.ntmps68
  go_wp2
  go_loop [3, 11] (fun n i => ∃ k : Nat, k ≤ ps.length ∧ i = .int .i64 k ∧ n = .int .i64 ((cat (ps.take k)).length : Nat)) (fun _ i => ps.length - (intOf i).toNat)
  case atStart => exact ⟨0, Nat.zero_le _, rfl, rfl⟩
  case round =>
    obtain ⟨k, hk, rfl, rfl⟩ := hrel
    by_cases hlt : k < ps.length
    · obtain ⟨hc, hr⟩ := HC.out k hlt
      have ht := congrArg List.length (cat_take hlt)
      rw [List.length_append] at ht
      have hle := cat_le ps (k + 1)
      rw [ht] at hle
      obtain ⟨p, hp⟩ : ∃ p, p = ps[k] := ⟨_, rfl⟩
      rw [← hp] at hc hr ht hle
      obtain ⟨pv, pl⟩ := p
      obtain ⟨A, c', he, h1, h2, _⟩ := hr
      simp only at he
      subst he
      generalize (cat (ps.take k)).length = n at *
      have HT := Lib.hid ht
      simp only at hc hle
      clear hp ht
      go_wp2
      go_round
      case rel => exact ⟨k + 1, by omega, by go_num, by rw [HT.out]; go_num⟩
      case measure => simp [intOf]; omega
    · have e : k = ps.length := by omega
      rw [e, List.take_length]
      have hn : (cat ps).length ≤ 2000000 := by omega
      have HE := Lib.hid e
      clear e
      go_wp2_with fail
      refine (grow_any _ hn _).mono ?_
      rintro e w1 ⟨v1, rfl, hown, hbel⟩
      have HO := Lib.hid hown
      have HB := Lib.hid hbel
      clear hown hbel
      go_wp2
      go_loopw [6, 27] (fun b i wr => ∃ k : Nat, k ≤ ps.length ∧ i = .int .i64 k ∧ wr.ownsRow w.heap.size 5 1 b (cat (ps.take k)).length (bvs (cat (ps.take k))) ∧ Below w.heap.size w wr) (fun _ i _ => ps.length - (intOf i).toNat)
      case atStart => exact ⟨0, Nat.zero_le _, rfl, HO.out, HB.out⟩
      case round =>
        clear HO HB
        obtain ⟨k, hk, rfl, hown, hbel⟩ := hrel
        by_cases hlt : k < ps.length
        · obtain ⟨hc, hr⟩ := HC.out k hlt
          have hc' := (hbel.cell (p := ⟨g, off + k, none⟩) hg).trans hc
          have ht := cat_take hlt
          have hle := cat_le ps (k + 1)
          rw [ht, List.length_append] at hle
          obtain ⟨p, hp⟩ : ∃ p, p = ps[k] := ⟨_, rfl⟩
          rw [← hp] at hc' hr ht hle
          obtain ⟨pv, pl⟩ := p
          have hr' := hr.below hbel
          simp only at hr'
          have HR := Lib.hid hr'
          obtain ⟨A, c', he, h1, h2, _⟩ := hr
          simp only at he
          subst he
          simp only at hc' hle ht
          generalize cat (ps.take k) = acc at *
          have HT := Lib.hid ht
          have HO := Lib.hid hown
          have HB := Lib.hid hbel
          clear hp ht hown hbel hc hr' HE
          go_wp2_with (at_builtin; refine wpList_own rfl (.tmp 31) (.tmp 32) 23 23 rfl w.heap.size 5 (.int .u8 0) 1 1 Try.underlying23 info5 rfl rfl HO.out rfl (HR.out.src Try.underlying23) HB.out (Nat.le_refl _) ?_ ?_ ?_ ?_)
          · unfold maxLen; omega
          · omega
          · exact HB.out.size
          · intro v2 w2 hown2 hbel2 _
            have HO2 := Lib.hid hown2
            have HB2 := Lib.hid hbel2
            clear hown2 hbel2
            go_wp2
            go_roundw
            case rel => exact ⟨k + 1, by omega, by go_num, by rw [HT.out]; exact own_cat HO2.out, HB2.out⟩
            case measure => simp [intOf]; omega
        · have e : k = ps.length := by omega
          rw [e, List.take_length] at hown
          have HO := Lib.hid hown
          have HB := Lib.hid hbel
          clear hown hbel e HE
          go_wp2
          go_ret
          exact ⟨_, rfl, HO.out, HB.out⟩

set_option maxRecDepth 100000 in
set_option maxHeartbeats 1000000 in
theorem seal_any (v : Value) (l : List UInt8) (w : World) (hv : RB w v l) (hl : l.length ≤ 900000) :
    Calls Try.prog 67 #[v] w (NewB 5 w (sealL l)) := by
  have hs := csum_lt l
  have HV := Lib.hid hv
  obtain ⟨A, c, rfl, _⟩ := hv
  go_enter Try.func67, Try.ntmps67
  go_wp2_with fail
  refine (sum_any _ l _ HV.out).mono ?_
  rintro e w1 ⟨rfl, hbel⟩
  have HB := Lib.hid hbel
  clear hbel
  go_wp2_with fail
  refine (tail_any _ hs _).mono ?_
  rintro e w2 ⟨v2, rfl, hown, hbel⟩
  have hb2 := HB.out.trans (hbel.mono HB.out.size)
  have hps := PS.two (e := 23) (HV.out.below hb2) (RB.own hown)
  have HO := Lib.hid hps
  have HB2 := Lib.hid hb2
  obtain ⟨A2, c2, rfl, _⟩ := own_shape hown
  clear hown hbel hps hb2
  go_wp2_with fail
  refine (concat_any _ _ _ HO.out (by simp [cat, tailL_length]; omega)).mono ?_
  rintro e w3 ⟨v3, rfl, hown, hbel⟩
  have HO3 := Lib.hid hown
  have HB3 := Lib.hid hbel
  clear hown hbel
  go_wp2
  go_ret
  have h3 : Below w.heap.size w w3 := (HB2.out.alloc HB2.out.size _).trans (HB3.out.mono (by have := HB2.out.size; simp; omega))
  have e : cat [(Value.slice A l.length c, l), (Value.slice A2 (tailL (csum l)).length c2, tailL (csum l))] = sealL l := by simp [cat, sealL]
  refine ⟨v3, rfl, ?_, h3⟩
  have h4 := own_base HO3.out (base' := w.heap.size) (by have := HB2.out.size; simp; omega)
  rw [e] at h4
  exact h4
end Go.Proofs.Ytomkbgghljcbfaa
