/-
  The contract of the statements' own Sub (layer state).
-/
import Derived.Test.YtmdkonfmbbbepaaDoorKUCI
set_option linter.unusedVariables false
set_option linter.unusedVariables false
namespace Go.Proofs.YtmdkonfmbbbepaaDoor
open Go.RowKit Go.Rst Go.Tp Go.Ts Go.Inv
def top4 (n : Nat) : List UInt8 := if n = 0 then [35] else if n = 1 then [97] else if n = 2 then [97, 47, 43] else [98, 47, 35]
def want3 (n : Nat) : List UInt8 := if n = 0 then [] else if n = 1 then [97, 61, 49] else [97, 61, 49, 44, 98, 61, 50]
def sub0 (l : List UInt8) (id next : Int) : Sub := ⟨id, 110 :: txt (gN l 0) (gN l 0 % 20), top4 (gN l 1 % 4), want3 (gN l 1 / 4 % 3), 1 + gN l 2 * 3, 1 + gN l 3 % 9, (gN l 4 : Int) % next, [], [], []⟩
def FS (cv : Value) (l : List UInt8) (id next : Int) (B : Nat) (i : Nat) (v : Value) (w : World) : Prop :=
  match i with
  | 0 => v = .int .i64 id
  | 1 | 6 | 12 | 18 | 22 | 26 => v = cv
  | 2 => v = .int .i64 (gN l 0 : Nat)
  | 3 => v = sv (txt (gN l 0) (gN l 0 % 20))
  | 4 => v = sv (110 :: txt (gN l 0) (gN l 0 % 20))
  | 5 => ∃ b, v = .slice (some ⟨b, 0, none⟩) 4 4 ∧ Wh w b [sv [35], sv [97], sv [97, 47, 43], sv [98, 47, 35]] 9
  | 7 => v = .int .i64 (gN l 1 : Nat)
  | 8 => v = .int .i64 (gN l 1 % 4 : Nat)
  | 9 => ∃ b, v = .pointer (some ⟨b, gN l 1 % 4, none⟩) ∧ Wh w b [sv [35], sv [97], sv [97, 47, 43], sv [98, 47, 35]] 9
  | 10 => v = sv (top4 (gN l 1 % 4))
  | 11 => ∃ b, v = .slice (some ⟨b, 0, none⟩) 3 3 ∧ Wh w b [sv [], sv [97, 61, 49], sv [97, 61, 49, 44, 98, 61, 50]] 9
  | 13 => v = .int .i64 (gN l 1 : Nat)
  | 14 => v = .int .i64 (gN l 1 / 4 : Nat)
  | 15 => v = .int .i64 (gN l 1 / 4 % 3 : Nat)
  | 16 => ∃ b, v = .pointer (some ⟨b, gN l 1 / 4 % 3, none⟩) ∧ Wh w b [sv [], sv [97, 61, 49], sv [97, 61, 49, 44, 98, 61, 50]] 9
  | 17 => v = sv (want3 (gN l 1 / 4 % 3))
  | 19 => v = .int .i64 (gN l 2 : Nat)
  | 20 => v = .int .i64 (gN l 2 * 3 : Nat)
  | 21 => v = .int .i64 (1 + gN l 2 * 3 : Nat)
  | 23 => v = .int .i64 (gN l 3 : Nat)
  | 24 => v = .int .i64 (gN l 3 % 9 : Nat)
  | 25 => v = .int .i64 (1 + gN l 3 % 9 : Nat)
  | 27 => v = .int .i64 (gN l 4 : Nat)
  | 28 => v = .int .i64 next
  | 29 => v = .int .i64 ((gN l 4 : Int) % next)
  | 30 => v = .agg (subC (sub0 l id next) (.slice none 0 0) (.slice none 0 0)).toArray
  | 31 => ∃ b, v = .pointer (some ⟨b, 0, none⟩) ∧ B ≤ b ∧ Wh w b (subC noSub (.slice none 0 0) (.slice none 0 0)) 27
  | _ => True
theorem FS.stab {cv : Value} {l : List UInt8} {id next : Int} {B : Nat} (i : Nat) (v : Value) (w1 w2 : World) (h : FS cv l id next B i v w1) (hb : Below w1.heap.size w1 w2) : FS cv l id next B i v w2 := by
  unfold FS at h ⊢
  split at h <;> first | exact h | (obtain ⟨b, h1, h2⟩ := h; first | exact ⟨b, h1, h2.below hb⟩ | exact ⟨b, h1, h2.1, h2.2.below hb⟩)
theorem txt_word (k m : Nat) : (txt k m).all isW = true := by
  rw [List.all_eq_true]
  intro c hc
  obtain ⟨i, _, rfl⟩ := List.mem_map.1 hc
  have := txtB_nat k i
  unfold isW
  have h1 : 97 ≤ (txtB k i).toNat := by omega
  have h2 : (txtB k i).toNat ≤ 122 := by omega
  simp [h1, h2]
theorem base_ok (l : List UInt8) (id next : Int) (hn : 1 ≤ next) (note : List UInt8) (hno : note.length ≤ 30) : BaseOk { sub0 l id next with note := note } next := by
  have G2 := gN_lt l 2
  refine ⟨?_, ?_, ?_, ⟨?_, ?_⟩, ⟨?_, ?_⟩, ⟨?_, ?_⟩, hno⟩
  · show nameB (110 :: txt (gN l 0) (gN l 0 % 20)) = true
    have hl : (110 :: txt (gN l 0) (gN l 0 % 20)).length ≤ 20 := by rw [List.length_cons, txt_len]; omega
    rw [name_word, decide_eq_true hl]
    unfold wordB
    rw [List.all_cons, txt_word, decide_eq_true (show 0 < (110 :: txt (gN l 0) (gN l 0 % 20)).length by simp)]
    rfl
  · show patB (top4 (gN l 1 % 4)) = true
    have h4 : gN l 1 % 4 < 4 := Nat.mod_lt _ (by omega)
    generalize gN l 1 % 4 = n at h4 ⊢
    rcases (show n = 0 ∨ n = 1 ∨ n = 2 ∨ n = 3 by omega) with rfl | rfl | rfl | rfl <;> decide
  · show attrsB (want3 (gN l 1 / 4 % 3)) = true
    have h4 : gN l 1 / 4 % 3 < 3 := Nat.mod_lt _ (by omega)
    generalize gN l 1 / 4 % 3 = n at h4 ⊢
    rcases (show n = 0 ∨ n = 1 ∨ n = 2 by omega) with rfl | rfl | rfl <;> decide
  · show (1 : Int) ≤ 1 + gN l 2 * 3; omega
  · show (1 : Int) + gN l 2 * 3 ≤ 1000; omega
  · show (1 : Int) ≤ 1 + gN l 3 % 9; omega
  · show (1 : Int) + gN l 3 % 9 ≤ 9; omega
  · show (0 : Int) ≤ (gN l 4 : Int) % next; exact Int.emod_nonneg _ (by omega)
  · show (gN l 4 : Int) % next < next; exact Int.emod_lt_of_pos _ (by omega)
def GivesSb (w : World) (id clock next : Int) (e : Ending) (w' : World) : Prop := ∃ (x : Sub) (av qv : Value), e = .returned (.agg (subC x av qv).toArray) ∧ RI w' av x.acks ∧ RM w' qv x.queue ∧ Below w.heap.size w w' ∧
  x.id = id ∧ (1 ≤ id → id ≤ 1073741824 → goodB x clock next = true) ∧ x.acks.length ≤ 20 ∧ x.queue.length ≤ 30 ∧ (∀ m ∈ x.queue, m.til ≤ 1000000000 ∧ m.attr.length ≤ 30) ∧ x.name.length ≤ 20 ∧ x.topic.length ≤ 30 ∧ x.want.length ≤ 30
set_option maxRecDepth 100000 in
set_option maxHeartbeats 16000000 in
theorem sub_any {cv : Value} {l : List UInt8} {w : World} (id clock next : Int) (hn : 1 ≤ next) (hn2 : next ≤ 1000000) (hc0 : 0 ≤ clock) (hc2 : clock ≤ 1000000) (h : RB w cv l) : Calls Tryd.prog 14 #[cv, .int .i64 id, .int .i64 clock, .int .i64 next] w (GivesSb w id clock next) := by
  have HV := Lib.hid h
  obtain ⟨Ac, cc, rfl, hcc, hccm, _⟩ := h
  unfold maxLen at hccm
  obtain ⟨cv, hcv⟩ : ∃ cv, cv = Value.slice Ac l.length cc := ⟨_, rfl⟩
  rw [← hcv] at HV ⊢
  have HCV := Lib.hid hcv
  have HCC := Lib.hid hcc
  have HCM := Lib.hid hccm
  clear hcv hcc hccm
  go_enter Tryd.func14, Tryd.ntmps14
  go_wp2_with fail
  refine wp_region_each (n := 32) (FS cv l id next (w.heap.size + 1)) (by kernel_rfl) (by kernel_rfl) FS.stab ?_ ?_
  · intro i o a w2 hi ho hb hf hr K hK
    have hb1 : Below w.heap.size w w2 := ((Below.refl _ w).alloc (Nat.le_refl _) _).trans (hb.mono (by simp))
    obtain rfl | rfl | rfl | rfl | rfl | rfl | rfl | rfl | rfl | rfl | rfl | rfl | rfl | rfl | rfl | rfl | rfl | rfl | rfl | rfl | rfl | rfl | rfl | rfl | rfl | rfl | rfl | rfl | rfl | rfl | rfl | rfl := (by omega : i = 0 ∨ i = 1 ∨ i = 2 ∨ i = 3 ∨ i = 4 ∨ i = 5 ∨ i = 6 ∨ i = 7 ∨ i = 8 ∨ i = 9 ∨ i = 10 ∨ i = 11 ∨ i = 12 ∨ i = 13 ∨ i = 14 ∨ i = 15 ∨ i = 16 ∨ i = 17 ∨ i = 18 ∨ i = 19 ∨ i = 20 ∨ i = 21 ∨ i = 22 ∨ i = 23 ∨ i = 24 ∨ i = 25 ∨ i = 26 ∨ i = 27 ∨ i = 28 ∨ i = 29 ∨ i = 30 ∨ i = 31)
    all_goals (simp only [zD, zE, zF, Option.some.injEq] at ho; subst ho)
    · clear hi
      have t1 := hr 1 (by intro h; revert h; exact of_decide_eq_false (by kernel_rfl))
      have t1 := ev t1
      clear hf hr
      have G0 := gN_lt l 0
      have G1 := gN_lt l 1
      have G2 := gN_lt l 2
      have G3 := gN_lt l 3
      have G4 := gN_lt l 4
      refine wp_val (.int .i64 id) ?_ (hK _ _ (show FS _ _ _ _ _ _ _ _ from rfl) (Below.refl _ _))
      go_simp
    · clear hi
      have t0 := hr 0 (by intro h; revert h; exact of_decide_eq_false (by kernel_rfl))
      have t0 := ev t0
      clear hf hr
      have G0 := gN_lt l 0
      have G1 := gN_lt l 1
      have G2 := gN_lt l 2
      have G3 := gN_lt l 3
      have G4 := gN_lt l 4
      refine wp_val (cv) ?_ (hK _ _ (show FS _ _ _ _ _ _ _ _ from rfl) (Below.refl _ _))
      go_simp
    · clear hi
      have f1 : FS cv l id next (w.heap.size + 1) 1 (a.tmps.getD 14 undef) w2 := hf 1 (List.contains_iff_mem.1 (by kernel_rfl))
      simp only [FS] at f1
      have e1 := ev f1
      clear hf hr
      have hg := gN_any 0 (HV.out.below hb1)
      go_simp
      refine hg.mono ?_
      rintro e w3 ⟨rfl, rfl⟩
      go_simp
      exact hK _ _ rfl (Below.refl _ _)
    · clear hi
      have f2 : FS cv l id next (w.heap.size + 1) 2 (a.tmps.getD 15 undef) w2 := hf 2 (List.contains_iff_mem.1 (by kernel_rfl))
      simp only [FS] at f2
      have e2 := ev f2
      clear hf hr
      have G0 := gN_lt l 0
      have G1 := gN_lt l 1
      have G2 := gN_lt l 2
      have G3 := gN_lt l 3
      have G4 := gN_lt l 4
      have hg := text_any (gN l 0) 19 (by omega) (by omega) w2
      go_simp
      refine hg.mono ?_
      rintro e w3 ⟨rfl, hb3⟩
      go_simp
      exact hK _ _ rfl hb3
    · clear hi
      have f3 : FS cv l id next (w.heap.size + 1) 3 (a.tmps.getD 16 undef) w2 := hf 3 (List.contains_iff_mem.1 (by kernel_rfl))
      simp only [FS] at f3
      have e3 := ev f3
      clear hf hr
      have G0 := gN_lt l 0
      have G1 := gN_lt l 1
      have G2 := gN_lt l 2
      have G3 := gN_lt l 3
      have G4 := gN_lt l 4
      refine wp_val (sv (110 :: txt (gN l 0) (gN l 0 % 20))) ?_ (hK _ _ (show FS _ _ _ _ _ _ _ _ from rfl) (Below.refl _ _))
      go_simp
      rw [if_neg (by rw [txt_len]; omega)]
      exact congrArg (fun s => Result.ok (Next.value (.string s)) w2) (ext_cat [110] (txt (gN l 0) (gN l 0 % 20)))
    · clear hi
      clear hf hr
      go_simp
      exact hK _ _ ⟨w2.heap.size, rfl, Wh.new w2 _ _⟩ ((Below.refl _ w2).alloc (Nat.le_refl _) _)
    · clear hi
      have t0 := hr 0 (by intro h; revert h; exact of_decide_eq_false (by kernel_rfl))
      have t0 := ev t0
      clear hf hr
      have G0 := gN_lt l 0
      have G1 := gN_lt l 1
      have G2 := gN_lt l 2
      have G3 := gN_lt l 3
      have G4 := gN_lt l 4
      refine wp_val (cv) ?_ (hK _ _ (show FS _ _ _ _ _ _ _ _ from rfl) (Below.refl _ _))
      go_simp
    · clear hi
      have f3 : FS cv l id next (w.heap.size + 1) 3 (a.tmps.getD 16 undef) w2 := hf 3 (List.contains_iff_mem.1 (by kernel_rfl))
      have f6 : FS cv l id next (w.heap.size + 1) 6 (a.tmps.getD 19 undef) w2 := hf 6 (List.contains_iff_mem.1 (by kernel_rfl))
      simp only [FS] at f3
      simp only [FS] at f6
      have e3 := ev f3
      have e6 := ev f6
      clear hf hr
      have hg := gN_any 1 (HV.out.below hb1)
      go_simp
      refine hg.mono ?_
      rintro e w3 ⟨rfl, rfl⟩
      go_simp
      exact hK _ _ rfl (Below.refl _ _)
    · clear hi
      have f7 : FS cv l id next (w.heap.size + 1) 7 (a.tmps.getD 20 undef) w2 := hf 7 (List.contains_iff_mem.1 (by kernel_rfl))
      simp only [FS] at f7
      have e7 := ev f7
      clear hf hr
      have G0 := gN_lt l 0
      have G1 := gN_lt l 1
      have G2 := gN_lt l 2
      have G3 := gN_lt l 3
      have G4 := gN_lt l 4
      refine wp_val (.int .i64 (gN l 1 % 4 : Nat)) ?_ (hK _ _ (show FS _ _ _ _ _ _ _ _ from rfl) (Below.refl _ _))
      go_simp
      rw [Int.tmod_eq_emod_of_nonneg (by omega)]
    · clear hi
      have f5 : FS cv l id next (w.heap.size + 1) 5 (a.tmps.getD 18 undef) w2 := hf 5 (List.contains_iff_mem.1 (by kernel_rfl))
      have f8 : FS cv l id next (w.heap.size + 1) 8 (a.tmps.getD 21 undef) w2 := hf 8 (List.contains_iff_mem.1 (by kernel_rfl))
      simp only [FS] at f5
      simp only [FS] at f8
      obtain ⟨b5, f5, g5⟩ := f5
      have e5 := ev f5
      have e8 := ev f8
      clear hf hr
      have G0 := gN_lt l 0
      have G1 := gN_lt l 1
      have G2 := gN_lt l 2
      have G3 := gN_lt l 3
      have G4 := gN_lt l 4
      refine wp_val (.pointer (some ⟨b5, gN l 1 % 4, none⟩)) ?_ (hK _ _ (show FS _ _ _ _ _ _ _ _ from ⟨b5, rfl, g5⟩) (Below.refl _ _))
      go_simp
      rw [if_pos (by omega), show ((gN l 1 : Int) % 4).toNat = gN l 1 % 4 by omega]
    · clear hi
      have f9 : FS cv l id next (w.heap.size + 1) 9 (a.tmps.getD 22 undef) w2 := hf 9 (List.contains_iff_mem.1 (by kernel_rfl))
      simp only [FS] at f9
      obtain ⟨b9, f9, g9⟩ := f9
      have e9 := ev f9
      clear hf hr
      have G0 := gN_lt l 0
      have G1 := gN_lt l 1
      have G2 := gN_lt l 2
      have G3 := gN_lt l 3
      have G4 := gN_lt l 4
      have hc : w2.cell? ⟨b9, gN l 1 % 4, none⟩ = some (sv (top4 (gN l 1 % 4))) := by
        have h4 : gN l 1 % 4 < 4 := Nat.mod_lt _ (by omega)
        generalize gN l 1 % 4 = n at h4 ⊢
        rcases (show n = 0 ∨ n = 1 ∨ n = 2 ∨ n = 3 by omega) with rfl | rfl | rfl | rfl
        all_goals exact g9.bx.cell (i := _) (by simp)
      refine wp_val (sv (top4 (gN l 1 % 4))) ?_ (hK _ _ (show FS _ _ _ _ _ _ _ _ from rfl) (Below.refl _ _))
      go_simp
    · clear hi
      clear hf hr
      go_simp
      exact hK _ _ ⟨w2.heap.size, rfl, Wh.new w2 _ _⟩ ((Below.refl _ w2).alloc (Nat.le_refl _) _)
    · clear hi
      have t0 := hr 0 (by intro h; revert h; exact of_decide_eq_false (by kernel_rfl))
      have t0 := ev t0
      clear hf hr
      have G0 := gN_lt l 0
      have G1 := gN_lt l 1
      have G2 := gN_lt l 2
      have G3 := gN_lt l 3
      have G4 := gN_lt l 4
      refine wp_val (cv) ?_ (hK _ _ (show FS _ _ _ _ _ _ _ _ from rfl) (Below.refl _ _))
      go_simp
    · clear hi
      have f7 : FS cv l id next (w.heap.size + 1) 7 (a.tmps.getD 20 undef) w2 := hf 7 (List.contains_iff_mem.1 (by kernel_rfl))
      have f12 : FS cv l id next (w.heap.size + 1) 12 (a.tmps.getD 25 undef) w2 := hf 12 (List.contains_iff_mem.1 (by kernel_rfl))
      simp only [FS] at f7
      simp only [FS] at f12
      have e7 := ev f7
      have e12 := ev f12
      clear hf hr
      have hg := gN_any 1 (HV.out.below hb1)
      go_simp
      refine hg.mono ?_
      rintro e w3 ⟨rfl, rfl⟩
      go_simp
      exact hK _ _ rfl (Below.refl _ _)
    · clear hi
      have f13 : FS cv l id next (w.heap.size + 1) 13 (a.tmps.getD 26 undef) w2 := hf 13 (List.contains_iff_mem.1 (by kernel_rfl))
      simp only [FS] at f13
      have e13 := ev f13
      clear hf hr
      have G0 := gN_lt l 0
      have G1 := gN_lt l 1
      have G2 := gN_lt l 2
      have G3 := gN_lt l 3
      have G4 := gN_lt l 4
      refine wp_val (.int .i64 (gN l 1 / 4 : Nat)) ?_ (hK _ _ (show FS _ _ _ _ _ _ _ _ from rfl) (Below.refl _ _))
      go_simp
      first | go_num | (rw [IntKind.wrap_i64]; omega)
    · clear hi
      have f14 : FS cv l id next (w.heap.size + 1) 14 (a.tmps.getD 27 undef) w2 := hf 14 (List.contains_iff_mem.1 (by kernel_rfl))
      simp only [FS] at f14
      have e14 := ev f14
      clear hf hr
      have G0 := gN_lt l 0
      have G1 := gN_lt l 1
      have G2 := gN_lt l 2
      have G3 := gN_lt l 3
      have G4 := gN_lt l 4
      refine wp_val (.int .i64 (gN l 1 / 4 % 3 : Nat)) ?_ (hK _ _ (show FS _ _ _ _ _ _ _ _ from rfl) (Below.refl _ _))
      go_simp
      rw [Int.tmod_eq_emod_of_nonneg (by omega)]
    · clear hi
      have f11 : FS cv l id next (w.heap.size + 1) 11 (a.tmps.getD 24 undef) w2 := hf 11 (List.contains_iff_mem.1 (by kernel_rfl))
      have f15 : FS cv l id next (w.heap.size + 1) 15 (a.tmps.getD 28 undef) w2 := hf 15 (List.contains_iff_mem.1 (by kernel_rfl))
      simp only [FS] at f11
      simp only [FS] at f15
      obtain ⟨b11, f11, g11⟩ := f11
      have e11 := ev f11
      have e15 := ev f15
      clear hf hr
      have G0 := gN_lt l 0
      have G1 := gN_lt l 1
      have G2 := gN_lt l 2
      have G3 := gN_lt l 3
      have G4 := gN_lt l 4
      refine wp_val (.pointer (some ⟨b11, gN l 1 / 4 % 3, none⟩)) ?_ (hK _ _ (show FS _ _ _ _ _ _ _ _ from ⟨b11, rfl, g11⟩) (Below.refl _ _))
      go_simp
      rw [if_pos (by omega), show ((gN l 1 : Int) / 4 % 3).toNat = gN l 1 / 4 % 3 by omega]
    · clear hi
      have f16 : FS cv l id next (w.heap.size + 1) 16 (a.tmps.getD 29 undef) w2 := hf 16 (List.contains_iff_mem.1 (by kernel_rfl))
      simp only [FS] at f16
      obtain ⟨b16, f16, g16⟩ := f16
      have e16 := ev f16
      clear hf hr
      have G0 := gN_lt l 0
      have G1 := gN_lt l 1
      have G2 := gN_lt l 2
      have G3 := gN_lt l 3
      have G4 := gN_lt l 4
      have hc : w2.cell? ⟨b16, gN l 1 / 4 % 3, none⟩ = some (sv (want3 (gN l 1 / 4 % 3))) := by
        have h4 : gN l 1 / 4 % 3 < 3 := Nat.mod_lt _ (by omega)
        generalize gN l 1 / 4 % 3 = n at h4 ⊢
        rcases (show n = 0 ∨ n = 1 ∨ n = 2 by omega) with rfl | rfl | rfl
        all_goals exact g16.bx.cell (i := _) (by simp)
      refine wp_val (sv (want3 (gN l 1 / 4 % 3))) ?_ (hK _ _ (show FS _ _ _ _ _ _ _ _ from rfl) (Below.refl _ _))
      go_simp
    · clear hi
      have t0 := hr 0 (by intro h; revert h; exact of_decide_eq_false (by kernel_rfl))
      have t0 := ev t0
      clear hf hr
      have G0 := gN_lt l 0
      have G1 := gN_lt l 1
      have G2 := gN_lt l 2
      have G3 := gN_lt l 3
      have G4 := gN_lt l 4
      refine wp_val (cv) ?_ (hK _ _ (show FS _ _ _ _ _ _ _ _ from rfl) (Below.refl _ _))
      go_simp
    · clear hi
      have f13 : FS cv l id next (w.heap.size + 1) 13 (a.tmps.getD 26 undef) w2 := hf 13 (List.contains_iff_mem.1 (by kernel_rfl))
      have f18 : FS cv l id next (w.heap.size + 1) 18 (a.tmps.getD 31 undef) w2 := hf 18 (List.contains_iff_mem.1 (by kernel_rfl))
      simp only [FS] at f13
      simp only [FS] at f18
      have e13 := ev f13
      have e18 := ev f18
      clear hf hr
      have hg := gN_any 2 (HV.out.below hb1)
      go_simp
      refine hg.mono ?_
      rintro e w3 ⟨rfl, rfl⟩
      go_simp
      exact hK _ _ rfl (Below.refl _ _)
    · clear hi
      have f19 : FS cv l id next (w.heap.size + 1) 19 (a.tmps.getD 32 undef) w2 := hf 19 (List.contains_iff_mem.1 (by kernel_rfl))
      simp only [FS] at f19
      have e19 := ev f19
      clear hf hr
      have G0 := gN_lt l 0
      have G1 := gN_lt l 1
      have G2 := gN_lt l 2
      have G3 := gN_lt l 3
      have G4 := gN_lt l 4
      refine wp_val (.int .i64 (gN l 2 * 3 : Nat)) ?_ (hK _ _ (show FS _ _ _ _ _ _ _ _ from rfl) (Below.refl _ _))
      go_simp
      first | go_num | (rw [IntKind.wrap_i64]; omega)
    · clear hi
      have f20 : FS cv l id next (w.heap.size + 1) 20 (a.tmps.getD 33 undef) w2 := hf 20 (List.contains_iff_mem.1 (by kernel_rfl))
      simp only [FS] at f20
      have e20 := ev f20
      clear hf hr
      have G0 := gN_lt l 0
      have G1 := gN_lt l 1
      have G2 := gN_lt l 2
      have G3 := gN_lt l 3
      have G4 := gN_lt l 4
      refine wp_val (.int .i64 (1 + gN l 2 * 3 : Nat)) ?_ (hK _ _ (show FS _ _ _ _ _ _ _ _ from rfl) (Below.refl _ _))
      go_simp
      first | go_num | (rw [IntKind.wrap_i64]; omega)
    · clear hi
      have t0 := hr 0 (by intro h; revert h; exact of_decide_eq_false (by kernel_rfl))
      have t0 := ev t0
      clear hf hr
      have G0 := gN_lt l 0
      have G1 := gN_lt l 1
      have G2 := gN_lt l 2
      have G3 := gN_lt l 3
      have G4 := gN_lt l 4
      refine wp_val (cv) ?_ (hK _ _ (show FS _ _ _ _ _ _ _ _ from rfl) (Below.refl _ _))
      go_simp
    · clear hi
      have f19 : FS cv l id next (w.heap.size + 1) 19 (a.tmps.getD 32 undef) w2 := hf 19 (List.contains_iff_mem.1 (by kernel_rfl))
      have f22 : FS cv l id next (w.heap.size + 1) 22 (a.tmps.getD 35 undef) w2 := hf 22 (List.contains_iff_mem.1 (by kernel_rfl))
      simp only [FS] at f19
      simp only [FS] at f22
      have e19 := ev f19
      have e22 := ev f22
      clear hf hr
      have hg := gN_any 3 (HV.out.below hb1)
      go_simp
      refine hg.mono ?_
      rintro e w3 ⟨rfl, rfl⟩
      go_simp
      exact hK _ _ rfl (Below.refl _ _)
    · clear hi
      have f23 : FS cv l id next (w.heap.size + 1) 23 (a.tmps.getD 36 undef) w2 := hf 23 (List.contains_iff_mem.1 (by kernel_rfl))
      simp only [FS] at f23
      have e23 := ev f23
      clear hf hr
      have G0 := gN_lt l 0
      have G1 := gN_lt l 1
      have G2 := gN_lt l 2
      have G3 := gN_lt l 3
      have G4 := gN_lt l 4
      refine wp_val (.int .i64 (gN l 3 % 9 : Nat)) ?_ (hK _ _ (show FS _ _ _ _ _ _ _ _ from rfl) (Below.refl _ _))
      go_simp
      rw [Int.tmod_eq_emod_of_nonneg (by omega)]
    · clear hi
      have f24 : FS cv l id next (w.heap.size + 1) 24 (a.tmps.getD 37 undef) w2 := hf 24 (List.contains_iff_mem.1 (by kernel_rfl))
      simp only [FS] at f24
      have e24 := ev f24
      clear hf hr
      have G0 := gN_lt l 0
      have G1 := gN_lt l 1
      have G2 := gN_lt l 2
      have G3 := gN_lt l 3
      have G4 := gN_lt l 4
      refine wp_val (.int .i64 (1 + gN l 3 % 9 : Nat)) ?_ (hK _ _ (show FS _ _ _ _ _ _ _ _ from rfl) (Below.refl _ _))
      go_simp
      first | go_num | (rw [IntKind.wrap_i64]; omega)
    · clear hi
      have t0 := hr 0 (by intro h; revert h; exact of_decide_eq_false (by kernel_rfl))
      have t0 := ev t0
      clear hf hr
      have G0 := gN_lt l 0
      have G1 := gN_lt l 1
      have G2 := gN_lt l 2
      have G3 := gN_lt l 3
      have G4 := gN_lt l 4
      refine wp_val (cv) ?_ (hK _ _ (show FS _ _ _ _ _ _ _ _ from rfl) (Below.refl _ _))
      go_simp
    · clear hi
      have f23 : FS cv l id next (w.heap.size + 1) 23 (a.tmps.getD 36 undef) w2 := hf 23 (List.contains_iff_mem.1 (by kernel_rfl))
      have f26 : FS cv l id next (w.heap.size + 1) 26 (a.tmps.getD 39 undef) w2 := hf 26 (List.contains_iff_mem.1 (by kernel_rfl))
      simp only [FS] at f23
      simp only [FS] at f26
      have e23 := ev f23
      have e26 := ev f26
      clear hf hr
      have hg := gN_any 4 (HV.out.below hb1)
      go_simp
      refine hg.mono ?_
      rintro e w3 ⟨rfl, rfl⟩
      go_simp
      exact hK _ _ rfl (Below.refl _ _)
    · clear hi
      have t3 := hr 3 (by intro h; revert h; exact of_decide_eq_false (by kernel_rfl))
      have t3 := ev t3
      clear hf hr
      have G0 := gN_lt l 0
      have G1 := gN_lt l 1
      have G2 := gN_lt l 2
      have G3 := gN_lt l 3
      have G4 := gN_lt l 4
      refine wp_val (.int .i64 next) ?_ (hK _ _ (show FS _ _ _ _ _ _ _ _ from rfl) (Below.refl _ _))
      go_simp
    · clear hi
      have f27 : FS cv l id next (w.heap.size + 1) 27 (a.tmps.getD 40 undef) w2 := hf 27 (List.contains_iff_mem.1 (by kernel_rfl))
      have f28 : FS cv l id next (w.heap.size + 1) 28 (a.tmps.getD 41 undef) w2 := hf 28 (List.contains_iff_mem.1 (by kernel_rfl))
      simp only [FS] at f27
      simp only [FS] at f28
      have e27 := ev f27
      have e28 := ev f28
      clear hf hr
      have G0 := gN_lt l 0
      have G1 := gN_lt l 1
      have G2 := gN_lt l 2
      have G3 := gN_lt l 3
      have G4 := gN_lt l 4
      refine wp_val (.int .i64 ((gN l 4 : Int) % next)) ?_ (hK _ _ (show FS _ _ _ _ _ _ _ _ from rfl) (Below.refl _ _))
      go_simp
      rw [if_neg (by omega), Int.tmod_eq_emod_of_nonneg (by omega)]
    · clear hi
      have f0 : FS cv l id next (w.heap.size + 1) 0 (a.tmps.getD 13 undef) w2 := hf 0 (List.contains_iff_mem.1 (by kernel_rfl))
      have f4 : FS cv l id next (w.heap.size + 1) 4 (a.tmps.getD 17 undef) w2 := hf 4 (List.contains_iff_mem.1 (by kernel_rfl))
      have f10 : FS cv l id next (w.heap.size + 1) 10 (a.tmps.getD 23 undef) w2 := hf 10 (List.contains_iff_mem.1 (by kernel_rfl))
      have f17 : FS cv l id next (w.heap.size + 1) 17 (a.tmps.getD 30 undef) w2 := hf 17 (List.contains_iff_mem.1 (by kernel_rfl))
      have f21 : FS cv l id next (w.heap.size + 1) 21 (a.tmps.getD 34 undef) w2 := hf 21 (List.contains_iff_mem.1 (by kernel_rfl))
      have f25 : FS cv l id next (w.heap.size + 1) 25 (a.tmps.getD 38 undef) w2 := hf 25 (List.contains_iff_mem.1 (by kernel_rfl))
      have f29 : FS cv l id next (w.heap.size + 1) 29 (a.tmps.getD 42 undef) w2 := hf 29 (List.contains_iff_mem.1 (by kernel_rfl))
      simp only [FS] at f0
      simp only [FS] at f4
      simp only [FS] at f10
      simp only [FS] at f17
      simp only [FS] at f21
      simp only [FS] at f25
      simp only [FS] at f29
      have e0 := ev f0
      have e4 := ev f4
      have e10 := ev f10
      have e17 := ev f17
      have e21 := ev f21
      have e25 := ev f25
      have e29 := ev f29
      clear hf hr
      have q0 := (Array.getD_eq_getD_getElem? ..).symm.trans f0
      have q4 := (Array.getD_eq_getD_getElem? ..).symm.trans f4
      have q10 := (Array.getD_eq_getD_getElem? ..).symm.trans f10
      have q17 := (Array.getD_eq_getD_getElem? ..).symm.trans f17
      have q21 := (Array.getD_eq_getD_getElem? ..).symm.trans f21
      have q25 := (Array.getD_eq_getD_getElem? ..).symm.trans f25
      have q29 := (Array.getD_eq_getD_getElem? ..).symm.trans f29
      have G0 := gN_lt l 0
      have G1 := gN_lt l 1
      have G2 := gN_lt l 2
      have G3 := gN_lt l 3
      have G4 := gN_lt l 4
      refine wp_val (.agg (subC (sub0 l id next) (.slice none 0 0) (.slice none 0 0)).toArray) ?_ (hK _ _ (show FS _ _ _ _ _ _ _ _ from rfl) (Below.refl _ _))
      go_simp
      rfl
    · clear hi
      clear hf hr
      have hbs := hb.size
      rw [World.size_alloc] at hbs
      go_simp
      exact hK _ _ ⟨w2.heap.size, rfl, hbs, Wh.new w2 _ _⟩ ((Below.refl _ w2).alloc (Nat.le_refl _) _)
  · intro o a w2 ho hsz hdf hb hf hr
    simp only [zD, zE, zF, Option.some.injEq] at ho
    subst ho
    obtain ⟨b, hp, hbb, hwh⟩ := hf 31 (by omega)
    have hv := hf 30 (by omega)
    clear hf
    have ht := tmps_eq _ _ hsz hr
    clear hr hsz
    rw [show (List.range 32).map (dstOf _) = [13, 14, 15, 16, 17, 18, 19, 20, 21, 22, 23, 24, 25, 26, 27, 28, 29, 30, 31, 32, 33, 34, 35, 36, 37, 38, 39, 40, 41, 42, 43, 9] from by kernel_rfl] at ht
    simp only [List.foldl_cons, List.foldl_nil, zA, zB, zC] at ht
    have hp : a.tmps.getD 9 undef = .pointer (some ⟨b, 0, none⟩) := hp
    have hv : a.tmps.getD 43 undef = .agg (subC (sub0 l id next) (.slice none 0 0) (.slice none 0 0)).toArray := hv
    obtain ⟨t, df⟩ := a
    have hdf : df = [] := hdf
    subst hdf
    simp only at ht hp hv
    rw [hp, hv] at ht
    clear hp hv
    generalize t.getD 13 undef = v13 at ht
    generalize t.getD 14 undef = v14 at ht
    generalize t.getD 15 undef = v15 at ht
    generalize t.getD 16 undef = v16 at ht
    generalize t.getD 17 undef = v17 at ht
    generalize t.getD 18 undef = v18 at ht
    generalize t.getD 19 undef = v19 at ht
    generalize t.getD 20 undef = v20 at ht
    generalize t.getD 21 undef = v21 at ht
    generalize t.getD 22 undef = v22 at ht
    generalize t.getD 23 undef = v23 at ht
    generalize t.getD 24 undef = v24 at ht
    generalize t.getD 25 undef = v25 at ht
    generalize t.getD 26 undef = v26 at ht
    generalize t.getD 27 undef = v27 at ht
    generalize t.getD 28 undef = v28 at ht
    generalize t.getD 29 undef = v29 at ht
    generalize t.getD 30 undef = v30 at ht
    generalize t.getD 31 undef = v31 at ht
    generalize t.getD 32 undef = v32 at ht
    generalize t.getD 33 undef = v33 at ht
    generalize t.getD 34 undef = v34 at ht
    generalize t.getD 35 undef = v35 at ht
    generalize t.getD 36 undef = v36 at ht
    generalize t.getD 37 undef = v37 at ht
    generalize t.getD 38 undef = v38 at ht
    generalize t.getD 39 undef = v39 at ht
    generalize t.getD 40 undef = v40 at ht
    generalize t.getD 41 undef = v41 at ht
    generalize t.getD 42 undef = v42 at ht
    subst ht
    have hb1 : Below w.heap.size w w2 := ((Below.refl _ w).alloc (Nat.le_refl _) _).trans (hb.mono (by simp))
    obtain ⟨W3, hW3⟩ : ∃ W3, W3 = w2.setRow b (subC (sub0 l id next) (.slice none 0 0) (.slice none 0 0)).toArray := ⟨_, rfl⟩
    refine wp_store_row 27 (.tmp 9) (.tmp 43) rfl b (subC (sub0 l id next) (.slice none 0 0) (.slice none 0 0)).toArray rfl rfl 27 (subC noSub (.slice none 0 0) (.slice none 0 0)).toArray hwh size35 rfl (sub_all _ rfl rfl) ?_
    rw [← hW3]
    have HW3 := Lib.hid (show Wh W3 b (subC (sub0 l id next) (.slice none 0 0) (.slice none 0 0)) 27 by rw [hW3]; exact hwh.set _)
    have HB3 := Lib.hid (show Below w.heap.size w W3 by rw [hW3]; exact below_setRow hb1 (by omega) _)
    have HV3 := Lib.hid (HV.out.below HB3.out)
    have hz3 : Wh w2 w.heap.size (subC noSub (.slice none 0 0) (.slice none 0 0)) 27 := (Wh.new w (subC noSub (.slice none 0 0) (.slice none 0 0)) 27).below hb
    have HZ3 := Lib.hid (show Wh W3 w.heap.size (subC noSub (.slice none 0 0) (.slice none 0 0)) 27 by rw [hW3]; exact hz3.setOther (by omega) _)
    have HBB := Lib.hid (show w.heap.size + 1 ≤ b by simpa using hbb)
    clear hW3 hb1 hwh hb hz3
    have hcv := HCV.out
    subst hcv
    have hcc := HCC.out
    have hccm := HCM.out
    clear HCV HCC HCM
    have G5 := gN_lt l 5
    have HG5 := Lib.hid (fun W (hW : Below w.heap.size w W) => gN_any 5 (HV.out.below hW))
    go_wp2_with fail
    rename_i K2 h2 K1 h1 K0 h0
    have LOOP : ∀ (u44 u45 u46 u47 u48 u49 u50 : Value) (base : Sub) (W4 : World), BaseOk base next → base.id = id → base.acks = [] → base.queue = [] → base.name.length ≤ 20 → base.topic.length ≤ 30 → base.want.length ≤ 30 → Wh W4 b (subC base (.slice none 0 0) (.slice none 0 0)) 27 → Wh W4 w.heap.size (subC noSub (.slice none 0 0) (.slice none 0 0)) 27 → Below w.heap.size w W4 → K2 { tmps := #[.slice Ac l.length cc, .int .i64 id, .int .i64 clock, .int .i64 next, undef, undef, undef, undef, .pointer (some ⟨w.heap.size, 0, none⟩), .pointer (some ⟨b, 0, none⟩), undef, undef, undef, v13, v14, v15, v16, v17, v18, v19, v20, v21, v22, v23, v24, v25, v26, v27, v28, v29, v30, v31, v32, v33, v34, v35, v36, v37, v38, v39, v40, v41, v42, .agg (subC (sub0 l id next) (.slice none 0 0) (.slice none 0 0)).toArray, u44, u45, u46, u47, u48, u49, u50, undef, undef, undef, undef, undef, undef, undef, undef, undef, undef, undef, undef, undef, undef, undef, undef, undef, undef, undef, undef, undef, undef, undef, undef, undef, undef, undef, undef, undef, undef, undef, undef, undef, undef, undef, undef, undef, undef, undef, undef, undef, undef, undef, undef, undef, undef, undef, undef, undef, undef, undef, undef, undef, undef, undef, undef, undef, undef, undef, undef, undef, undef, undef, undef, undef, undef, undef, undef, undef, undef, undef, undef, undef, undef, undef, undef, undef, undef, undef, undef, undef, undef, undef, undef, undef, undef, undef, undef, undef, undef, undef, undef, undef, undef, undef, undef, undef, undef, undef, undef, undef, undef, undef, undef, undef, undef, undef, undef, undef, undef, undef, undef, undef, undef, undef, undef, undef, undef, undef, undef, undef, undef, undef, undef, undef, undef, undef, undef, undef, undef, undef, undef, undef, undef, undef, undef, undef, undef, undef, undef, undef, undef, undef, undef, undef], defers := [] } W4 := by
      intro u44 u45 u46 u47 u48 u49 u50 base W4 hbo hid hba hbq hbn hbt hbw hwb hwz hbl
      refine h2 _ _ ?_
      have c6 := hwb.bx.cell (i := 6) (by simp [subC])
      simp only [subC, List.getElem_cons_succ, List.getElem_cons_zero] at c6
      have HWB := Lib.hid hwb
      have HWZ := Lib.hid hwz
      have HBL := Lib.hid hbl
      have HBO := Lib.hid hbo
      have HEQ := Lib.hid (And.intro hid (And.intro hba (And.intro hbq (And.intro hbn (And.intro hbt hbw)))))
      have HFL := Lib.hid hbo.floor
      have HB1 := Lib.hid (And.intro hbo.lease hbo.most)
      clear hwb hwz hbl hbo hid hba hbq hbn hbt hbw
      go_wp2_with fail
      go_loopw [10, 11] (fun sq iv wr => ∃ (i : Nat) (x : Sub) (s : Int) (av qv : Value), i ≤ 70 ∧ iv = .int .i64 i ∧ sq = .int .i64 s ∧ s < next ∧ SI base clock next s x ∧ Wh wr b (subC x av qv) 27 ∧ OI W4.heap.size wr av x.acks ∧ OM W4.heap.size wr qv x.queue ∧ (∀ m ∈ x.queue, m.attr.length ≤ 30) ∧ Wh wr w.heap.size (subC noSub (.slice none 0 0) (.slice none 0 0)) 27 ∧ Below w.heap.size w wr ∧ W4.heap.size ≤ wr.heap.size ∧ b < W4.heap.size) (fun _ iv _ => 70 - (intOf iv).toNat)
      case atStart =>
        refine ⟨6, base, base.floor, .slice none 0 0, .slice none 0 0, by omega, rfl, rfl, HFL.out.2, SI.start HEQ.out.2.1 HEQ.out.2.2.1, HWB.out, ?_, ?_, ?_, HWZ.out, HBL.out, Nat.le_refl _, HWB.out.lt⟩
        · rw [HEQ.out.2.1]; exact OI.nil_ _ _
        · rw [HEQ.out.2.2.1]; exact OM.nil_ _ _
        · rw [HEQ.out.2.2.1]; simp
      case round =>
        clear c6
        obtain ⟨i, x, s, av, qv, hi, rfl, rfl, hs, hsi, hwx, hav, hqv, hat, hwz, hbl, hsz, hbs⟩ := hrel
        have HSI := Lib.hid hsi
        have HBX := Lib.hid hwx
        have HAV := Lib.hid hav
        have HQV := Lib.hid hqv
        have HAT := Lib.hid hat
        have HZR := Lib.hid hwz
        have HBW := Lib.hid hbl
        have HLT := Lib.hid (And.intro hsz hbs)
        have HSL := Lib.hid (show 0 ≤ s from Int.le_trans HFL.out.1 hsi.fl)
        clear hsi hwx hav hqv hat hwz hbl hsz hbs
        obtain ⟨Aa, ca, rfl, hca⟩ := own_shape HAV.out
        obtain ⟨Aq, cq, rfl, hcq⟩ := own_shape HQV.out
        by_cases hg3 : i + 3 < l.length
        case neg =>
          have q1 : ¬ (i : Int) + 3 < (l.length : Int) := by omega
          have hsz := HLT.out
          have hrA := HAV.out.rl
          have hrQ := HQV.out.rl
          have hfrz := HBX.out
          have hbx := HBX.out
          have hr9 := hbx.range
          have hone := sub_all x (rl_one hrA) (rl_one hrQ)
          have HR9 := Lib.hid hr9
          have HON := Lib.hid hone
          clear hfrz hbx hr9 hone hrA hrQ
          go_wp2_with (first
            | (refine wpList_load_midG (by rfl) 27 (.tmp 9) rfl b 0 rfl _ _ HR9.out Tryd.underlying27 rfl size35 ?_)
            | (refine wpList_store_row rfl 27 (.tmp 8) (.tmp 195) rfl w.heap.size (subC x (.slice Aa x.acks.length ca) (.slice Aq x.queue.length cq)).toArray rfl rfl 27 (subC noSub (.slice none 0 0) (.slice none 0 0)).toArray HZR.out size35 rfl HON.out ?_))
          refine bodyPost_ret (results_cell_row rfl _ _ w.heap.size 27 (subC x (.slice Aa x.acks.length ca) (.slice Aq x.queue.length cq)).toArray (0, 0) _ rfl (HZR.out.set (subC x (.slice Aa x.acks.length ca) (.slice Aq x.queue.length cq))) Tryd.underlying27 rfl size35) rfl ?_
          have hbb := HBB.out
          have hgr := grown_row wr w.heap.size (subC x (.slice Aa x.acks.length ca) (.slice Aq x.queue.length cq)).toArray
          exact ⟨x, (.slice Aa x.acks.length ca), (.slice Aq x.queue.length cq), rfl, (HAV.out.kept hgr (by omega)).rl, OM.rl (own_apart HQV.out hgr (fun k hk => by have := (HQV.out.lt k hk).1; omega)), below_setRow HBW.out (Nat.le_refl _) _, (congrArg Sub.id HSI.out.eq).trans HEQ.out.1, fun h1 h2 => HSI.out.good HBO.out ⟨by rw [HEQ.out.1]; exact h1, by rw [HEQ.out.1]; exact h2⟩, HSI.out.al, HSI.out.ql, fun m hm => ⟨(HSI.out.qs m hm).2.2.2, HAT.out m hm⟩, by rw [HSI.out.eq]; exact HEQ.out.2.2.2.1, by rw [HSI.out.eq]; exact HEQ.out.2.2.2.2.1, by rw [HSI.out.eq]; exact HEQ.out.2.2.2.2.2⟩
        have q1 : (i : Int) + 3 < (l.length : Int) := by omega
        by_cases h66 : i < 66
        case neg =>
          have q2 : ¬ (i : Int) < 66 := by omega
          have hsz := HLT.out
          have hrA := HAV.out.rl
          have hrQ := HQV.out.rl
          have hfrz := HBX.out
          have hbx := HBX.out
          have hr9 := hbx.range
          have hone := sub_all x (rl_one hrA) (rl_one hrQ)
          have HR9 := Lib.hid hr9
          have HON := Lib.hid hone
          clear hfrz hbx hr9 hone hrA hrQ
          go_wp2_with (first
            | (refine wpList_load_midG (by rfl) 27 (.tmp 9) rfl b 0 rfl _ _ HR9.out Tryd.underlying27 rfl size35 ?_)
            | (refine wpList_store_row rfl 27 (.tmp 8) (.tmp 195) rfl w.heap.size (subC x (.slice Aa x.acks.length ca) (.slice Aq x.queue.length cq)).toArray rfl rfl 27 (subC noSub (.slice none 0 0) (.slice none 0 0)).toArray HZR.out size35 rfl HON.out ?_))
          refine bodyPost_ret (results_cell_row rfl _ _ w.heap.size 27 (subC x (.slice Aa x.acks.length ca) (.slice Aq x.queue.length cq)).toArray (0, 0) _ rfl (HZR.out.set (subC x (.slice Aa x.acks.length ca) (.slice Aq x.queue.length cq))) Tryd.underlying27 rfl size35) rfl ?_
          have hbb := HBB.out
          have hgr := grown_row wr w.heap.size (subC x (.slice Aa x.acks.length ca) (.slice Aq x.queue.length cq)).toArray
          exact ⟨x, (.slice Aa x.acks.length ca), (.slice Aq x.queue.length cq), rfl, (HAV.out.kept hgr (by omega)).rl, OM.rl (own_apart HQV.out hgr (fun k hk => by have := (HQV.out.lt k hk).1; omega)), below_setRow HBW.out (Nat.le_refl _) _, (congrArg Sub.id HSI.out.eq).trans HEQ.out.1, fun h1 h2 => HSI.out.good HBO.out ⟨by rw [HEQ.out.1]; exact h1, by rw [HEQ.out.1]; exact h2⟩, HSI.out.al, HSI.out.ql, fun m hm => ⟨(HSI.out.qs m hm).2.2.2, HAT.out m hm⟩, by rw [HSI.out.eq]; exact HEQ.out.2.2.2.1, by rw [HSI.out.eq]; exact HEQ.out.2.2.2.2.1, by rw [HSI.out.eq]; exact HEQ.out.2.2.2.2.2⟩
        have q2 : (i : Int) < 66 := by omega
        obtain ⟨bb, off, rfl, hbbl, hcell⟩ : ∃ bb off, Ac = some ⟨bb, off, none⟩ ∧ bb < w.heap.size ∧ ∀ j (h : j < l.length), w.cell? ⟨bb, off + j, none⟩ = some (bv l[j]) := by
          obtain ⟨A, c, h1, _, _, h4⟩ := HV.out
          injection h1 with h1 _ _
          subst h1
          rcases h4 with h4 | h4
          · rw [h4] at hg3; simp at hg3
          · exact h4
        have HCL := Lib.hid (fun j (h : j < l.length) => (HBW.out.cell (p := ⟨bb, off + j, none⟩) hbbl).trans (hcell j h))
        clear hcell
        obtain ⟨z0, hz0⟩ : ∃ z, z = l[i] := ⟨_, rfl⟩
        have e0 := HCL.out i (by omega)
        rw [← hz0] at e0
        unfold bv at e0
        have hzl := UInt8.toNat_lt z0
        obtain ⟨d, hd⟩ : ∃ d, d = z0.toNat % 3 := ⟨_, rfl⟩
        have hd3 : d < 3 := by omega
        have f1 : (z0.toNat : Int).tmod 3 = (d : Int) := by rw [Int.tmod_eq_emod_of_nonneg (by omega), hd]; omega
        have f2 : (z0.toNat : Int) % 3 = (d : Int) := by rw [hd]; omega
        have f3 : IntKind.u8.wrap (d : Int) = (d : Int) := by rw [IntKind.wrap_u8]; omega
        have h0s := HSL.out
        have HZ0 := Lib.hid hz0
        have HD := Lib.hid hd
        have HD3 := Lib.hid hd3
        clear hz0 hd
        by_cases hsn : s + (1 + (d : Int)) < next
        case neg =>
          have q3 : next ≤ s + (1 + (d : Int)) := by omega
          have hsz := HLT.out
          have hrA := HAV.out.rl
          have hrQ := HQV.out.rl
          have hfrz := HBX.out
          have hbx := HBX.out
          have hr9 := hbx.range
          have hone := sub_all x (rl_one hrA) (rl_one hrQ)
          have HR9 := Lib.hid hr9
          have HON := Lib.hid hone
          clear hfrz hbx hr9 hone hrA hrQ
          go_wp2_with (first
            | (refine wpList_load_midG (by rfl) 27 (.tmp 9) rfl b 0 rfl _ _ HR9.out Tryd.underlying27 rfl size35 ?_)
            | (refine wpList_store_row rfl 27 (.tmp 8) (.tmp 195) rfl w.heap.size (subC x (.slice Aa x.acks.length ca) (.slice Aq x.queue.length cq)).toArray rfl rfl 27 (subC noSub (.slice none 0 0) (.slice none 0 0)).toArray HZR.out size35 rfl HON.out ?_))
          refine bodyPost_ret (results_cell_row rfl _ _ w.heap.size 27 (subC x (.slice Aa x.acks.length ca) (.slice Aq x.queue.length cq)).toArray (0, 0) _ rfl (HZR.out.set (subC x (.slice Aa x.acks.length ca) (.slice Aq x.queue.length cq))) Tryd.underlying27 rfl size35) rfl ?_
          have hbb := HBB.out
          have hgr := grown_row wr w.heap.size (subC x (.slice Aa x.acks.length ca) (.slice Aq x.queue.length cq)).toArray
          exact ⟨x, (.slice Aa x.acks.length ca), (.slice Aq x.queue.length cq), rfl, (HAV.out.kept hgr (by omega)).rl, OM.rl (own_apart HQV.out hgr (fun k hk => by have := (HQV.out.lt k hk).1; omega)), below_setRow HBW.out (Nat.le_refl _) _, (congrArg Sub.id HSI.out.eq).trans HEQ.out.1, fun h1 h2 => HSI.out.good HBO.out ⟨by rw [HEQ.out.1]; exact h1, by rw [HEQ.out.1]; exact h2⟩, HSI.out.al, HSI.out.ql, fun m hm => ⟨(HSI.out.qs m hm).2.2.2, HAT.out m hm⟩, by rw [HSI.out.eq]; exact HEQ.out.2.2.2.1, by rw [HSI.out.eq]; exact HEQ.out.2.2.2.2.1, by rw [HSI.out.eq]; exact HEQ.out.2.2.2.2.2⟩
        have q3 : ¬ next ≤ s + (1 + (d : Int)) := by omega
        have c7 := HBX.out.bx.cell (i := 7) (by simp [subC])
        have c8 := HBX.out.bx.cell (i := 8) (by simp [subC])
        simp only [subC, List.getElem_cons_succ, List.getElem_cons_zero] at c7 c8
        by_cases h200 : 200 < z0.toNat
        · have q4 : (200 : Int) < (z0.toNat : Int) := by omega
          by_cases h20 : x.acks.length < 20
          · have q5 : (x.acks.length : Int) < 20 := by omega
            have HSR := Lib.hid (fun (u : World) => src_cells (P := Tryd.prog) u rfl Tryd.underlying24 3 [.int .i64 (s + (1 + (d : Int)))] (fun u hu => by simp at hu; subst hu; rfl))
            go_wp2_with (at_builtin; refine wpList_own rfl (.tmp 88) (.tmp 90) 24 24 rfl W4.heap.size 3 _ 1 8 Tryd.underlying24 infoNum rfl rfl (HAV.out.alloc _) rfl (HSR.out wr) (HBW.out.alloc HBW.out.size _) ?_ ?_ ?_ ?_ ?_)
            · have := HLT.out; have := HBB.out; omega
            · unfold maxLen; omega
            · omega
            · have := HLT.out; simp; omega
            · intro v5 w5 hown5 hbel5 hg5
              have hbb := HBB.out
              have hlt := HLT.out
              have hwb5 : Wh w5 b (subC x (.slice Aa x.acks.length ca) (.slice Aq x.queue.length cq)) 27 := (HBX.out.alloc _).kept hg5 (fun e => by have := (HAV.out.lt b e.symm).1; omega)
              have hwz5 : Wh w5 w.heap.size (subC noSub (.slice none 0 0) (.slice none 0 0)) 27 := (HZR.out.alloc _).kept hg5 (fun e => by have := (HAV.out.lt _ e.symm).1; omega)
              have hq5 : OM W4.heap.size w5 (.slice Aq x.queue.length cq) x.queue := own_two (World.ownsRow.alloc HQV.out _) (World.ownsRow.alloc HAV.out _) (by decide) hg5
              have ha5 : OI W4.heap.size w5 v5 (x.acks ++ [s + (1 + (d : Int))]) := by unfold OI; rw [List.length_append, List.map_append]; exact hown5
              have hsz5 : W4.heap.size ≤ w5.heap.size := by have := hg5.size; simp at this; omega
              obtain ⟨A5, c5, rfl, _⟩ := own_shape hown5
              have f7 := hwb5.frozen 7
              have c75 := hwb5.bx.cell (i := 7) (by simp [subC])
              simp only [subC, List.getElem_cons_succ, List.getElem_cons_zero] at c75
              have hs7 := hwb5.set1 7 (.slice A5 (x.acks.length + 1) c5)
              simp only [subC, List.set_cons_succ, List.set_cons_zero] at hs7
              have hz7 := hwz5.set1Other (k := b) (by omega) 7 (.slice A5 (x.acks.length + 1) c5)
              have hb7 := hbel5.setCell (p := ⟨b, 7, none⟩) (show w.heap.size ≤ b by omega) (.slice A5 (x.acks.length + 1) c5)
              have hgc := grown_cell w5 b 7 (.slice A5 (x.acks.length + 1) c5)
              have ha7 := ha5.kept hgc (by omega)
              have hq7 : OM W4.heap.size _ (.slice Aq x.queue.length cq) x.queue := own_apart hq5 hgc (fun k hk => by have := (HQV.out.lt k hk).1; omega)
              have hsz7 := Nat.le_trans hsz5 hgc.size
              have HS7 := Lib.hid hs7
              have HZ7 := Lib.hid hz7
              have HB7 := Lib.hid hb7
              have HA7 := Lib.hid ha7
              have HQ7 := Lib.hid hq7
              have HSZ7 := Lib.hid hsz7
              have HIA := Lib.hid (HSI.out.ack (s' := s + (1 + (d : Int))) (by omega) hsn h20)
              clear hwb5 hwz5 hq5 ha5 hsz5 hs7 hz7 hb7 hgc ha7 hq7 hsz7 hown5 hbel5 hg5 e0 c7 c8
              go_wp2
              go_roundw
              case rel => exact ⟨i + 4, { x with acks := x.acks ++ [s + (1 + (d : Int))] }, s + (1 + (d : Int)), _, _, by omega, by go_num, rfl, hsn, HIA.out, HS7.out, HA7.out, HQ7.out, HAT.out, HZ7.out, HB7.out, HSZ7.out, hlt.2⟩
              case measure => simp [intOf]; omega
          · have q5 : ¬ (x.acks.length : Int) < 20 := by omega
            by_cases h30 : x.queue.length = 30
            · have q6 : ((x.queue.length : Int) == 30) = true := by rw [h30]; rfl
              clear h30
              have hsz := HLT.out
              have hrA := HAV.out.rl
              have hrQ := HQV.out.rl
              have hfrz := HBX.out
              have hbx := HBX.out
              have hr9 := hbx.range
              have hone := sub_all x (rl_one hrA) (rl_one hrQ)
              have HR9 := Lib.hid hr9
              have HON := Lib.hid hone
              clear hfrz hbx hr9 hone hrA hrQ
              go_wp2_with (first
                | (refine wpList_load_midG (by rfl) 27 (.tmp 9) rfl b 0 rfl _ _ HR9.out Tryd.underlying27 rfl size35 ?_)
                | (refine wpList_store_row rfl 27 (.tmp 8) (.tmp 195) rfl w.heap.size (subC x (.slice Aa x.acks.length ca) (.slice Aq x.queue.length cq)).toArray rfl rfl 27 (subC noSub (.slice none 0 0) (.slice none 0 0)).toArray HZR.out size35 rfl HON.out ?_))
              refine bodyPost_ret (results_cell_row rfl _ _ w.heap.size 27 (subC x (.slice Aa x.acks.length ca) (.slice Aq x.queue.length cq)).toArray (0, 0) _ rfl (HZR.out.set (subC x (.slice Aa x.acks.length ca) (.slice Aq x.queue.length cq))) Tryd.underlying27 rfl size35) rfl ?_
              have hbb := HBB.out
              have hgr := grown_row wr w.heap.size (subC x (.slice Aa x.acks.length ca) (.slice Aq x.queue.length cq)).toArray
              exact ⟨x, (.slice Aa x.acks.length ca), (.slice Aq x.queue.length cq), rfl, (HAV.out.kept hgr (by omega)).rl, OM.rl (own_apart HQV.out hgr (fun k hk => by have := (HQV.out.lt k hk).1; omega)), below_setRow HBW.out (Nat.le_refl _) _, (congrArg Sub.id HSI.out.eq).trans HEQ.out.1, fun h1 h2 => HSI.out.good HBO.out ⟨by rw [HEQ.out.1]; exact h1, by rw [HEQ.out.1]; exact h2⟩, HSI.out.al, HSI.out.ql, fun m hm => ⟨(HSI.out.qs m hm).2.2.2, HAT.out m hm⟩, by rw [HSI.out.eq]; exact HEQ.out.2.2.2.1, by rw [HSI.out.eq]; exact HEQ.out.2.2.2.2.1, by rw [HSI.out.eq]; exact HEQ.out.2.2.2.2.2⟩
            have q6 : ((x.queue.length : Int) == 30) = false := by simp; omega
            have HQL := Lib.hid h30
            clear h30
            go_wp2_with fail
            rename_i K13 h13
            clear e0 c7 c8
            obtain ⟨n1, hn1⟩ : ∃ z, z = (l[i + 1]'(by omega)).toNat := ⟨_, rfl⟩
            obtain ⟨n2, hn2⟩ : ∃ z, z = (l[i + 2]'(by omega)).toNat := ⟨_, rfl⟩
            obtain ⟨n3, hn3⟩ : ∃ z, z = (l[i + 3]'(by omega)).toNat := ⟨_, rfl⟩
            have e1 := HCL.out (i + 1) (by omega)
            have e2 := HCL.out (i + 2) (by omega)
            have e3 := HCL.out (i + 3) (by omega)
            unfold bv at e1 e2 e3
            rw [← hn1] at e1
            rw [← hn2] at e2
            rw [← hn3] at e3
            have hl1 : n1 < 256 := by rw [hn1]; exact UInt8.toNat_lt _
            have hl2 : n2 < 256 := by rw [hn2]; exact UInt8.toNat_lt _
            have hl3 : n3 < 256 := by rw [hn3]; exact UInt8.toNat_lt _
            clear hn1 hn2 hn3
            have hbw : bb < wr.heap.size := Nat.lt_of_lt_of_le hbbl HBW.out.size
            refine R13_r (bb := bb) (off := off) (n := l.length) (cc := cc) (s := (s + (1 + (d : Int)))) (i := i) (z1 := n1) (z2 := n2) (B := wr.heap.size) rfl rfl rfl rfl hg3 (by omega) hl1 hl2 hbw e1 e2 rfl ?_
            intro a b2 W hsz hdf h12 hr hb2 hbel hwm
            have T : TF [.slice (some ⟨bb, off, none⟩) l.length cc, .int .i64 id, .int .i64 clock, .int .i64 next, undef, undef, undef, undef, .pointer (some ⟨w.heap.size, 0, none⟩), .pointer (some ⟨b, 0, none⟩), undef, undef, undef, v13, v14, v15, v16, v17, v18, v19, v20, v21, v22, v23, v24, v25, v26, v27, v28, v29, v30, v31, v32, v33, v34, v35, v36, v37, v38, v39, v40, v41, v42, .agg (subC (sub0 l id next) (.slice none 0 0) (.slice none 0 0)).toArray, u44, u45, u46, u47, u48, u49, u50, .pointer (some ⟨b, 6, none⟩), .int .i64 base.floor] a (s + (1 + (d : Int))) i := TF.keep hsz hdf hr ⟨rfl, rfl, rfl, rfl, rfl, rfl⟩
            have M : MFs w W4 wr b b2 x (.slice Aa x.acks.length ca) (.slice Aq x.queue.length cq) W (m0 (s + (1 + (d : Int))) n1 n2) := ⟨hwm, HBX.out.below hbel, own_below HAV.out hbel, own_below HQV.out hbel, HZR.out.below hbel, HBW.out.trans (hbel.mono HBW.out.size), Nat.le_trans HLT.out.1 hbel.size, hbel, hb2, HBX.out.lt, HZR.out.lt, own_lt HAV.out, own_lt HQV.out⟩
            clear hsz hdf hr hbel hwm
            refine h13 _ _ ?_
            clear h13
            refine wp_seq_k (fun KP hP => ?_)
            have HE1 := Lib.hid (fun W' (h : Below wr.heap.size wr W') => (h.cell (p := ⟨bb, off + (i + 1), none⟩) hbw).trans e1)
            have HE2 := Lib.hid (fun W' (h : Below wr.heap.size wr W') => (h.cell (p := ⟨bb, off + (i + 2), none⟩) hbw).trans e2)
            have HE3 := Lib.hid (fun W' (h : Below wr.heap.size wr W') => (h.cell (p := ⟨bb, off + (i + 3), none⟩) hbw).trans e3)
            clear e1 e2 e3
            have hi1 : ((i : Int) + 1).toNat = i + 1 := by omega
            have hi2 : ((i : Int) + 2).toNat = i + 2 := by omega
            have hi3 : ((i : Int) + 3).toNat = i + 3 := by omega
            have PRI : ∀ (a : Act) (m : Msg) (W : World), TF [.slice (some ⟨bb, off, none⟩) l.length cc, .int .i64 id, .int .i64 clock, .int .i64 next, undef, undef, undef, undef, .pointer (some ⟨w.heap.size, 0, none⟩), .pointer (some ⟨b, 0, none⟩), undef, undef, undef, v13, v14, v15, v16, v17, v18, v19, v20, v21, v22, v23, v24, v25, v26, v27, v28, v29, v30, v31, v32, v33, v34, v35, v36, v37, v38, v39, v40, v41, v42, .agg (subC (sub0 l id next) (.slice none 0 0) (.slice none 0 0)).toArray, u44, u45, u46, u47, u48, u49, u50, .pointer (some ⟨b, 6, none⟩), .int .i64 base.floor] a (s + (1 + (d : Int))) i → a.tmps.getD 12 undef = .pointer (some ⟨b2, 0, none⟩) → MFs w W4 wr b b2 x (.slice Aa x.acks.length ca) (.slice Aq x.queue.length cq) W m → (∃ p, 0 ≤ p ∧ p ≤ 9 ∧ m = { m0 (s + (1 + (d : Int))) n1 n2 with prio := p }) → KP a W := by
              clear M T h12 a W
              rintro a m W T h12 M ⟨p, hp1, hp2, rfl⟩
              refine hP _ _ ?_
              clear hP
              refine wp_seq_k (fun KE hE => ?_)
              have END : ∀ (a : Act) (m : Msg) (W : World), TF [.slice (some ⟨bb, off, none⟩) l.length cc, .int .i64 id, .int .i64 clock, .int .i64 next, undef, undef, undef, undef, .pointer (some ⟨w.heap.size, 0, none⟩), .pointer (some ⟨b, 0, none⟩), undef, undef, undef, v13, v14, v15, v16, v17, v18, v19, v20, v21, v22, v23, v24, v25, v26, v27, v28, v29, v30, v31, v32, v33, v34, v35, v36, v37, v38, v39, v40, v41, v42, .agg (subC (sub0 l id next) (.slice none 0 0) (.slice none 0 0)).toArray, u44, u45, u46, u47, u48, u49, u50, .pointer (some ⟨b, 6, none⟩), .int .i64 base.floor] a (s + (1 + (d : Int))) i → a.tmps.getD 12 undef = .pointer (some ⟨b2, 0, none⟩) → MFs w W4 wr b b2 x (.slice Aa x.acks.length ca) (.slice Aq x.queue.length cq) W m → m.seq = (s + (1 + (d : Int))) → m.attr.length ≤ 30 → msgB m base.lease base.most clock = true → m.til ≤ 1000000000 → KE a W := by
                clear M T h12 a W
                intro a m W T h12 M hms hma hmb hmt
                refine hE _ _ ?_
                clear hE
                refine TF.elim (motive := fun a => Code.wp _ _ _ a _) T h12 ?_
                intro y53 y54 y55 y56 y57 y58 y59 y60 y61 y62 y63 y64 y65 y66 y67 y68 y69 y70 y71 y72 y73 y74 y75 y76 y77 y78 y79 y80 y81 y82 y83 y84 y85 y86 y87 y88 y89 y90 y91 y92 y93 y94 y95 y96 y97 y98 y99 y100 y101 y102 y103 y104 y105 y106 y107 y108 y109 y110 y111 y112 y113 y114 y115 y116 y117 y118 y119 y120 y121 y122 y123 y124 y125 y126 y127 y128 y129 y130 y131 y132 y133 y134 y135 y136 y137 y138 y139 y140 y141 y142 y143 y144 y145 y146 y147 y148 y149 y150 y151 y152 y153 y154 y155 y156 y157 y158 y159 y160 y161 y162 y163 y164 y165 y166 y167 y168 y169 y170 y171 y172 y173 y174 y175 y176 y177 y178 y179 y180 y181 y182 y183 y184 y185 y186 y187 y188 y189 y190 y191 y192 y193 y194
                clear T h12 a
                simp only [List.set_cons_succ, List.set_cons_zero, List.cons_append, List.nil_append]
                have hql : x.queue.length < 30 := by have := HSI.out.ql; have := HQL.out; omega
                have HQ3 := Lib.hid hql
                have c8 := M.fx.bx.cell (i := 8) (by simp [subC])
                simp only [subC, List.getElem_cons_succ, List.getElem_cons_zero] at c8
                have HRM := Lib.hid M.fm.range
                have HOQ := Lib.hid M.fq
                have HOA := Lib.hid M.fa
                have HMM := Lib.hid M
                have HPR := Lib.hid (And.intro hms (And.intro hma (And.intro hmb hmt)))
                have hml := msg_one m
                obtain ⟨seq, body, attr, tries, til, dead, why, prio⟩ := m
                simp only [msgC] at HRM hml
                have HSR := Lib.hid (fun (u : World) => src_cells (P := Tryd.prog) u rfl Tryd.underlying25 45 [.int .i64 seq, sv body, sv attr, .int .i64 tries, .int .i64 til, .bool dead, sv why, .int .i64 prio] hml)
                have HBW2 := Lib.hid M.fl
                clear M hms hma hmb hmt hml
                go_wp2_with (first
                  | (refine wpList_load_midG (by rfl) 45 (.tmp 12) rfl b2 0 rfl _ _ HRM.out Tryd.underlying45 rfl size57 ?_)
                  | (at_builtin; refine wpList_own rfl (.tmp 190) (.tmp 192) 25 25 rfl W4.heap.size 45 (.agg #[.int .i64 0, .string .empty, .string .empty, .int .i64 0, .int .i64 0, .bool false, .string .empty, .int .i64 0]) 8 88 Tryd.underlying25 infoMsg rfl rfl (World.ownsRow.alloc HOQ.out _) rfl (HSR.out W) (HBW2.out.alloc HBW2.out.size _) ?_ ?_ ?_ ?_ ?_))
                · have := HLT.out; have := HBB.out; omega
                · unfold maxLen; have := HQ3.out; omega
                · have := HQ3.out; omega
                · have := HMM.out.fs; simp; omega
                · intro v8 w8 hown8 hbel8 hg8
                  have hbb := HBB.out
                  have hlt := HLT.out
                  have hbl := HMM.out.bl
                  have hbo : ∀ k, (Value.slice Aq x.queue.length cq).ownBlock = some k → W4.heap.size ≤ k := fun k hk => (HOQ.out.lt k hk).1
                  have hwb8 : Wh w8 b (subC x (.slice Aa x.acks.length ca) (.slice Aq x.queue.length cq)) 27 := (HMM.out.fx.alloc _).kept hg8 (fun e => by have := hbo b e.symm; omega)
                  have hwz8 : Wh w8 w.heap.size (subC noSub (.slice none 0 0) (.slice none 0 0)) 27 := (HMM.out.fz.alloc _).kept hg8 (fun e => by have := hbo _ e.symm; omega)
                  have ha8 : OI W4.heap.size w8 (.slice Aa x.acks.length ca) x.acks := own_two (World.ownsRow.alloc HOA.out _) (World.ownsRow.alloc HOQ.out _) (by decide) hg8
                  have hq8 : OM W4.heap.size w8 v8 (x.queue ++ [⟨seq, body, attr, tries, til, dead, why, prio⟩]) := by
                    unfold OM
                    rw [List.length_append, List.map_append, List.flatten_append]
                    exact hown8
                  have hsz8 : W4.heap.size ≤ w8.heap.size := by have := hg8.size; have := HMM.out.fs; simp at *; omega
                  have hgt8 : ∀ k, v8.ownBlock = some k → W4.heap.size ≤ k := fun k hk => (hown8.lt k hk).1
                  obtain ⟨A8, c8', rfl, _⟩ := own_shape hown8
                  have f8 := hwb8.frozen 8
                  have c88 := hwb8.bx.cell (i := 8) (by simp [subC])
                  simp only [subC, List.getElem_cons_succ, List.getElem_cons_zero] at c88
                  have hs8 := hwb8.set1 8 (.slice A8 (x.queue.length + 1) c8')
                  simp only [subC, List.set_cons_succ, List.set_cons_zero] at hs8
                  have hz8 := hwz8.set1Other (k := b) (by omega) 8 (.slice A8 (x.queue.length + 1) c8')
                  have hb8 := hbel8.setCell (p := ⟨b, 8, none⟩) (show w.heap.size ≤ b by omega) (.slice A8 (x.queue.length + 1) c8')
                  have hgc := grown_cell w8 b 8 (.slice A8 (x.queue.length + 1) c8')
                  have ha9 := ha8.kept hgc (by omega)
                  have hq9 : OM W4.heap.size _ (.slice A8 (x.queue.length + 1) c8') (x.queue ++ [⟨seq, body, attr, tries, til, dead, why, prio⟩]) := own_apart hq8 hgc (fun k hk => by have := hgt8 k hk; omega)
                  have hsz9 := Nat.le_trans hsz8 hgc.size
                  have HS8 := Lib.hid hs8
                  have HZ8 := Lib.hid hz8
                  have HB8 := Lib.hid hb8
                  have HA8 := Lib.hid ha9
                  have HQ8 := Lib.hid hq9
                  have HSZ8 := Lib.hid hsz9
                  have HIM := Lib.hid (HSI.out.msg (s' := (s + (1 + (d : Int)))) (m := ⟨seq, body, attr, tries, til, dead, why, prio⟩) (by omega) hsn HQ3.out HPR.out.1 HPR.out.2.2.1 HPR.out.2.2.2)
                  have hat2 : ∀ m ∈ x.queue ++ [(⟨seq, body, attr, tries, til, dead, why, prio⟩ : Msg)], m.attr.length ≤ 30 := (fun m hm => by
                    rcases List.mem_append.1 hm with e | e
                    · exact HAT.out m e
                    · rw [List.mem_singleton.1 e]; exact HPR.out.2.1)
                  have HAT2 := Lib.hid hat2
                  clear hat2
                  clear hwb8 hwz8 ha8 hq8 hsz8 hgt8 hs8 hz8 hb8 hgc ha9 hq9 hsz9 hown8 hbel8 hg8 c8 hbo
                  go_wp2
                  go_roundw
                  case rel => exact ⟨i + 4, { x with queue := x.queue ++ [⟨seq, body, attr, tries, til, dead, why, prio⟩] }, (s + (1 + (d : Int))), _, _, by omega, by go_num, rfl, hsn, HIM.out, HS8.out, HA8.out, HQ8.out, HAT2.out, HZ8.out, HB8.out, HSZ8.out, hlt.2⟩
                  case measure => simp [intOf]; omega
              clear hE
              have e3 := HE3.out W M.fc
              have hbr := HB1.out
              have cm5 := M.fx.bx.cell (i := 5) (by simp [subC])
              have cm4 := M.fx.bx.cell (i := 4) (by simp [subC])
              simp only [subC, List.getElem_cons_succ, List.getElem_cons_zero] at cm5 cm4
              have xm : x.most = base.most := by have e := HSI.out.eq; rw [e]
              have xl : x.lease = base.lease := by have e := HSI.out.eq; rw [e]
              rw [xm] at cm5
              rw [xl] at cm4
              have hbW := Nat.lt_of_lt_of_le hbw M.fc.size
              have hbX := M.fx.lt
              obtain ⟨mo, hmo⟩ : ∃ mo, mo = base.most := ⟨_, rfl⟩
              obtain ⟨le, hle⟩ : ∃ le, le = base.lease := ⟨_, rfl⟩
              rw [← hmo, ← hle] at hbr
              rw [← hmo] at cm5
              rw [← hle] at cm4
              rw [← hmo, ← hle] at END
              obtain ⟨⟨hl1', hl2'⟩, hm1', hm2'⟩ := hbr
              have XM := Lib.hid xm
              have XL := Lib.hid xl
              clear xm xl
              have HM := Lib.hid M
              have g0 : (n3 : Int).tmod 4 = (n3 : Int) % 4 := Int.tmod_eq_emod_of_nonneg (by omega)
              have md0 := Int.emod_nonneg (n3 : Int) (show mo ≠ 0 by omega)
              have md1 := Int.emod_lt_of_pos (n3 : Int) (show 0 < mo by omega)
              have md2 := Int.emod_nonneg (n1 : Int) (show le ≠ 0 by omega)
              have md3 := Int.emod_lt_of_pos (n1 : Int) (show 0 < le by omega)
              refine TF.elim (motive := fun a => Code.wp _ _ _ a _) T h12 ?_
              intro y53 y54 y55 y56 y57 y58 y59 y60 y61 y62 y63 y64 y65 y66 y67 y68 y69 y70 y71 y72 y73 y74 y75 y76 y77 y78 y79 y80 y81 y82 y83 y84 y85 y86 y87 y88 y89 y90 y91 y92 y93 y94 y95 y96 y97 y98 y99 y100 y101 y102 y103 y104 y105 y106 y107 y108 y109 y110 y111 y112 y113 y114 y115 y116 y117 y118 y119 y120 y121 y122 y123 y124 y125 y126 y127 y128 y129 y130 y131 y132 y133 y134 y135 y136 y137 y138 y139 y140 y141 y142 y143 y144 y145 y146 y147 y148 y149 y150 y151 y152 y153 y154 y155 y156 y157 y158 y159 y160 y161 y162 y163 y164 y165 y166 y167 y168 y169 y170 y171 y172 y173 y174 y175 y176 y177 y178 y179 y180 y181 y182 y183 y184 y185 y186 y187 y188 y189 y190 y191 y192 y193 y194
              clear T h12 a M
              simp only [List.set_cons_succ, List.set_cons_zero, List.cons_append, List.nil_append]
              have hq4 : (n3 : Int) % 4 = 0 ∨ (n3 : Int) % 4 = 1 ∨ (n3 : Int) % 4 = 2 ∨ (n3 : Int) % 4 = 3 := by omega
              rcases hq4 with g | g | g | g
              · rw [g] at g0
                go_wp2_with fail
                refine R18_r (bb := bb) (off := off) (n := l.length) (cc := cc) (b := b) (b2 := b2) (i := i) (z := n3) (mo := mo) rfl rfl rfl rfl rfl hg3 (by omega) hl3 hbW hbX e3 cm5 hm1' (by omega) HM.out.fm ?_
                intro a W2 hsz hdf hr hbel
                have M3 := (HM.out.below hbel).set1 3 (.int .i64 ((n3 : Int) % mo)) (m' := { m0 (s + (1 + (d : Int))) n1 n2 with prio := p, tries := (n3 : Int) % mo }) rfl
                have T3 : TF [.slice (some ⟨bb, off, none⟩) l.length cc, .int .i64 id, .int .i64 clock, .int .i64 next, undef, undef, undef, undef, .pointer (some ⟨w.heap.size, 0, none⟩), .pointer (some ⟨b, 0, none⟩), undef, undef, undef, v13, v14, v15, v16, v17, v18, v19, v20, v21, v22, v23, v24, v25, v26, v27, v28, v29, v30, v31, v32, v33, v34, v35, v36, v37, v38, v39, v40, v41, v42, .agg (subC (sub0 l id next) (.slice none 0 0) (.slice none 0 0)).toArray, u44, u45, u46, u47, u48, u49, u50, .pointer (some ⟨b, 6, none⟩), .int .i64 base.floor] a (s + (1 + (d : Int))) i := TF.keep hsz hdf (fun d h _ => hr d h) ⟨rfl, rfl, rfl, rfl, rfl, rfl⟩
                have h12 : a.tmps.getD 12 undef = .pointer (some ⟨b2, 0, none⟩) := (hr 12 (by omega)).trans rfl
                have G := END _ _ _ T3 h12 M3 rfl (att3_len _) (msg_fresh (s + (1 + (d : Int))) n1 n2 p _ le mo clock hp1 hp2 md0 md1) (show (0 : Int) ≤ 1000000000 by omega)
                clear END M3 T3 h12 hsz hdf hr hbel
                first | exact G | (go_wp2_with fail; exact G)
              · rw [g] at g0
                go_wp2_with fail
                rename_i K20 h20
                refine R20_r (bb := bb) (off := off) (n := l.length) (cc := cc) (b := b) (b2 := b2) (i := i) (z := n3) (mo := mo) rfl rfl rfl rfl rfl hg3 (by omega) hl3 hbW hbX e3 cm5 hm1' (by omega) md0 md1 HM.out.fm ?_
                intro a W2 hsz hdf hr hbel
                have M3 := (HM.out.below hbel).set1 3 (.int .i64 (1 + (n3 : Int) % mo)) (m' := { m0 (s + (1 + (d : Int))) n1 n2 with prio := p, tries := 1 + (n3 : Int) % mo }) rfl
                have T3 : TF [.slice (some ⟨bb, off, none⟩) l.length cc, .int .i64 id, .int .i64 clock, .int .i64 next, undef, undef, undef, undef, .pointer (some ⟨w.heap.size, 0, none⟩), .pointer (some ⟨b, 0, none⟩), undef, undef, undef, v13, v14, v15, v16, v17, v18, v19, v20, v21, v22, v23, v24, v25, v26, v27, v28, v29, v30, v31, v32, v33, v34, v35, v36, v37, v38, v39, v40, v41, v42, .agg (subC (sub0 l id next) (.slice none 0 0) (.slice none 0 0)).toArray, u44, u45, u46, u47, u48, u49, u50, .pointer (some ⟨b, 6, none⟩), .int .i64 base.floor] a (s + (1 + (d : Int))) i := TF.keep hsz hdf (fun d h _ => hr d h) ⟨rfl, rfl, rfl, rfl, rfl, rfl⟩
                have h12 : a.tmps.getD 12 undef = .pointer (some ⟨b2, 0, none⟩) := (hr 12 (by omega)).trans rfl
                refine h20 _ _ ?_
                have e1 := HE1.out _ M3.fc
                have cm4' := M3.fx.bx.cell (i := 4) (by simp [subC])
                simp only [subC, List.getElem_cons_succ, List.getElem_cons_zero] at cm4'
                rw [XL.out, ← hle] at cm4'
                refine R21_r (bb := bb) (off := off) (n := l.length) (cc := cc) (b := b) (b2 := b2) (i := i) (z := n1) (mo := le) (clock := clock) T3.size ((T3.get (by omega) (by omega) (by omega) (by omega)).trans rfl) ((T3.get (by omega) (by omega) (by omega) (by omega)).trans rfl) T3.t11 h12 hg3 (by omega) hl1 (Nat.lt_of_lt_of_le hbw M3.fc.size) M3.fx.lt e1 cm4' hl1' hl2' md2 md3 hc0 hc2 ((T3.get (by omega) (by omega) (by omega) (by omega)).trans rfl) M3.fm ?_
                intro a4 W5 hsz4 hdf4 hr4 hbel4
                have M4 := (M3.below hbel4).set1 4 (.int .i64 (clock + 1 + (n1 : Int) % le)) (m' := { m0 (s + (1 + (d : Int))) n1 n2 with prio := p, tries := 1 + (n3 : Int) % mo, til := clock + 1 + (n1 : Int) % le }) rfl
                have T4 : TF [.slice (some ⟨bb, off, none⟩) l.length cc, .int .i64 id, .int .i64 clock, .int .i64 next, undef, undef, undef, undef, .pointer (some ⟨w.heap.size, 0, none⟩), .pointer (some ⟨b, 0, none⟩), undef, undef, undef, v13, v14, v15, v16, v17, v18, v19, v20, v21, v22, v23, v24, v25, v26, v27, v28, v29, v30, v31, v32, v33, v34, v35, v36, v37, v38, v39, v40, v41, v42, .agg (subC (sub0 l id next) (.slice none 0 0) (.slice none 0 0)).toArray, u44, u45, u46, u47, u48, u49, u50, .pointer (some ⟨b, 6, none⟩), .int .i64 base.floor] a4 (s + (1 + (d : Int))) i := TF.keep hsz4 hdf4 (fun d h _ => hr4 d h) T3
                have h124 : a4.tmps.getD 12 undef = .pointer (some ⟨b2, 0, none⟩) := (hr4 12 (by omega)).trans h12
                have G := END _ _ _ T4 h124 M4 rfl (att3_len _) (msg_out (s + (1 + (d : Int))) n1 n2 p _ _ le mo clock hp1 hp2 (by omega) (by omega) hc0 (by omega) (by omega) (by omega)) (show clock + 1 + (n1 : Int) % le ≤ 1000000000 by omega)
                clear END M3 T3 h12 hsz hdf hr hbel M4 T4 h124 hsz4 hdf4 hr4 hbel4 e1 cm4'
                first | exact G | (go_wp2_with fail; exact G)
              · rw [g] at g0
                have hne : b ≠ b2 := by have := HM.out.bl; have := HM.out.fb; omega
                have HMO := Lib.hid hmo
                clear hmo
                have f3 := HM.out.fm.frozen 3
                have f5 := HM.out.fm.frozen 5
                have f6 := HM.out.fm.frozen 6
                have c3 := HM.out.fm.bx.cell (i := 3) (by simp [msgC])
                have c5 := HM.out.fm.bx.cell (i := 5) (by simp [msgC])
                have c6 := HM.out.fm.bx.cell (i := 6) (by simp [msgC])
                simp only [msgC, List.getElem_cons_succ, List.getElem_cons_zero] at c5 c3 c6
                have e1 := HE1.out W HM.out.fc
                have M1 := HM.out.set1 5 (.bool true) (m' := { m0 (s + (1 + (d : Int))) n1 n2 with prio := p, dead := true }) rfl
                have M2 := M1.set1 3 (.int .i64 mo) (m' := { m0 (s + (1 + (d : Int))) n1 n2 with prio := p, dead := true, tries := mo }) rfl
                have M3 := M2.below ((Below.refl _ _).alloc (Nat.le_refl _) (.cells #[.string ⟨#[110, 97, 99, 107]⟩, .string ⟨#[116, 105, 109, 101]⟩] 9))
                have hb2W : b2 < W.heap.size := HM.out.fm.lt
                have f66 := M3.fm.frozen 6
                have c66 := M3.fm.bx.cell (i := 6) (by simp [msgC])
                simp only [msgC, List.getElem_cons_succ, List.getElem_cons_zero] at c66
                have k0 : (n1 : Int).tmod 2 = (n1 : Int) % 2 := Int.tmod_eq_emod_of_nonneg (by omega)
                have HMa := Lib.hid ((M2.set1 6 (.string ⟨#[110, 97, 99, 107]⟩) (m' := { m0 (s + (1 + (d : Int))) n1 n2 with prio := p, dead := true, tries := mo, why := [110, 97, 99, 107] }) rfl).below ((Below.refl _ _).alloc (Nat.le_refl _) (.cells #[.string ⟨#[110, 97, 99, 107]⟩, .string ⟨#[116, 105, 109, 101]⟩] 9)))
                have HMb := Lib.hid ((M2.set1 6 (.string ⟨#[116, 105, 109, 101]⟩) (m' := { m0 (s + (1 + (d : Int))) n1 n2 with prio := p, dead := true, tries := mo, why := [116, 105, 109, 101] }) rfl).below ((Below.refl _ _).alloc (Nat.le_refl _) (.cells #[.string ⟨#[110, 97, 99, 107]⟩, .string ⟨#[116, 105, 109, 101]⟩] 9)))
                clear M1 M2 M3
                have hk2 : (n1 : Int) % 2 = 0 ∨ (n1 : Int) % 2 = 1 := by omega
                rcases hk2 with k | k
                · rw [k] at k0
                  go_wp2_with fail
                  exact END _ _ _ ⟨rfl, rfl, rfl, rfl, rfl, rfl⟩ rfl HMa.out rfl (att3_len _) (msg_dead (s + (1 + (d : Int))) n1 n2 p le mo clock _ (Or.inl rfl) hp1 hp2) (show (0 : Int) ≤ 1000000000 by omega)
                · rw [k] at k0
                  go_wp2_with fail
                  exact END _ _ _ ⟨rfl, rfl, rfl, rfl, rfl, rfl⟩ rfl HMb.out rfl (att3_len _) (msg_dead (s + (1 + (d : Int))) n1 n2 p le mo clock _ (Or.inr rfl) hp1 hp2) (show (0 : Int) ≤ 1000000000 by omega)
              · rw [g] at g0
                go_wp2_with fail
                exact END _ _ _ ⟨rfl, rfl, rfl, rfl, rfl, rfl⟩ rfl HM.out rfl (att3_len _) (msg_fresh (s + (1 + (d : Int))) n1 n2 p 0 le mo clock hp1 hp2 (by omega) (by omega)) (show (0 : Int) ≤ 1000000000 by omega)
            clear hP
            refine TF.elim (motive := fun a => Code.wp _ _ _ a _) T h12 ?_
            intro y53 y54 y55 y56 y57 y58 y59 y60 y61 y62 y63 y64 y65 y66 y67 y68 y69 y70 y71 y72 y73 y74 y75 y76 y77 y78 y79 y80 y81 y82 y83 y84 y85 y86 y87 y88 y89 y90 y91 y92 y93 y94 y95 y96 y97 y98 y99 y100 y101 y102 y103 y104 y105 y106 y107 y108 y109 y110 y111 y112 y113 y114 y115 y116 y117 y118 y119 y120 y121 y122 y123 y124 y125 y126 y127 y128 y129 y130 y131 y132 y133 y134 y135 y136 y137 y138 y139 y140 y141 y142 y143 y144 y145 y146 y147 y148 y149 y150 y151 y152 y153 y154 y155 y156 y157 y158 y159 y160 y161 y162 y163 y164 y165 y166 y167 y168 y169 y170 y171 y172 y173 y174 y175 y176 y177 y178 y179 y180 y181 y182 y183 y184 y185 y186 y187 y188 y189 y190 y191 y192 y193 y194
            clear T h12 a
            simp only [List.set_cons_succ, List.set_cons_zero, List.cons_append, List.nil_append]
            have e2 := HE2.out W M.fc
            by_cases h128 : 128 < n2
            · have q7 : (128 : Int) < (n2 : Int) := by omega
              obtain ⟨p, hp⟩ : ∃ p, p = n2 % 10 := ⟨_, rfl⟩
              have g1 : (n2 : Int).tmod 10 = (p : Int) := by rw [Int.tmod_eq_emod_of_nonneg (by omega), hp]; omega
              have g2 : (n2 : Int) % 10 = (p : Int) := by rw [hp]; omega
              have hp9 : p ≤ 9 := by omega
              have f7 := M.fm.frozen 7
              have c7 := M.fm.bx.cell (i := 7) (by simp [msgC])
              simp only [msgC, List.getElem_cons_succ, List.getElem_cons_zero] at c7
              have HM2 := Lib.hid (M.set1 7 (.int .i64 (p : Int)) (m' := { m0 (s + (1 + (d : Int))) n1 n2 with prio := (p : Int) }) rfl)
              have HP := Lib.hid hp
              clear M hp
              go_wp2_with fail
              exact PRI _ _ _ ⟨rfl, rfl, rfl, rfl, rfl, rfl⟩ rfl HM2.out ⟨p, by omega, by omega, rfl⟩
            · have q7 : ¬ (128 : Int) < (n2 : Int) := by omega
              have HM2 := Lib.hid M
              clear M
              go_wp2_with fail
              exact PRI _ _ _ ⟨rfl, rfl, rfl, rfl, rfl, rfl⟩ rfl HM2.out ⟨0, by omega, by omega, rfl⟩
        · have q4 : ¬ (200 : Int) < (z0.toNat : Int) := by omega
          by_cases h30 : x.queue.length = 30
          · have q6 : ((x.queue.length : Int) == 30) = true := by rw [h30]; rfl
            clear h30
            have hsz := HLT.out
            have hrA := HAV.out.rl
            have hrQ := HQV.out.rl
            have hfrz := HBX.out
            have hbx := HBX.out
            have hr9 := hbx.range
            have hone := sub_all x (rl_one hrA) (rl_one hrQ)
            have HR9 := Lib.hid hr9
            have HON := Lib.hid hone
            clear hfrz hbx hr9 hone hrA hrQ
            go_wp2_with (first
              | (refine wpList_load_midG (by rfl) 27 (.tmp 9) rfl b 0 rfl _ _ HR9.out Tryd.underlying27 rfl size35 ?_)
              | (refine wpList_store_row rfl 27 (.tmp 8) (.tmp 195) rfl w.heap.size (subC x (.slice Aa x.acks.length ca) (.slice Aq x.queue.length cq)).toArray rfl rfl 27 (subC noSub (.slice none 0 0) (.slice none 0 0)).toArray HZR.out size35 rfl HON.out ?_))
            refine bodyPost_ret (results_cell_row rfl _ _ w.heap.size 27 (subC x (.slice Aa x.acks.length ca) (.slice Aq x.queue.length cq)).toArray (0, 0) _ rfl (HZR.out.set (subC x (.slice Aa x.acks.length ca) (.slice Aq x.queue.length cq))) Tryd.underlying27 rfl size35) rfl ?_
            have hbb := HBB.out
            have hgr := grown_row wr w.heap.size (subC x (.slice Aa x.acks.length ca) (.slice Aq x.queue.length cq)).toArray
            exact ⟨x, (.slice Aa x.acks.length ca), (.slice Aq x.queue.length cq), rfl, (HAV.out.kept hgr (by omega)).rl, OM.rl (own_apart HQV.out hgr (fun k hk => by have := (HQV.out.lt k hk).1; omega)), below_setRow HBW.out (Nat.le_refl _) _, (congrArg Sub.id HSI.out.eq).trans HEQ.out.1, fun h1 h2 => HSI.out.good HBO.out ⟨by rw [HEQ.out.1]; exact h1, by rw [HEQ.out.1]; exact h2⟩, HSI.out.al, HSI.out.ql, fun m hm => ⟨(HSI.out.qs m hm).2.2.2, HAT.out m hm⟩, by rw [HSI.out.eq]; exact HEQ.out.2.2.2.1, by rw [HSI.out.eq]; exact HEQ.out.2.2.2.2.1, by rw [HSI.out.eq]; exact HEQ.out.2.2.2.2.2⟩
          have q6 : ((x.queue.length : Int) == 30) = false := by simp; omega
          have HQL := Lib.hid h30
          clear h30
          go_wp2_with fail
          rename_i K13 h13
          clear e0 c7 c8
          obtain ⟨n1, hn1⟩ : ∃ z, z = (l[i + 1]'(by omega)).toNat := ⟨_, rfl⟩
          obtain ⟨n2, hn2⟩ : ∃ z, z = (l[i + 2]'(by omega)).toNat := ⟨_, rfl⟩
          obtain ⟨n3, hn3⟩ : ∃ z, z = (l[i + 3]'(by omega)).toNat := ⟨_, rfl⟩
          have e1 := HCL.out (i + 1) (by omega)
          have e2 := HCL.out (i + 2) (by omega)
          have e3 := HCL.out (i + 3) (by omega)
          unfold bv at e1 e2 e3
          rw [← hn1] at e1
          rw [← hn2] at e2
          rw [← hn3] at e3
          have hl1 : n1 < 256 := by rw [hn1]; exact UInt8.toNat_lt _
          have hl2 : n2 < 256 := by rw [hn2]; exact UInt8.toNat_lt _
          have hl3 : n3 < 256 := by rw [hn3]; exact UInt8.toNat_lt _
          clear hn1 hn2 hn3
          have hbw : bb < wr.heap.size := Nat.lt_of_lt_of_le hbbl HBW.out.size
          refine R13_r (bb := bb) (off := off) (n := l.length) (cc := cc) (s := (s + (1 + (d : Int)))) (i := i) (z1 := n1) (z2 := n2) (B := wr.heap.size) rfl rfl rfl rfl hg3 (by omega) hl1 hl2 hbw e1 e2 rfl ?_
          intro a b2 W hsz hdf h12 hr hb2 hbel hwm
          have T : TF [.slice (some ⟨bb, off, none⟩) l.length cc, .int .i64 id, .int .i64 clock, .int .i64 next, undef, undef, undef, undef, .pointer (some ⟨w.heap.size, 0, none⟩), .pointer (some ⟨b, 0, none⟩), undef, undef, undef, v13, v14, v15, v16, v17, v18, v19, v20, v21, v22, v23, v24, v25, v26, v27, v28, v29, v30, v31, v32, v33, v34, v35, v36, v37, v38, v39, v40, v41, v42, .agg (subC (sub0 l id next) (.slice none 0 0) (.slice none 0 0)).toArray, u44, u45, u46, u47, u48, u49, u50, .pointer (some ⟨b, 6, none⟩), .int .i64 base.floor] a (s + (1 + (d : Int))) i := TF.keep hsz hdf hr ⟨rfl, rfl, rfl, rfl, rfl, rfl⟩
          have M : MFs w W4 wr b b2 x (.slice Aa x.acks.length ca) (.slice Aq x.queue.length cq) W (m0 (s + (1 + (d : Int))) n1 n2) := ⟨hwm, HBX.out.below hbel, own_below HAV.out hbel, own_below HQV.out hbel, HZR.out.below hbel, HBW.out.trans (hbel.mono HBW.out.size), Nat.le_trans HLT.out.1 hbel.size, hbel, hb2, HBX.out.lt, HZR.out.lt, own_lt HAV.out, own_lt HQV.out⟩
          clear hsz hdf hr hbel hwm
          refine h13 _ _ ?_
          clear h13
          refine wp_seq_k (fun KP hP => ?_)
          have HE1 := Lib.hid (fun W' (h : Below wr.heap.size wr W') => (h.cell (p := ⟨bb, off + (i + 1), none⟩) hbw).trans e1)
          have HE2 := Lib.hid (fun W' (h : Below wr.heap.size wr W') => (h.cell (p := ⟨bb, off + (i + 2), none⟩) hbw).trans e2)
          have HE3 := Lib.hid (fun W' (h : Below wr.heap.size wr W') => (h.cell (p := ⟨bb, off + (i + 3), none⟩) hbw).trans e3)
          clear e1 e2 e3
          have hi1 : ((i : Int) + 1).toNat = i + 1 := by omega
          have hi2 : ((i : Int) + 2).toNat = i + 2 := by omega
          have hi3 : ((i : Int) + 3).toNat = i + 3 := by omega
          have PRI : ∀ (a : Act) (m : Msg) (W : World), TF [.slice (some ⟨bb, off, none⟩) l.length cc, .int .i64 id, .int .i64 clock, .int .i64 next, undef, undef, undef, undef, .pointer (some ⟨w.heap.size, 0, none⟩), .pointer (some ⟨b, 0, none⟩), undef, undef, undef, v13, v14, v15, v16, v17, v18, v19, v20, v21, v22, v23, v24, v25, v26, v27, v28, v29, v30, v31, v32, v33, v34, v35, v36, v37, v38, v39, v40, v41, v42, .agg (subC (sub0 l id next) (.slice none 0 0) (.slice none 0 0)).toArray, u44, u45, u46, u47, u48, u49, u50, .pointer (some ⟨b, 6, none⟩), .int .i64 base.floor] a (s + (1 + (d : Int))) i → a.tmps.getD 12 undef = .pointer (some ⟨b2, 0, none⟩) → MFs w W4 wr b b2 x (.slice Aa x.acks.length ca) (.slice Aq x.queue.length cq) W m → (∃ p, 0 ≤ p ∧ p ≤ 9 ∧ m = { m0 (s + (1 + (d : Int))) n1 n2 with prio := p }) → KP a W := by
            clear M T h12 a W
            rintro a m W T h12 M ⟨p, hp1, hp2, rfl⟩
            refine hP _ _ ?_
            clear hP
            refine wp_seq_k (fun KE hE => ?_)
            have END : ∀ (a : Act) (m : Msg) (W : World), TF [.slice (some ⟨bb, off, none⟩) l.length cc, .int .i64 id, .int .i64 clock, .int .i64 next, undef, undef, undef, undef, .pointer (some ⟨w.heap.size, 0, none⟩), .pointer (some ⟨b, 0, none⟩), undef, undef, undef, v13, v14, v15, v16, v17, v18, v19, v20, v21, v22, v23, v24, v25, v26, v27, v28, v29, v30, v31, v32, v33, v34, v35, v36, v37, v38, v39, v40, v41, v42, .agg (subC (sub0 l id next) (.slice none 0 0) (.slice none 0 0)).toArray, u44, u45, u46, u47, u48, u49, u50, .pointer (some ⟨b, 6, none⟩), .int .i64 base.floor] a (s + (1 + (d : Int))) i → a.tmps.getD 12 undef = .pointer (some ⟨b2, 0, none⟩) → MFs w W4 wr b b2 x (.slice Aa x.acks.length ca) (.slice Aq x.queue.length cq) W m → m.seq = (s + (1 + (d : Int))) → m.attr.length ≤ 30 → msgB m base.lease base.most clock = true → m.til ≤ 1000000000 → KE a W := by
              clear M T h12 a W
              intro a m W T h12 M hms hma hmb hmt
              refine hE _ _ ?_
              clear hE
              refine TF.elim (motive := fun a => Code.wp _ _ _ a _) T h12 ?_
              intro y53 y54 y55 y56 y57 y58 y59 y60 y61 y62 y63 y64 y65 y66 y67 y68 y69 y70 y71 y72 y73 y74 y75 y76 y77 y78 y79 y80 y81 y82 y83 y84 y85 y86 y87 y88 y89 y90 y91 y92 y93 y94 y95 y96 y97 y98 y99 y100 y101 y102 y103 y104 y105 y106 y107 y108 y109 y110 y111 y112 y113 y114 y115 y116 y117 y118 y119 y120 y121 y122 y123 y124 y125 y126 y127 y128 y129 y130 y131 y132 y133 y134 y135 y136 y137 y138 y139 y140 y141 y142 y143 y144 y145 y146 y147 y148 y149 y150 y151 y152 y153 y154 y155 y156 y157 y158 y159 y160 y161 y162 y163 y164 y165 y166 y167 y168 y169 y170 y171 y172 y173 y174 y175 y176 y177 y178 y179 y180 y181 y182 y183 y184 y185 y186 y187 y188 y189 y190 y191 y192 y193 y194
              clear T h12 a
              simp only [List.set_cons_succ, List.set_cons_zero, List.cons_append, List.nil_append]
              have hql : x.queue.length < 30 := by have := HSI.out.ql; have := HQL.out; omega
              have HQ3 := Lib.hid hql
              have c8 := M.fx.bx.cell (i := 8) (by simp [subC])
              simp only [subC, List.getElem_cons_succ, List.getElem_cons_zero] at c8
              have HRM := Lib.hid M.fm.range
              have HOQ := Lib.hid M.fq
              have HOA := Lib.hid M.fa
              have HMM := Lib.hid M
              have HPR := Lib.hid (And.intro hms (And.intro hma (And.intro hmb hmt)))
              have hml := msg_one m
              obtain ⟨seq, body, attr, tries, til, dead, why, prio⟩ := m
              simp only [msgC] at HRM hml
              have HSR := Lib.hid (fun (u : World) => src_cells (P := Tryd.prog) u rfl Tryd.underlying25 45 [.int .i64 seq, sv body, sv attr, .int .i64 tries, .int .i64 til, .bool dead, sv why, .int .i64 prio] hml)
              have HBW2 := Lib.hid M.fl
              clear M hms hma hmb hmt hml
              go_wp2_with (first
                | (refine wpList_load_midG (by rfl) 45 (.tmp 12) rfl b2 0 rfl _ _ HRM.out Tryd.underlying45 rfl size57 ?_)
                | (at_builtin; refine wpList_own rfl (.tmp 190) (.tmp 192) 25 25 rfl W4.heap.size 45 (.agg #[.int .i64 0, .string .empty, .string .empty, .int .i64 0, .int .i64 0, .bool false, .string .empty, .int .i64 0]) 8 88 Tryd.underlying25 infoMsg rfl rfl (World.ownsRow.alloc HOQ.out _) rfl (HSR.out W) (HBW2.out.alloc HBW2.out.size _) ?_ ?_ ?_ ?_ ?_))
              · have := HLT.out; have := HBB.out; omega
              · unfold maxLen; have := HQ3.out; omega
              · have := HQ3.out; omega
              · have := HMM.out.fs; simp; omega
              · intro v8 w8 hown8 hbel8 hg8
                have hbb := HBB.out
                have hlt := HLT.out
                have hbl := HMM.out.bl
                have hbo : ∀ k, (Value.slice Aq x.queue.length cq).ownBlock = some k → W4.heap.size ≤ k := fun k hk => (HOQ.out.lt k hk).1
                have hwb8 : Wh w8 b (subC x (.slice Aa x.acks.length ca) (.slice Aq x.queue.length cq)) 27 := (HMM.out.fx.alloc _).kept hg8 (fun e => by have := hbo b e.symm; omega)
                have hwz8 : Wh w8 w.heap.size (subC noSub (.slice none 0 0) (.slice none 0 0)) 27 := (HMM.out.fz.alloc _).kept hg8 (fun e => by have := hbo _ e.symm; omega)
                have ha8 : OI W4.heap.size w8 (.slice Aa x.acks.length ca) x.acks := own_two (World.ownsRow.alloc HOA.out _) (World.ownsRow.alloc HOQ.out _) (by decide) hg8
                have hq8 : OM W4.heap.size w8 v8 (x.queue ++ [⟨seq, body, attr, tries, til, dead, why, prio⟩]) := by
                  unfold OM
                  rw [List.length_append, List.map_append, List.flatten_append]
                  exact hown8
                have hsz8 : W4.heap.size ≤ w8.heap.size := by have := hg8.size; have := HMM.out.fs; simp at *; omega
                have hgt8 : ∀ k, v8.ownBlock = some k → W4.heap.size ≤ k := fun k hk => (hown8.lt k hk).1
                obtain ⟨A8, c8', rfl, _⟩ := own_shape hown8
                have f8 := hwb8.frozen 8
                have c88 := hwb8.bx.cell (i := 8) (by simp [subC])
                simp only [subC, List.getElem_cons_succ, List.getElem_cons_zero] at c88
                have hs8 := hwb8.set1 8 (.slice A8 (x.queue.length + 1) c8')
                simp only [subC, List.set_cons_succ, List.set_cons_zero] at hs8
                have hz8 := hwz8.set1Other (k := b) (by omega) 8 (.slice A8 (x.queue.length + 1) c8')
                have hb8 := hbel8.setCell (p := ⟨b, 8, none⟩) (show w.heap.size ≤ b by omega) (.slice A8 (x.queue.length + 1) c8')
                have hgc := grown_cell w8 b 8 (.slice A8 (x.queue.length + 1) c8')
                have ha9 := ha8.kept hgc (by omega)
                have hq9 : OM W4.heap.size _ (.slice A8 (x.queue.length + 1) c8') (x.queue ++ [⟨seq, body, attr, tries, til, dead, why, prio⟩]) := own_apart hq8 hgc (fun k hk => by have := hgt8 k hk; omega)
                have hsz9 := Nat.le_trans hsz8 hgc.size
                have HS8 := Lib.hid hs8
                have HZ8 := Lib.hid hz8
                have HB8 := Lib.hid hb8
                have HA8 := Lib.hid ha9
                have HQ8 := Lib.hid hq9
                have HSZ8 := Lib.hid hsz9
                have HIM := Lib.hid (HSI.out.msg (s' := (s + (1 + (d : Int)))) (m := ⟨seq, body, attr, tries, til, dead, why, prio⟩) (by omega) hsn HQ3.out HPR.out.1 HPR.out.2.2.1 HPR.out.2.2.2)
                have hat2 : ∀ m ∈ x.queue ++ [(⟨seq, body, attr, tries, til, dead, why, prio⟩ : Msg)], m.attr.length ≤ 30 := (fun m hm => by
                  rcases List.mem_append.1 hm with e | e
                  · exact HAT.out m e
                  · rw [List.mem_singleton.1 e]; exact HPR.out.2.1)
                have HAT2 := Lib.hid hat2
                clear hat2
                clear hwb8 hwz8 ha8 hq8 hsz8 hgt8 hs8 hz8 hb8 hgc ha9 hq9 hsz9 hown8 hbel8 hg8 c8 hbo
                go_wp2
                go_roundw
                case rel => exact ⟨i + 4, { x with queue := x.queue ++ [⟨seq, body, attr, tries, til, dead, why, prio⟩] }, (s + (1 + (d : Int))), _, _, by omega, by go_num, rfl, hsn, HIM.out, HS8.out, HA8.out, HQ8.out, HAT2.out, HZ8.out, HB8.out, HSZ8.out, hlt.2⟩
                case measure => simp [intOf]; omega
            clear hE
            have e3 := HE3.out W M.fc
            have hbr := HB1.out
            have cm5 := M.fx.bx.cell (i := 5) (by simp [subC])
            have cm4 := M.fx.bx.cell (i := 4) (by simp [subC])
            simp only [subC, List.getElem_cons_succ, List.getElem_cons_zero] at cm5 cm4
            have xm : x.most = base.most := by have e := HSI.out.eq; rw [e]
            have xl : x.lease = base.lease := by have e := HSI.out.eq; rw [e]
            rw [xm] at cm5
            rw [xl] at cm4
            have hbW := Nat.lt_of_lt_of_le hbw M.fc.size
            have hbX := M.fx.lt
            obtain ⟨mo, hmo⟩ : ∃ mo, mo = base.most := ⟨_, rfl⟩
            obtain ⟨le, hle⟩ : ∃ le, le = base.lease := ⟨_, rfl⟩
            rw [← hmo, ← hle] at hbr
            rw [← hmo] at cm5
            rw [← hle] at cm4
            rw [← hmo, ← hle] at END
            obtain ⟨⟨hl1', hl2'⟩, hm1', hm2'⟩ := hbr
            have XM := Lib.hid xm
            have XL := Lib.hid xl
            clear xm xl
            have HM := Lib.hid M
            have g0 : (n3 : Int).tmod 4 = (n3 : Int) % 4 := Int.tmod_eq_emod_of_nonneg (by omega)
            have md0 := Int.emod_nonneg (n3 : Int) (show mo ≠ 0 by omega)
            have md1 := Int.emod_lt_of_pos (n3 : Int) (show 0 < mo by omega)
            have md2 := Int.emod_nonneg (n1 : Int) (show le ≠ 0 by omega)
            have md3 := Int.emod_lt_of_pos (n1 : Int) (show 0 < le by omega)
            refine TF.elim (motive := fun a => Code.wp _ _ _ a _) T h12 ?_
            intro y53 y54 y55 y56 y57 y58 y59 y60 y61 y62 y63 y64 y65 y66 y67 y68 y69 y70 y71 y72 y73 y74 y75 y76 y77 y78 y79 y80 y81 y82 y83 y84 y85 y86 y87 y88 y89 y90 y91 y92 y93 y94 y95 y96 y97 y98 y99 y100 y101 y102 y103 y104 y105 y106 y107 y108 y109 y110 y111 y112 y113 y114 y115 y116 y117 y118 y119 y120 y121 y122 y123 y124 y125 y126 y127 y128 y129 y130 y131 y132 y133 y134 y135 y136 y137 y138 y139 y140 y141 y142 y143 y144 y145 y146 y147 y148 y149 y150 y151 y152 y153 y154 y155 y156 y157 y158 y159 y160 y161 y162 y163 y164 y165 y166 y167 y168 y169 y170 y171 y172 y173 y174 y175 y176 y177 y178 y179 y180 y181 y182 y183 y184 y185 y186 y187 y188 y189 y190 y191 y192 y193 y194
            clear T h12 a M
            simp only [List.set_cons_succ, List.set_cons_zero, List.cons_append, List.nil_append]
            have hq4 : (n3 : Int) % 4 = 0 ∨ (n3 : Int) % 4 = 1 ∨ (n3 : Int) % 4 = 2 ∨ (n3 : Int) % 4 = 3 := by omega
            rcases hq4 with g | g | g | g
            · rw [g] at g0
              go_wp2_with fail
              refine R18_r (bb := bb) (off := off) (n := l.length) (cc := cc) (b := b) (b2 := b2) (i := i) (z := n3) (mo := mo) rfl rfl rfl rfl rfl hg3 (by omega) hl3 hbW hbX e3 cm5 hm1' (by omega) HM.out.fm ?_
              intro a W2 hsz hdf hr hbel
              have M3 := (HM.out.below hbel).set1 3 (.int .i64 ((n3 : Int) % mo)) (m' := { m0 (s + (1 + (d : Int))) n1 n2 with prio := p, tries := (n3 : Int) % mo }) rfl
              have T3 : TF [.slice (some ⟨bb, off, none⟩) l.length cc, .int .i64 id, .int .i64 clock, .int .i64 next, undef, undef, undef, undef, .pointer (some ⟨w.heap.size, 0, none⟩), .pointer (some ⟨b, 0, none⟩), undef, undef, undef, v13, v14, v15, v16, v17, v18, v19, v20, v21, v22, v23, v24, v25, v26, v27, v28, v29, v30, v31, v32, v33, v34, v35, v36, v37, v38, v39, v40, v41, v42, .agg (subC (sub0 l id next) (.slice none 0 0) (.slice none 0 0)).toArray, u44, u45, u46, u47, u48, u49, u50, .pointer (some ⟨b, 6, none⟩), .int .i64 base.floor] a (s + (1 + (d : Int))) i := TF.keep hsz hdf (fun d h _ => hr d h) ⟨rfl, rfl, rfl, rfl, rfl, rfl⟩
              have h12 : a.tmps.getD 12 undef = .pointer (some ⟨b2, 0, none⟩) := (hr 12 (by omega)).trans rfl
              have G := END _ _ _ T3 h12 M3 rfl (att3_len _) (msg_fresh (s + (1 + (d : Int))) n1 n2 p _ le mo clock hp1 hp2 md0 md1) (show (0 : Int) ≤ 1000000000 by omega)
              clear END M3 T3 h12 hsz hdf hr hbel
              first | exact G | (go_wp2_with fail; exact G)
            · rw [g] at g0
              go_wp2_with fail
              rename_i K20 h20
              refine R20_r (bb := bb) (off := off) (n := l.length) (cc := cc) (b := b) (b2 := b2) (i := i) (z := n3) (mo := mo) rfl rfl rfl rfl rfl hg3 (by omega) hl3 hbW hbX e3 cm5 hm1' (by omega) md0 md1 HM.out.fm ?_
              intro a W2 hsz hdf hr hbel
              have M3 := (HM.out.below hbel).set1 3 (.int .i64 (1 + (n3 : Int) % mo)) (m' := { m0 (s + (1 + (d : Int))) n1 n2 with prio := p, tries := 1 + (n3 : Int) % mo }) rfl
              have T3 : TF [.slice (some ⟨bb, off, none⟩) l.length cc, .int .i64 id, .int .i64 clock, .int .i64 next, undef, undef, undef, undef, .pointer (some ⟨w.heap.size, 0, none⟩), .pointer (some ⟨b, 0, none⟩), undef, undef, undef, v13, v14, v15, v16, v17, v18, v19, v20, v21, v22, v23, v24, v25, v26, v27, v28, v29, v30, v31, v32, v33, v34, v35, v36, v37, v38, v39, v40, v41, v42, .agg (subC (sub0 l id next) (.slice none 0 0) (.slice none 0 0)).toArray, u44, u45, u46, u47, u48, u49, u50, .pointer (some ⟨b, 6, none⟩), .int .i64 base.floor] a (s + (1 + (d : Int))) i := TF.keep hsz hdf (fun d h _ => hr d h) ⟨rfl, rfl, rfl, rfl, rfl, rfl⟩
              have h12 : a.tmps.getD 12 undef = .pointer (some ⟨b2, 0, none⟩) := (hr 12 (by omega)).trans rfl
              refine h20 _ _ ?_
              have e1 := HE1.out _ M3.fc
              have cm4' := M3.fx.bx.cell (i := 4) (by simp [subC])
              simp only [subC, List.getElem_cons_succ, List.getElem_cons_zero] at cm4'
              rw [XL.out, ← hle] at cm4'
              refine R21_r (bb := bb) (off := off) (n := l.length) (cc := cc) (b := b) (b2 := b2) (i := i) (z := n1) (mo := le) (clock := clock) T3.size ((T3.get (by omega) (by omega) (by omega) (by omega)).trans rfl) ((T3.get (by omega) (by omega) (by omega) (by omega)).trans rfl) T3.t11 h12 hg3 (by omega) hl1 (Nat.lt_of_lt_of_le hbw M3.fc.size) M3.fx.lt e1 cm4' hl1' hl2' md2 md3 hc0 hc2 ((T3.get (by omega) (by omega) (by omega) (by omega)).trans rfl) M3.fm ?_
              intro a4 W5 hsz4 hdf4 hr4 hbel4
              have M4 := (M3.below hbel4).set1 4 (.int .i64 (clock + 1 + (n1 : Int) % le)) (m' := { m0 (s + (1 + (d : Int))) n1 n2 with prio := p, tries := 1 + (n3 : Int) % mo, til := clock + 1 + (n1 : Int) % le }) rfl
              have T4 : TF [.slice (some ⟨bb, off, none⟩) l.length cc, .int .i64 id, .int .i64 clock, .int .i64 next, undef, undef, undef, undef, .pointer (some ⟨w.heap.size, 0, none⟩), .pointer (some ⟨b, 0, none⟩), undef, undef, undef, v13, v14, v15, v16, v17, v18, v19, v20, v21, v22, v23, v24, v25, v26, v27, v28, v29, v30, v31, v32, v33, v34, v35, v36, v37, v38, v39, v40, v41, v42, .agg (subC (sub0 l id next) (.slice none 0 0) (.slice none 0 0)).toArray, u44, u45, u46, u47, u48, u49, u50, .pointer (some ⟨b, 6, none⟩), .int .i64 base.floor] a4 (s + (1 + (d : Int))) i := TF.keep hsz4 hdf4 (fun d h _ => hr4 d h) T3
              have h124 : a4.tmps.getD 12 undef = .pointer (some ⟨b2, 0, none⟩) := (hr4 12 (by omega)).trans h12
              have G := END _ _ _ T4 h124 M4 rfl (att3_len _) (msg_out (s + (1 + (d : Int))) n1 n2 p _ _ le mo clock hp1 hp2 (by omega) (by omega) hc0 (by omega) (by omega) (by omega)) (show clock + 1 + (n1 : Int) % le ≤ 1000000000 by omega)
              clear END M3 T3 h12 hsz hdf hr hbel M4 T4 h124 hsz4 hdf4 hr4 hbel4 e1 cm4'
              first | exact G | (go_wp2_with fail; exact G)
            · rw [g] at g0
              have hne : b ≠ b2 := by have := HM.out.bl; have := HM.out.fb; omega
              have HMO := Lib.hid hmo
              clear hmo
              have f3 := HM.out.fm.frozen 3
              have f5 := HM.out.fm.frozen 5
              have f6 := HM.out.fm.frozen 6
              have c3 := HM.out.fm.bx.cell (i := 3) (by simp [msgC])
              have c5 := HM.out.fm.bx.cell (i := 5) (by simp [msgC])
              have c6 := HM.out.fm.bx.cell (i := 6) (by simp [msgC])
              simp only [msgC, List.getElem_cons_succ, List.getElem_cons_zero] at c5 c3 c6
              have e1 := HE1.out W HM.out.fc
              have M1 := HM.out.set1 5 (.bool true) (m' := { m0 (s + (1 + (d : Int))) n1 n2 with prio := p, dead := true }) rfl
              have M2 := M1.set1 3 (.int .i64 mo) (m' := { m0 (s + (1 + (d : Int))) n1 n2 with prio := p, dead := true, tries := mo }) rfl
              have M3 := M2.below ((Below.refl _ _).alloc (Nat.le_refl _) (.cells #[.string ⟨#[110, 97, 99, 107]⟩, .string ⟨#[116, 105, 109, 101]⟩] 9))
              have hb2W : b2 < W.heap.size := HM.out.fm.lt
              have f66 := M3.fm.frozen 6
              have c66 := M3.fm.bx.cell (i := 6) (by simp [msgC])
              simp only [msgC, List.getElem_cons_succ, List.getElem_cons_zero] at c66
              have k0 : (n1 : Int).tmod 2 = (n1 : Int) % 2 := Int.tmod_eq_emod_of_nonneg (by omega)
              have HMa := Lib.hid ((M2.set1 6 (.string ⟨#[110, 97, 99, 107]⟩) (m' := { m0 (s + (1 + (d : Int))) n1 n2 with prio := p, dead := true, tries := mo, why := [110, 97, 99, 107] }) rfl).below ((Below.refl _ _).alloc (Nat.le_refl _) (.cells #[.string ⟨#[110, 97, 99, 107]⟩, .string ⟨#[116, 105, 109, 101]⟩] 9)))
              have HMb := Lib.hid ((M2.set1 6 (.string ⟨#[116, 105, 109, 101]⟩) (m' := { m0 (s + (1 + (d : Int))) n1 n2 with prio := p, dead := true, tries := mo, why := [116, 105, 109, 101] }) rfl).below ((Below.refl _ _).alloc (Nat.le_refl _) (.cells #[.string ⟨#[110, 97, 99, 107]⟩, .string ⟨#[116, 105, 109, 101]⟩] 9)))
              clear M1 M2 M3
              have hk2 : (n1 : Int) % 2 = 0 ∨ (n1 : Int) % 2 = 1 := by omega
              rcases hk2 with k | k
              · rw [k] at k0
                go_wp2_with fail
                exact END _ _ _ ⟨rfl, rfl, rfl, rfl, rfl, rfl⟩ rfl HMa.out rfl (att3_len _) (msg_dead (s + (1 + (d : Int))) n1 n2 p le mo clock _ (Or.inl rfl) hp1 hp2) (show (0 : Int) ≤ 1000000000 by omega)
              · rw [k] at k0
                go_wp2_with fail
                exact END _ _ _ ⟨rfl, rfl, rfl, rfl, rfl, rfl⟩ rfl HMb.out rfl (att3_len _) (msg_dead (s + (1 + (d : Int))) n1 n2 p le mo clock _ (Or.inr rfl) hp1 hp2) (show (0 : Int) ≤ 1000000000 by omega)
            · rw [g] at g0
              go_wp2_with fail
              exact END _ _ _ ⟨rfl, rfl, rfl, rfl, rfl, rfl⟩ rfl HM.out rfl (att3_len _) (msg_fresh (s + (1 + (d : Int))) n1 n2 p 0 le mo clock hp1 hp2 (by omega) (by omega)) (show (0 : Int) ≤ 1000000000 by omega)
          clear hP
          refine TF.elim (motive := fun a => Code.wp _ _ _ a _) T h12 ?_
          intro y53 y54 y55 y56 y57 y58 y59 y60 y61 y62 y63 y64 y65 y66 y67 y68 y69 y70 y71 y72 y73 y74 y75 y76 y77 y78 y79 y80 y81 y82 y83 y84 y85 y86 y87 y88 y89 y90 y91 y92 y93 y94 y95 y96 y97 y98 y99 y100 y101 y102 y103 y104 y105 y106 y107 y108 y109 y110 y111 y112 y113 y114 y115 y116 y117 y118 y119 y120 y121 y122 y123 y124 y125 y126 y127 y128 y129 y130 y131 y132 y133 y134 y135 y136 y137 y138 y139 y140 y141 y142 y143 y144 y145 y146 y147 y148 y149 y150 y151 y152 y153 y154 y155 y156 y157 y158 y159 y160 y161 y162 y163 y164 y165 y166 y167 y168 y169 y170 y171 y172 y173 y174 y175 y176 y177 y178 y179 y180 y181 y182 y183 y184 y185 y186 y187 y188 y189 y190 y191 y192 y193 y194
          clear T h12 a
          simp only [List.set_cons_succ, List.set_cons_zero, List.cons_append, List.nil_append]
          have e2 := HE2.out W M.fc
          by_cases h128 : 128 < n2
          · have q7 : (128 : Int) < (n2 : Int) := by omega
            obtain ⟨p, hp⟩ : ∃ p, p = n2 % 10 := ⟨_, rfl⟩
            have g1 : (n2 : Int).tmod 10 = (p : Int) := by rw [Int.tmod_eq_emod_of_nonneg (by omega), hp]; omega
            have g2 : (n2 : Int) % 10 = (p : Int) := by rw [hp]; omega
            have hp9 : p ≤ 9 := by omega
            have f7 := M.fm.frozen 7
            have c7 := M.fm.bx.cell (i := 7) (by simp [msgC])
            simp only [msgC, List.getElem_cons_succ, List.getElem_cons_zero] at c7
            have HM2 := Lib.hid (M.set1 7 (.int .i64 (p : Int)) (m' := { m0 (s + (1 + (d : Int))) n1 n2 with prio := (p : Int) }) rfl)
            have HP := Lib.hid hp
            clear M hp
            go_wp2_with fail
            exact PRI _ _ _ ⟨rfl, rfl, rfl, rfl, rfl, rfl⟩ rfl HM2.out ⟨p, by omega, by omega, rfl⟩
          · have q7 : ¬ (128 : Int) < (n2 : Int) := by omega
            have HM2 := Lib.hid M
            clear M
            go_wp2_with fail
            exact PRI _ _ _ ⟨rfl, rfl, rfl, rfl, rfl, rfl⟩ rfl HM2.out ⟨0, by omega, by omega, rfl⟩
    clear h2
    refine (HG5.out W3 HB3.out).mono ?_
    rintro e w5 ⟨rfl, hw5⟩
    subst w5
    have hnl : (110 :: txt (gN l 0) (gN l 0 % 20)).length ≤ 20 := by rw [List.length_cons, txt_len]; omega
    have htl : (top4 (gN l 1 % 4)).length ≤ 30 := by
      generalize gN l 1 % 4 = n
      unfold top4
      repeat' split
      all_goals decide
    have hwl : (want3 (gN l 1 / 4 % 3)).length ≤ 30 := by
      generalize gN l 1 / 4 % 3 = n
      unfold want3
      repeat' split
      all_goals decide
    by_cases h5 : 120 < gN l 5
    · have q5 : (120 : Int) < (gN l 5 : Int) := by omega
      have f9 := HW3.out.frozen 9
      have c9 := HW3.out.bx.cell (i := 9) (by simp [subC])
      simp only [subC, List.getElem_cons_succ, List.getElem_cons_zero] at c9
      have htx := text_any (gN l 5) 30 (by omega) (by omega) W3
      have HTX := Lib.hid htx
      have hln := txt_len (gN l 5) (gN l 5 % (30 + 1))
      have hle : (txt (gN l 5) (gN l 5 % (30 + 1))).length ≤ 30 := by rw [hln]; omega
      have HLE := Lib.hid hle
      obtain ⟨tx, htx0⟩ : ∃ tx, tx = txt (gN l 5) (gN l 5 % (30 + 1)) := ⟨_, rfl⟩
      rw [← htx0] at HTX HLE
      clear htx hln hle htx0
      go_wp2_with fail
      refine (HG5.out W3 HB3.out).mono ?_
      rintro e w5 ⟨rfl, hw5⟩
      subst w5
      go_wp2_with fail
      refine HTX.out.mono ?_
      rintro e w6 ⟨rfl, hb6⟩
      have hw6 := HW3.out.below hb6
      have hz6 := HZ3.out.below hb6
      have f96 := hw6.frozen 9
      have c96 := hw6.bx.cell (i := 9) (by simp [subC])
      simp only [subC, List.getElem_cons_succ, List.getElem_cons_zero] at c96
      have hbb := HBB.out
      have hs9 := hw6.set1 9 (sv tx)
      simp only [subC, List.set_cons_succ, List.set_cons_zero] at hs9
      have hz9 := hz6.set1Other (k := b) (by omega) 9 (sv tx)
      have hb9 := (HB3.out.trans (hb6.mono HB3.out.size)).setCell (p := ⟨b, 9, none⟩) (show w.heap.size ≤ b by omega) (sv tx)
      have HS9 := Lib.hid hs9
      have HZ9 := Lib.hid hz9
      have HB9 := Lib.hid hb9
      clear hw6 hz6 hs9 hz9 hb9 hb6 f9 c9
      go_wp2_with fail
      exact LOOP _ _ _ _ _ _ _ { sub0 l id next with note := tx } _ (base_ok l id next hn tx HLE.out) rfl rfl rfl hnl htl hwl HS9.out HZ9.out HB9.out
    · have q5 : ¬ (120 : Int) < (gN l 5 : Int) := by omega
      go_wp2_with fail
      exact LOOP _ _ _ _ _ _ _ { sub0 l id next with note := [] } _ (base_ok l id next hn [] (by decide)) rfl rfl rfl hnl htl hwl HW3.out HZ3.out HB3.out
end Go.Proofs.YtmdkonfmbbbepaaDoor
