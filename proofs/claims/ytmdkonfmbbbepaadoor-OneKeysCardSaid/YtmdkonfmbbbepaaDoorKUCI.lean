/-
  The drawn regions of the statements' own Sub, each by itself (layer state).; Words for the frame and the message while the statements' own Sub makes one (layer state).; Plain mathematics of the messages that the statements' own Sub makes (layer state). No program.
-/
import Derived.Test.YtmdkonfmbbbepaaDoorKUBB
import Derived.Test.YtmdkonfmbbbepaaDoorKUBH
import Derived.Test.YtmdkonfmbbbepaaDoorKUCH
set_option linter.unusedVariables false
set_option linter.unusedVariables false
set_option linter.unusedSimpArgs false
namespace Go.Proofs.YtmdkonfmbbbepaaDoor
open Go.RowKit Go.Rst Go.Tp Go.Ts Go.Inv
def att3 (n : Nat) : List UInt8 := if n = 0 then [] else if n = 1 then [97, 61, 49] else [98, 61, 50]
theorem att3_ok (n : Nat) (h : n < 3) : attrsB (att3 n) = true := by
  rcases (show n = 0 ∨ n = 1 ∨ n = 2 by omega) with rfl | rfl | rfl <;> decide
theorem wp_val {P : Program} {Q : Exit → Act → World → Prop} {o : Oper} {a : Act} {w : World} {K : Act → World → Prop} (v : Value) (h : (execOp a.eval o).run P w = .ok (.value v) w) (hK : K (a.put o.dst v) w) : o.wp P a w K Q := by
  unfold Oper.wp
  rw [h]
  exact hK
theorem ev {a : Act} {d : Nat} {v : Value} (h : a.tmps.getD d undef = v) : a.eval (.tmp d) = v := h
def m0 (s : Int) (z1 z2 : Nat) : Msg := ⟨s, txt z1 (z1 % 61), att3 (z2 % 3), 0, 0, false, [], 0⟩
def noMsg : Msg := ⟨0, [], [], 0, 0, false, [], 0⟩
def R13 (bb : Nat) (off : Nat) (n : Nat) (cc : Nat) (s : Int) (i : Nat) (z1 : Nat) (z2 : Nat) (B : Nat) (k0 : Nat) (v : Value) (w : World) : Prop :=
  match k0 with
  | 0 => v = .int .i64 s
  | 1 => v = .slice (some ⟨bb, off, none⟩) n cc
  | 2 => v = .int .i64 (i : Nat)
  | 3 => v = .int .i64 (i + 1 : Nat)
  | 4 => v = .pointer (some ⟨bb, off + (i + 1), none⟩)
  | 5 => v = .int .u8 (z1 : Nat)
  | 6 => v = .int .i64 (z1 : Nat)
  | 7 => v = sv (txt z1 (z1 % 61))
  | 8 => ∃ b, v = .slice (some ⟨b, 0, none⟩) 3 3 ∧ Wh w b [sv [], sv [97, 61, 49], sv [98, 61, 50]] 9
  | 9 => v = .slice (some ⟨bb, off, none⟩) n cc
  | 10 => v = .int .i64 (i : Nat)
  | 11 => v = .int .i64 (i + 2 : Nat)
  | 12 => v = .pointer (some ⟨bb, off + (i + 2), none⟩)
  | 13 => v = .int .u8 (z2 : Nat)
  | 14 => v = .int .u8 (z2 % 3 : Nat)
  | 15 => ∃ b, v = .pointer (some ⟨b, z2 % 3, none⟩) ∧ Wh w b [sv [], sv [97, 61, 49], sv [98, 61, 50]] 9
  | 16 => v = sv (att3 (z2 % 3))
  | 17 => v = .agg (msgC (m0 s z1 z2)).toArray
  | 18 => ∃ b, v = .pointer (some ⟨b, 0, none⟩) ∧ B ≤ b ∧ Wh w b (msgC noMsg) 45
  | _ => True
theorem R13.stab {bb : Nat} {off : Nat} {n : Nat} {cc : Nat} {s : Int} {i : Nat} {z1 : Nat} {z2 : Nat} {B : Nat} (k0 : Nat) (v : Value) (w1 w2 : World) (h : R13 bb off n cc s i z1 z2 B k0 v w1) (hb : Below w1.heap.size w1 w2) : R13 bb off n cc s i z1 z2 B k0 v w2 := by
  unfold R13 at h ⊢
  split at h <;> first | exact h | (obtain ⟨b, h1, h2⟩ := h; first | exact ⟨b, h1, h2.below hb⟩ | exact ⟨b, h1, h2.1, h2.2.below hb⟩)
set_option maxRecDepth 100000 in
set_option maxHeartbeats 8000000 in
theorem R13_r {bb : Nat} {off : Nat} {n : Nat} {cc : Nat} {s : Int} {i : Nat} {z1 : Nat} {z2 : Nat} {B : Nat} {Q : Exit → Act → World → Prop} {a0 : Act} {w0 : World} (hsz : a0.tmps.size = 196) (h0 : a0.tmps.getD 0 undef = .slice (some ⟨bb, off, none⟩) n cc) (h10 : a0.tmps.getD 10 undef = .int .i64 s) (h11 : a0.tmps.getD 11 undef = .int .i64 (i : Nat)) (hin : i + 3 < n) (hi7 : i ≤ 70) (hz1 : z1 < 256) (hz2 : z2 < 256) (hbb : bb < w0.heap.size) (c1 : w0.cell? ⟨bb, off + (i + 1), none⟩ = some (.int .u8 (z1 : Nat))) (c2 : w0.cell? ⟨bb, off + (i + 2), none⟩ = some (.int .u8 (z2 : Nat))) (hB : B = w0.heap.size)
    (hQ : ∀ (a : Act) (b2 : Nat) (W : World), a.tmps.size = 196 → a.defers = a0.defers → a.tmps.getD 12 undef = .pointer (some ⟨b2, 0, none⟩) → (∀ d, d < 97 ∨ d = 195 → d ≠ 12 → a.tmps.getD d undef = a0.tmps.getD d undef) → w0.heap.size ≤ b2 → Below w0.heap.size w0 W → Wh W b2 (msgC (m0 s z1 z2)) 45 → Q .normal a W) :
  (Code.region 13 #[{ dst := some 97, op := Op.move (Operand.tmp 10), type := 3, pos := "law.go:46", after := #[], guard := none },
   { dst := some 98, op := Op.move (Operand.tmp 0), type := 22, pos := "law.go:46", after := #[], guard := none },
   { dst := some 99, op := Op.move (Operand.tmp 11), type := 3, pos := "law.go:46", after := #[], guard := none },
   { dst := some 100, op := Op.binOp BinOp.add 3 (Operand.tmp 99) (Operand.const (Value.int IntKind.i64 1)) 3, type := 3, pos := "law.go:46", after := #[{ on := 2, ground := Ground.data }], guard := none },
   { dst := some 101, op := Op.indexAddr 22 (Operand.tmp 98) (Operand.tmp 100), type := 0, pos := "law.go:46", after := #[{ on := 1, ground := Ground.data }, { on := 3, ground := Ground.data }], guard := none },
   { dst := some 102, op := Op.load 5 (Operand.tmp 101), type := 5, pos := "law.go:46", after := #[{ on := 4, ground := Ground.data }], guard := none },
   { dst := some 103, op := Op.convert 5 3 (Operand.tmp 102), type := 3, pos := "law.go:46", after := #[{ on := 5, ground := Ground.data }], guard := none },
   { dst := some 104, op := Op.call { callee := Callee.value (Operand.func 30), args := #[Operand.tmp 103, Operand.const (Value.int IntKind.i64 60)], argTypes := #[3, 3] }, type := 9, pos := "law.go:46", after := #[{ on := 6, ground := Ground.data }], guard := none },
   { dst := some 105, op := Op.buildSlice 68 3 #[(0, Operand.const (Value.string { data := #[] })), (1, Operand.const (Value.string { data := #[97, 61, 49] })), (2, Operand.const (Value.string { data := #[98, 61, 50] }))], type := 68, pos := "law.go:46", after := #[], guard := none },
   { dst := some 106, op := Op.move (Operand.tmp 0), type := 22, pos := "law.go:46", after := #[], guard := none },
   { dst := some 107, op := Op.move (Operand.tmp 11), type := 3, pos := "law.go:46", after := #[], guard := none },
   { dst := some 108, op := Op.binOp BinOp.add 3 (Operand.tmp 107) (Operand.const (Value.int IntKind.i64 2)) 3, type := 3, pos := "law.go:46", after := #[{ on := 10, ground := Ground.data }], guard := none },
   { dst := some 109, op := Op.indexAddr 22 (Operand.tmp 106) (Operand.tmp 108), type := 0, pos := "law.go:46", after := #[{ on := 9, ground := Ground.data }, { on := 11, ground := Ground.data }], guard := none },
   { dst := some 110, op := Op.load 5 (Operand.tmp 109), type := 5, pos := "law.go:46", after := #[{ on := 12, ground := Ground.data }], guard := none },
   { dst := some 111, op := Op.binOp BinOp.rem 5 (Operand.tmp 110) (Operand.const (Value.int IntKind.u8 3)) 5, type := 5, pos := "law.go:46", after := #[{ on := 13, ground := Ground.data }], guard := none },
   { dst := some 112, op := Op.indexAddr 68 (Operand.tmp 105) (Operand.tmp 111), type := 0, pos := "law.go:46", after := #[{ on := 8, ground := Ground.data }, { on := 14, ground := Ground.data }], guard := none },
   { dst := some 113, op := Op.load 9 (Operand.tmp 112), type := 9, pos := "law.go:46", after := #[{ on := 15, ground := Ground.data }], guard := none },
   { dst := some 114, op := Op.build 45 #[(0, Operand.tmp 97), (1, Operand.tmp 104), (2, Operand.tmp 113)], type := 45, pos := "law.go:46", after := #[{ on := 0, ground := Ground.data }, { on := 7, ground := Ground.data }, { on := 16, ground := Ground.data }], guard := none },
   { dst := some 12, op := Op.alloc 45, type := 0, pos := "law.go:46", after := #[], guard := none },
   { dst := none, op := Op.store 45 (Operand.tmp 12) (Operand.tmp 114), type := 0, pos := "law.go:46", after := #[{ on := 18, ground := Ground.data }, { on := 17, ground := Ground.data }, { on := 7, ground := Ground.chain }, { on := 0, ground := Ground.phase }, { on := 1, ground := Ground.phase }, { on := 2, ground := Ground.phase }, { on := 3, ground := Ground.phase }, { on := 4, ground := Ground.phase }, { on := 5, ground := Ground.phase }, { on := 6, ground := Ground.phase }, { on := 7, ground := Ground.phase }, { on := 8, ground := Ground.phase }, { on := 9, ground := Ground.phase }, { on := 10, ground := Ground.phase }, { on := 11, ground := Ground.phase }, { on := 12, ground := Ground.phase }, { on := 13, ground := Ground.phase }, { on := 14, ground := Ground.phase }, { on := 15, ground := Ground.phase }, { on := 16, ground := Ground.phase }, { on := 17, ground := Ground.phase }, { on := 18, ground := Ground.phase }], guard := none }] true).wp Tryd.prog Q a0 w0 := by
  refine wp_region_each (n := 19) (R13 bb off n cc s i z1 z2 B) (by kernel_rfl) (by rw [hsz]; kernel_rfl) R13.stab ?_ ?_
  · intro k0 o a w2 hi ho hb hf hr K hK
    obtain rfl | rfl | rfl | rfl | rfl | rfl | rfl | rfl | rfl | rfl | rfl | rfl | rfl | rfl | rfl | rfl | rfl | rfl | rfl := (by omega : k0 = 0 ∨ k0 = 1 ∨ k0 = 2 ∨ k0 = 3 ∨ k0 = 4 ∨ k0 = 5 ∨ k0 = 6 ∨ k0 = 7 ∨ k0 = 8 ∨ k0 = 9 ∨ k0 = 10 ∨ k0 = 11 ∨ k0 = 12 ∨ k0 = 13 ∨ k0 = 14 ∨ k0 = 15 ∨ k0 = 16 ∨ k0 = 17 ∨ k0 = 18)
    all_goals (simp only [zD, zE, zF, Option.some.injEq] at ho; subst ho)
    · clear hi
      have t10 := (hr 10 (by intro h; revert h; exact of_decide_eq_false (by kernel_rfl))).trans h10
      have t10 := ev t10
      clear hf hr
      refine wp_val (.int .i64 s) ?_ (hK _ _ (show R13 _ _ _ _ _ _ _ _ _ _ _ _ from rfl) (Below.refl _ _))
      go_simp
      try done
    · clear hi
      have t0 := (hr 0 (by intro h; revert h; exact of_decide_eq_false (by kernel_rfl))).trans h0
      have t0 := ev t0
      clear hf hr
      refine wp_val (.slice (some ⟨bb, off, none⟩) n cc) ?_ (hK _ _ (show R13 _ _ _ _ _ _ _ _ _ _ _ _ from rfl) (Below.refl _ _))
      go_simp
      try done
    · clear hi
      have t11 := (hr 11 (by intro h; revert h; exact of_decide_eq_false (by kernel_rfl))).trans h11
      have t11 := ev t11
      clear hf hr
      refine wp_val (.int .i64 (i : Nat)) ?_ (hK _ _ (show R13 _ _ _ _ _ _ _ _ _ _ _ _ from rfl) (Below.refl _ _))
      go_simp
      try done
    · clear hi
      have f2 : R13 bb off n cc s i z1 z2 B 2 (a.tmps.getD 99 undef) w2 := hf 2 (List.contains_iff_mem.1 (by kernel_rfl))
      simp only [R13] at f2
      have e2 := ev f2
      clear hf hr
      refine wp_val (.int .i64 (i + 1 : Nat)) ?_ (hK _ _ (show R13 _ _ _ _ _ _ _ _ _ _ _ _ from rfl) (Below.refl _ _))
      go_simp
      first | go_num | (rw [IntKind.wrap_i64]; omega)
    · clear hi
      have f1 : R13 bb off n cc s i z1 z2 B 1 (a.tmps.getD 98 undef) w2 := hf 1 (List.contains_iff_mem.1 (by kernel_rfl))
      have f3 : R13 bb off n cc s i z1 z2 B 3 (a.tmps.getD 100 undef) w2 := hf 3 (List.contains_iff_mem.1 (by kernel_rfl))
      simp only [R13] at f1
      simp only [R13] at f3
      have e1 := ev f1
      have e3 := ev f3
      clear hf hr
      refine wp_val (.pointer (some ⟨bb, off + (i + 1), none⟩)) ?_ (hK _ _ (show R13 _ _ _ _ _ _ _ _ _ _ _ _ from rfl) (Below.refl _ _))
      go_simp
      first | done | (intro h; exact absurd (h (by omega)) (by omega)) | rw [if_pos (by omega), show ((i : Int) + 1).toNat = i + 1 by omega]
    · clear hi
      have f4 : R13 bb off n cc s i z1 z2 B 4 (a.tmps.getD 101 undef) w2 := hf 4 (List.contains_iff_mem.1 (by kernel_rfl))
      simp only [R13] at f4
      have e4 := ev f4
      clear hf hr
      have hq := (hb.cell (p := ⟨bb, off + (i + 1), none⟩) hbb).trans c1
      refine wp_val (.int .u8 (z1 : Nat)) ?_ (hK _ _ (show R13 _ _ _ _ _ _ _ _ _ _ _ _ from rfl) (Below.refl _ _))
      go_simp
    · clear hi
      have f5 : R13 bb off n cc s i z1 z2 B 5 (a.tmps.getD 102 undef) w2 := hf 5 (List.contains_iff_mem.1 (by kernel_rfl))
      simp only [R13] at f5
      have e5 := ev f5
      clear hf hr
      refine wp_val (.int .i64 (z1 : Nat)) ?_ (hK _ _ (show R13 _ _ _ _ _ _ _ _ _ _ _ _ from rfl) (Below.refl _ _))
      go_simp
      first | done | go_num | (rw [IntKind.wrap_i64]; omega)
    · clear hi
      have f6 : R13 bb off n cc s i z1 z2 B 6 (a.tmps.getD 103 undef) w2 := hf 6 (List.contains_iff_mem.1 (by kernel_rfl))
      simp only [R13] at f6
      have e6 := ev f6
      clear hf hr
      have hg := text_any z1 60 (by omega) (by omega) w2
      go_simp
      refine hg.mono ?_
      rintro e w3 ⟨rfl, hb3⟩
      go_simp
      exact hK _ _ rfl hb3
    · clear hi
      clear hf hr
      go_simp
      exact hK _ _ ⟨w2.heap.size, rfl, Wh.new w2 _ _⟩ ((Below.refl _ w2).alloc (Nat.le_refl _) _)
    · clear hi
      have t0 := (hr 0 (by intro h; revert h; exact of_decide_eq_false (by kernel_rfl))).trans h0
      have t0 := ev t0
      clear hf hr
      refine wp_val (.slice (some ⟨bb, off, none⟩) n cc) ?_ (hK _ _ (show R13 _ _ _ _ _ _ _ _ _ _ _ _ from rfl) (Below.refl _ _))
      go_simp
      try done
    · clear hi
      have t11 := (hr 11 (by intro h; revert h; exact of_decide_eq_false (by kernel_rfl))).trans h11
      have t11 := ev t11
      clear hf hr
      refine wp_val (.int .i64 (i : Nat)) ?_ (hK _ _ (show R13 _ _ _ _ _ _ _ _ _ _ _ _ from rfl) (Below.refl _ _))
      go_simp
      try done
    · clear hi
      have f10 : R13 bb off n cc s i z1 z2 B 10 (a.tmps.getD 107 undef) w2 := hf 10 (List.contains_iff_mem.1 (by kernel_rfl))
      simp only [R13] at f10
      have e10 := ev f10
      clear hf hr
      refine wp_val (.int .i64 (i + 2 : Nat)) ?_ (hK _ _ (show R13 _ _ _ _ _ _ _ _ _ _ _ _ from rfl) (Below.refl _ _))
      go_simp
      first | go_num | (rw [IntKind.wrap_i64]; omega)
    · clear hi
      have f9 : R13 bb off n cc s i z1 z2 B 9 (a.tmps.getD 106 undef) w2 := hf 9 (List.contains_iff_mem.1 (by kernel_rfl))
      have f11 : R13 bb off n cc s i z1 z2 B 11 (a.tmps.getD 108 undef) w2 := hf 11 (List.contains_iff_mem.1 (by kernel_rfl))
      simp only [R13] at f9
      simp only [R13] at f11
      have e9 := ev f9
      have e11 := ev f11
      clear hf hr
      refine wp_val (.pointer (some ⟨bb, off + (i + 2), none⟩)) ?_ (hK _ _ (show R13 _ _ _ _ _ _ _ _ _ _ _ _ from rfl) (Below.refl _ _))
      go_simp
      first | done | (intro h; exact absurd (h (by omega)) (by omega)) | rw [if_pos (by omega), show ((i : Int) + 2).toNat = i + 2 by omega]
    · clear hi
      have f12 : R13 bb off n cc s i z1 z2 B 12 (a.tmps.getD 109 undef) w2 := hf 12 (List.contains_iff_mem.1 (by kernel_rfl))
      simp only [R13] at f12
      have e12 := ev f12
      clear hf hr
      have hq := (hb.cell (p := ⟨bb, off + (i + 2), none⟩) hbb).trans c2
      refine wp_val (.int .u8 (z2 : Nat)) ?_ (hK _ _ (show R13 _ _ _ _ _ _ _ _ _ _ _ _ from rfl) (Below.refl _ _))
      go_simp
    · clear hi
      have f13 : R13 bb off n cc s i z1 z2 B 13 (a.tmps.getD 110 undef) w2 := hf 13 (List.contains_iff_mem.1 (by kernel_rfl))
      simp only [R13] at f13
      have e13 := ev f13
      clear hf hr
      refine wp_val (.int .u8 (z2 % 3 : Nat)) ?_ (hK _ _ (show R13 _ _ _ _ _ _ _ _ _ _ _ _ from rfl) (Below.refl _ _))
      go_simp
      rw [Int.tmod_eq_emod_of_nonneg (by omega)]
      try (first | go_num | (rw [IntKind.wrap_u8]; omega))
    · clear hi
      have f8 : R13 bb off n cc s i z1 z2 B 8 (a.tmps.getD 105 undef) w2 := hf 8 (List.contains_iff_mem.1 (by kernel_rfl))
      have f14 : R13 bb off n cc s i z1 z2 B 14 (a.tmps.getD 111 undef) w2 := hf 14 (List.contains_iff_mem.1 (by kernel_rfl))
      simp only [R13] at f8
      simp only [R13] at f14
      obtain ⟨b8, f8, g8⟩ := f8
      have e8 := ev f8
      have e14 := ev f14
      clear hf hr
      refine wp_val (.pointer (some ⟨b8, z2 % 3, none⟩)) ?_ (hK _ _ (show R13 _ _ _ _ _ _ _ _ _ _ _ _ from ⟨b8, rfl, g8⟩) (Below.refl _ _))
      go_simp
      rw [if_pos (by omega), show ((z2 : Int) % 3).toNat = z2 % 3 by omega]
    · clear hi
      have f15 : R13 bb off n cc s i z1 z2 B 15 (a.tmps.getD 112 undef) w2 := hf 15 (List.contains_iff_mem.1 (by kernel_rfl))
      simp only [R13] at f15
      obtain ⟨b15, f15, g15⟩ := f15
      have e15 := ev f15
      clear hf hr
      have hc : w2.cell? ⟨b15, z2 % 3, none⟩ = some (sv (att3 (z2 % 3))) := by
        have h4 : z2 % 3 < 3 := Nat.mod_lt _ (by omega)
        generalize z2 % 3 = n at h4 ⊢
        rcases (show n = 0 ∨ n = 1 ∨ n = 2 by omega) with rfl | rfl | rfl
        all_goals exact g15.bx.cell (i := _) (by simp)
      refine wp_val (sv (att3 (z2 % 3))) ?_ (hK _ _ (show R13 _ _ _ _ _ _ _ _ _ _ _ _ from rfl) (Below.refl _ _))
      go_simp
    · clear hi
      have f0 : R13 bb off n cc s i z1 z2 B 0 (a.tmps.getD 97 undef) w2 := hf 0 (List.contains_iff_mem.1 (by kernel_rfl))
      have f7 : R13 bb off n cc s i z1 z2 B 7 (a.tmps.getD 104 undef) w2 := hf 7 (List.contains_iff_mem.1 (by kernel_rfl))
      have f16 : R13 bb off n cc s i z1 z2 B 16 (a.tmps.getD 113 undef) w2 := hf 16 (List.contains_iff_mem.1 (by kernel_rfl))
      simp only [R13] at f0
      simp only [R13] at f7
      simp only [R13] at f16
      have e0 := ev f0
      have e7 := ev f7
      have e16 := ev f16
      clear hf hr
      have q0 := (Array.getD_eq_getD_getElem? ..).symm.trans f0
      have q7 := (Array.getD_eq_getD_getElem? ..).symm.trans f7
      have q16 := (Array.getD_eq_getD_getElem? ..).symm.trans f16
      refine wp_val (.agg (msgC (m0 s z1 z2)).toArray) ?_ (hK _ _ (show R13 _ _ _ _ _ _ _ _ _ _ _ _ from rfl) (Below.refl _ _))
      go_simp
      rfl
    · clear hi
      clear hf hr
      have hbs := hb.size
      go_simp
      exact hK _ _ ⟨w2.heap.size, rfl, by omega, Wh.new w2 _ _⟩ ((Below.refl _ w2).alloc (Nat.le_refl _) _)
  · intro o a w2 ho hsz2 hdf hb hf hr
    simp only [zD, zE, zF, Option.some.injEq] at ho
    subst ho
    rw [show (List.range 19).map (dstOf _) = [97, 98, 99, 100, 101, 102, 103, 104, 105, 106, 107, 108, 109, 110, 111, 112, 113, 114, 12] from by kernel_rfl] at hr
    obtain ⟨b2, hp, hbb2, hwh⟩ := hf 18 (by omega)
    have hv := hf 17 (by omega)
    clear hf
    have hp : a.tmps.getD 12 undef = .pointer (some ⟨b2, 0, none⟩) := hp
    have hv : a.tmps.getD 114 undef = .agg (msgC (m0 s z1 z2)).toArray := hv
    refine wp_store_row 45 (.tmp 12) (.tmp 114) rfl b2 (msgC (m0 s z1 z2)).toArray hp hv 45 (msgC noMsg).toArray hwh size57 rfl (all_oneCell_toArray (msg_one _)) ?_
    refine hQ a b2 _ (by rw [hsz2, hsz]) hdf hp (fun d hd h12 => hr d ?_) (by omega) (below_setRow hb (by omega) _) (hwh.set _)
    intro h
    simp only [List.mem_cons, List.not_mem_nil, or_false] at h
    omega
def R18 (bb : Nat) (off : Nat) (n : Nat) (cc : Nat) (b : Nat) (b2 : Nat) (i : Nat) (z : Nat) (mo : Int) (k0 : Nat) (v : Value) (w : World) : Prop :=
  match k0 with
  | 0 => v = .slice (some ⟨bb, off, none⟩) n cc
  | 1 => v = .int .i64 (i : Nat)
  | 2 => v = .int .i64 (i + 3 : Nat)
  | 3 => v = .pointer (some ⟨bb, off + (i + 3), none⟩)
  | 4 => v = .int .u8 (z : Nat)
  | 5 => v = .int .i64 (z : Nat)
  | 6 => v = .pointer (some ⟨b, 5, none⟩)
  | 7 => v = .int .i64 mo
  | 8 => v = .int .i64 ((z : Int) % mo)
  | 9 => v = .pointer (some ⟨b2, 3, none⟩)
  | _ => True
theorem R18.stab {bb : Nat} {off : Nat} {n : Nat} {cc : Nat} {b : Nat} {b2 : Nat} {i : Nat} {z : Nat} {mo : Int} (k0 : Nat) (v : Value) (w1 w2 : World) (h : R18 bb off n cc b b2 i z mo k0 v w1) (hb : Below w1.heap.size w1 w2) : R18 bb off n cc b b2 i z mo k0 v w2 := by
  unfold R18 at h ⊢
  split at h <;> first | exact h | (obtain ⟨b, h1, h2⟩ := h; first | exact ⟨b, h1, h2.below hb⟩ | exact ⟨b, h1, h2.1, h2.2.below hb⟩)
set_option maxRecDepth 100000 in
set_option maxHeartbeats 8000000 in
theorem R18_r {bb : Nat} {off : Nat} {n : Nat} {cc : Nat} {b : Nat} {b2 : Nat} {i : Nat} {z : Nat} {mo : Int} {Q : Exit → Act → World → Prop} {a0 : Act} {w0 : World} (hsz : a0.tmps.size = 196) (h0 : a0.tmps.getD 0 undef = .slice (some ⟨bb, off, none⟩) n cc) (h9 : a0.tmps.getD 9 undef = .pointer (some ⟨b, 0, none⟩)) (h11 : a0.tmps.getD 11 undef = .int .i64 (i : Nat)) (h12 : a0.tmps.getD 12 undef = .pointer (some ⟨b2, 0, none⟩)) (hin : i + 3 < n) (hi7 : i ≤ 70) (hz1 : z < 256) (hbb : bb < w0.heap.size) (hbl : b < w0.heap.size) (c1 : w0.cell? ⟨bb, off + (i + 3), none⟩ = some (.int .u8 (z : Nat))) (cm : w0.cell? ⟨b, 5, none⟩ = some (.int .i64 mo)) (hm1 : 1 ≤ mo) (hm2 : mo ≤ 1000)  {m : Msg} (hwm : Wh w0 b2 (msgC m) 45)
    (hQ : ∀ (a : Act) (W : World), a.tmps.size = 196 → a.defers = a0.defers → (∀ d, d < 97 ∨ d = 195 → a.tmps.getD d undef = a0.tmps.getD d undef) → Below w0.heap.size w0 W → Q .normal a (W.setCell ⟨b2, 3, none⟩ (.int .i64 ((z : Int) % mo)))) :
  (Code.region 18 #[{ dst := some 137, op := Op.move (Operand.tmp 0), type := 22, pos := "law.go:52", after := #[], guard := none },
   { dst := some 138, op := Op.move (Operand.tmp 11), type := 3, pos := "law.go:52", after := #[], guard := none },
   { dst := some 139, op := Op.binOp BinOp.add 3 (Operand.tmp 138) (Operand.const (Value.int IntKind.i64 3)) 3, type := 3, pos := "law.go:52", after := #[{ on := 1, ground := Ground.data }], guard := none },
   { dst := some 140, op := Op.indexAddr 22 (Operand.tmp 137) (Operand.tmp 139), type := 0, pos := "law.go:52", after := #[{ on := 0, ground := Ground.data }, { on := 2, ground := Ground.data }], guard := none },
   { dst := some 141, op := Op.load 5 (Operand.tmp 140), type := 5, pos := "law.go:52", after := #[{ on := 3, ground := Ground.data }], guard := none },
   { dst := some 142, op := Op.convert 5 3 (Operand.tmp 141), type := 3, pos := "law.go:52", after := #[{ on := 4, ground := Ground.data }], guard := none },
   { dst := some 143, op := Op.fieldAddr 27 (Operand.tmp 9) 5, type := 0, pos := "law.go:52", after := #[], guard := none },
   { dst := some 144, op := Op.load 3 (Operand.tmp 143), type := 3, pos := "law.go:52", after := #[{ on := 6, ground := Ground.data }], guard := none },
   { dst := some 145, op := Op.binOp BinOp.rem 3 (Operand.tmp 142) (Operand.tmp 144) 3, type := 3, pos := "law.go:52", after := #[{ on := 5, ground := Ground.data }, { on := 7, ground := Ground.data }], guard := none },
   { dst := some 146, op := Op.fieldAddr 45 (Operand.tmp 12) 3, type := 0, pos := "law.go:52", after := #[{ on := 0, ground := Ground.phase }, { on := 1, ground := Ground.phase }, { on := 2, ground := Ground.phase }, { on := 3, ground := Ground.phase }, { on := 4, ground := Ground.phase }, { on := 5, ground := Ground.phase }, { on := 6, ground := Ground.phase }, { on := 7, ground := Ground.phase }, { on := 8, ground := Ground.phase }], guard := none },
   { dst := none, op := Op.store 3 (Operand.tmp 146) (Operand.tmp 145), type := 0, pos := "law.go:52", after := #[{ on := 9, ground := Ground.data }, { on := 8, ground := Ground.data }, { on := 0, ground := Ground.phase }, { on := 1, ground := Ground.phase }, { on := 2, ground := Ground.phase }, { on := 3, ground := Ground.phase }, { on := 4, ground := Ground.phase }, { on := 5, ground := Ground.phase }, { on := 6, ground := Ground.phase }, { on := 7, ground := Ground.phase }, { on := 8, ground := Ground.phase }], guard := none }] true).wp Tryd.prog Q a0 w0 := by
  have hsz0 := hwm.lt
  refine wp_region_each (n := 10) (R18 bb off n cc b b2 i z mo) (by kernel_rfl) (by rw [hsz]; kernel_rfl) R18.stab ?_ ?_
  · intro k0 o a w2 hi ho hb hf hr K hK
    obtain rfl | rfl | rfl | rfl | rfl | rfl | rfl | rfl | rfl | rfl := (by omega : k0 = 0 ∨ k0 = 1 ∨ k0 = 2 ∨ k0 = 3 ∨ k0 = 4 ∨ k0 = 5 ∨ k0 = 6 ∨ k0 = 7 ∨ k0 = 8 ∨ k0 = 9)
    all_goals (simp only [zD, zE, zF, Option.some.injEq] at ho; subst ho)
    · clear hi
      have t0 := (hr 0 (by intro h; revert h; exact of_decide_eq_false (by kernel_rfl))).trans h0
      have t0 := ev t0
      clear hf hr
      refine wp_val (.slice (some ⟨bb, off, none⟩) n cc) ?_ (hK _ _ (show R18 _ _ _ _ _ _ _ _ _ _ _ _ from rfl) (Below.refl _ _))
      go_simp
      try done
    · clear hi
      have t11 := (hr 11 (by intro h; revert h; exact of_decide_eq_false (by kernel_rfl))).trans h11
      have t11 := ev t11
      clear hf hr
      refine wp_val (.int .i64 (i : Nat)) ?_ (hK _ _ (show R18 _ _ _ _ _ _ _ _ _ _ _ _ from rfl) (Below.refl _ _))
      go_simp
      try done
    · clear hi
      have f1 : R18 bb off n cc b b2 i z mo 1 (a.tmps.getD 138 undef) w2 := hf 1 (List.contains_iff_mem.1 (by kernel_rfl))
      simp only [R18] at f1
      have e1 := ev f1
      clear hf hr
      refine wp_val (.int .i64 (i + 3 : Nat)) ?_ (hK _ _ (show R18 _ _ _ _ _ _ _ _ _ _ _ _ from rfl) (Below.refl _ _))
      go_simp
      first | done | go_num | (rw [IntKind.wrap_i64]; omega)
    · clear hi
      have f0 : R18 bb off n cc b b2 i z mo 0 (a.tmps.getD 137 undef) w2 := hf 0 (List.contains_iff_mem.1 (by kernel_rfl))
      have f2 : R18 bb off n cc b b2 i z mo 2 (a.tmps.getD 139 undef) w2 := hf 2 (List.contains_iff_mem.1 (by kernel_rfl))
      simp only [R18] at f0
      simp only [R18] at f2
      have e0 := ev f0
      have e2 := ev f2
      clear hf hr
      refine wp_val (.pointer (some ⟨bb, off + (i + 3), none⟩)) ?_ (hK _ _ (show R18 _ _ _ _ _ _ _ _ _ _ _ _ from rfl) (Below.refl _ _))
      go_simp
      first | done | (intro h; exact absurd (h (by omega)) (by omega)) | rw [if_pos (by omega), show ((i : Int) + 3).toNat = i + 3 by omega]
    · clear hi
      have f3 : R18 bb off n cc b b2 i z mo 3 (a.tmps.getD 140 undef) w2 := hf 3 (List.contains_iff_mem.1 (by kernel_rfl))
      simp only [R18] at f3
      have e3 := ev f3
      clear hf hr
      have hq := (hb.cell (p := ⟨bb, off + (i + 3), none⟩) hbb).trans c1
      refine wp_val (.int .u8 (z : Nat)) ?_ (hK _ _ (show R18 _ _ _ _ _ _ _ _ _ _ _ _ from rfl) (Below.refl _ _))
      go_simp
    · clear hi
      have f4 : R18 bb off n cc b b2 i z mo 4 (a.tmps.getD 141 undef) w2 := hf 4 (List.contains_iff_mem.1 (by kernel_rfl))
      simp only [R18] at f4
      have e4 := ev f4
      clear hf hr
      refine wp_val (.int .i64 (z : Nat)) ?_ (hK _ _ (show R18 _ _ _ _ _ _ _ _ _ _ _ _ from rfl) (Below.refl _ _))
      go_simp
      first | done | go_num | (rw [IntKind.wrap_i64]; omega)
    · clear hi
      have t9 := (hr 9 (by intro h; revert h; exact of_decide_eq_false (by kernel_rfl))).trans h9
      have t9 := ev t9
      clear hf hr
      refine wp_val (.pointer (some ⟨b, 5, none⟩)) ?_ (hK _ _ (show R18 _ _ _ _ _ _ _ _ _ _ _ _ from rfl) (Below.refl _ _))
      go_simp
      try done
    · clear hi
      have f6 : R18 bb off n cc b b2 i z mo 6 (a.tmps.getD 143 undef) w2 := hf 6 (List.contains_iff_mem.1 (by kernel_rfl))
      simp only [R18] at f6
      have e6 := ev f6
      clear hf hr
      have hq := (hb.cell (p := ⟨b, 5, none⟩) hbl).trans cm
      refine wp_val (.int .i64 mo) ?_ (hK _ _ (show R18 _ _ _ _ _ _ _ _ _ _ _ _ from rfl) (Below.refl _ _))
      go_simp
    · clear hi
      have f5 : R18 bb off n cc b b2 i z mo 5 (a.tmps.getD 142 undef) w2 := hf 5 (List.contains_iff_mem.1 (by kernel_rfl))
      have f7 : R18 bb off n cc b b2 i z mo 7 (a.tmps.getD 144 undef) w2 := hf 7 (List.contains_iff_mem.1 (by kernel_rfl))
      simp only [R18] at f5
      simp only [R18] at f7
      have e5 := ev f5
      have e7 := ev f7
      clear hf hr
      refine wp_val (.int .i64 ((z : Int) % mo)) ?_ (hK _ _ (show R18 _ _ _ _ _ _ _ _ _ _ _ _ from rfl) (Below.refl _ _))
      go_simp
      first | done | (rw [if_neg (by omega), Int.tmod_eq_emod_of_nonneg (by omega)])
    · clear hi
      have t12 := (hr 12 (by intro h; revert h; exact of_decide_eq_false (by kernel_rfl))).trans h12
      have f0 : R18 bb off n cc b b2 i z mo 0 (a.tmps.getD 137 undef) w2 := hf 0 (List.contains_iff_mem.1 (by kernel_rfl))
      have f1 : R18 bb off n cc b b2 i z mo 1 (a.tmps.getD 138 undef) w2 := hf 1 (List.contains_iff_mem.1 (by kernel_rfl))
      have f2 : R18 bb off n cc b b2 i z mo 2 (a.tmps.getD 139 undef) w2 := hf 2 (List.contains_iff_mem.1 (by kernel_rfl))
      have f3 : R18 bb off n cc b b2 i z mo 3 (a.tmps.getD 140 undef) w2 := hf 3 (List.contains_iff_mem.1 (by kernel_rfl))
      have f4 : R18 bb off n cc b b2 i z mo 4 (a.tmps.getD 141 undef) w2 := hf 4 (List.contains_iff_mem.1 (by kernel_rfl))
      have f5 : R18 bb off n cc b b2 i z mo 5 (a.tmps.getD 142 undef) w2 := hf 5 (List.contains_iff_mem.1 (by kernel_rfl))
      have f6 : R18 bb off n cc b b2 i z mo 6 (a.tmps.getD 143 undef) w2 := hf 6 (List.contains_iff_mem.1 (by kernel_rfl))
      have f7 : R18 bb off n cc b b2 i z mo 7 (a.tmps.getD 144 undef) w2 := hf 7 (List.contains_iff_mem.1 (by kernel_rfl))
      have f8 : R18 bb off n cc b b2 i z mo 8 (a.tmps.getD 145 undef) w2 := hf 8 (List.contains_iff_mem.1 (by kernel_rfl))
      simp only [R18] at f0
      simp only [R18] at f1
      simp only [R18] at f2
      simp only [R18] at f3
      simp only [R18] at f4
      simp only [R18] at f5
      simp only [R18] at f6
      simp only [R18] at f7
      simp only [R18] at f8
      have e0 := ev f0
      have e1 := ev f1
      have e2 := ev f2
      have e3 := ev f3
      have e4 := ev f4
      have e5 := ev f5
      have e6 := ev f6
      have e7 := ev f7
      have e8 := ev f8
      have t12 := ev t12
      clear hf hr
      refine wp_val (.pointer (some ⟨b2, 3, none⟩)) ?_ (hK _ _ (show R18 _ _ _ _ _ _ _ _ _ _ _ _ from rfl) (Below.refl _ _))
      go_simp
      try done
  · intro o a w2 ho hsz2 hdf hb hf hr
    simp only [zD, zE, zF, Option.some.injEq] at ho
    subst ho
    rw [show (List.range 10).map (dstOf _) = [137, 138, 139, 140, 141, 142, 143, 144, 145, 146] from by kernel_rfl] at hr
    have hp := hf 9 (by omega)
    have hv := hf 8 (by omega)
    clear hf
    have hp : a.tmps.getD 146 undef = .pointer (some ⟨b2, 3, none⟩) := hp
    have hv : a.tmps.getD 145 undef = .int .i64 ((z : Int) % mo) := hv
    have hp2 := ev hp
    have hv2 := ev hv
    have hw2 := hwm.below hb
    have hfz := hw2.frozen 3
    have hc := hw2.bx.cell (i := 3) (by simp [msgC])
    simp only [msgC, List.getElem_cons_succ, List.getElem_cons_zero] at hc
    have hQ2 := hQ a w2 (by rw [hsz2, hsz]) hdf (fun d hd => hr d (by
      intro h
      simp only [List.mem_cons, List.not_mem_nil, or_false] at h
      omega)) hb
    unfold Oper.wp
    go_simp
    exact hQ2
def R20 (bb : Nat) (off : Nat) (n : Nat) (cc : Nat) (b : Nat) (b2 : Nat) (i : Nat) (z : Nat) (mo : Int) (k0 : Nat) (v : Value) (w : World) : Prop :=
  match k0 with
  | 0 => v = .slice (some ⟨bb, off, none⟩) n cc
  | 1 => v = .int .i64 (i : Nat)
  | 2 => v = .int .i64 (i + 3 : Nat)
  | 3 => v = .pointer (some ⟨bb, off + (i + 3), none⟩)
  | 4 => v = .int .u8 (z : Nat)
  | 5 => v = .int .i64 (z : Nat)
  | 6 => v = .pointer (some ⟨b, 5, none⟩)
  | 7 => v = .int .i64 mo
  | 8 => v = .int .i64 ((z : Int) % mo)
  | 9 => v = .int .i64 (1 + (z : Int) % mo)
  | 10 => v = .pointer (some ⟨b2, 3, none⟩)
  | _ => True
theorem R20.stab {bb : Nat} {off : Nat} {n : Nat} {cc : Nat} {b : Nat} {b2 : Nat} {i : Nat} {z : Nat} {mo : Int} (k0 : Nat) (v : Value) (w1 w2 : World) (h : R20 bb off n cc b b2 i z mo k0 v w1) (hb : Below w1.heap.size w1 w2) : R20 bb off n cc b b2 i z mo k0 v w2 := by
  unfold R20 at h ⊢
  split at h <;> first | exact h | (obtain ⟨b, h1, h2⟩ := h; first | exact ⟨b, h1, h2.below hb⟩ | exact ⟨b, h1, h2.1, h2.2.below hb⟩)
set_option maxRecDepth 100000 in
set_option maxHeartbeats 8000000 in
theorem R20_r {bb : Nat} {off : Nat} {n : Nat} {cc : Nat} {b : Nat} {b2 : Nat} {i : Nat} {z : Nat} {mo : Int} {Q : Exit → Act → World → Prop} {a0 : Act} {w0 : World} (hsz : a0.tmps.size = 196) (h0 : a0.tmps.getD 0 undef = .slice (some ⟨bb, off, none⟩) n cc) (h9 : a0.tmps.getD 9 undef = .pointer (some ⟨b, 0, none⟩)) (h11 : a0.tmps.getD 11 undef = .int .i64 (i : Nat)) (h12 : a0.tmps.getD 12 undef = .pointer (some ⟨b2, 0, none⟩)) (hin : i + 3 < n) (hi7 : i ≤ 70) (hz1 : z < 256) (hbb : bb < w0.heap.size) (hbl : b < w0.heap.size) (c1 : w0.cell? ⟨bb, off + (i + 3), none⟩ = some (.int .u8 (z : Nat))) (cm : w0.cell? ⟨b, 5, none⟩ = some (.int .i64 mo)) (hm1 : 1 ≤ mo) (hm2 : mo ≤ 1000) (hmod0 : 0 ≤ (z : Int) % mo) (hmod1 : (z : Int) % mo < mo) {m : Msg} (hwm : Wh w0 b2 (msgC m) 45)
    (hQ : ∀ (a : Act) (W : World), a.tmps.size = 196 → a.defers = a0.defers → (∀ d, d < 97 ∨ d = 195 → a.tmps.getD d undef = a0.tmps.getD d undef) → Below w0.heap.size w0 W → Q .normal a (W.setCell ⟨b2, 3, none⟩ (.int .i64 (1 + (z : Int) % mo)))) :
  (Code.region 20 #[{ dst := some 149, op := Op.move (Operand.tmp 0), type := 22, pos := "law.go:54", after := #[], guard := none },
   { dst := some 150, op := Op.move (Operand.tmp 11), type := 3, pos := "law.go:54", after := #[], guard := none },
   { dst := some 151, op := Op.binOp BinOp.add 3 (Operand.tmp 150) (Operand.const (Value.int IntKind.i64 3)) 3, type := 3, pos := "law.go:54", after := #[{ on := 1, ground := Ground.data }], guard := none },
   { dst := some 152, op := Op.indexAddr 22 (Operand.tmp 149) (Operand.tmp 151), type := 0, pos := "law.go:54", after := #[{ on := 0, ground := Ground.data }, { on := 2, ground := Ground.data }], guard := none },
   { dst := some 153, op := Op.load 5 (Operand.tmp 152), type := 5, pos := "law.go:54", after := #[{ on := 3, ground := Ground.data }], guard := none },
   { dst := some 154, op := Op.convert 5 3 (Operand.tmp 153), type := 3, pos := "law.go:54", after := #[{ on := 4, ground := Ground.data }], guard := none },
   { dst := some 155, op := Op.fieldAddr 27 (Operand.tmp 9) 5, type := 0, pos := "law.go:54", after := #[], guard := none },
   { dst := some 156, op := Op.load 3 (Operand.tmp 155), type := 3, pos := "law.go:54", after := #[{ on := 6, ground := Ground.data }], guard := none },
   { dst := some 157, op := Op.binOp BinOp.rem 3 (Operand.tmp 154) (Operand.tmp 156) 3, type := 3, pos := "law.go:54", after := #[{ on := 5, ground := Ground.data }, { on := 7, ground := Ground.data }], guard := none },
   { dst := some 158, op := Op.binOp BinOp.add 3 (Operand.const (Value.int IntKind.i64 1)) (Operand.tmp 157) 3, type := 3, pos := "law.go:54", after := #[{ on := 8, ground := Ground.data }], guard := none },
   { dst := some 159, op := Op.fieldAddr 45 (Operand.tmp 12) 3, type := 0, pos := "law.go:54", after := #[{ on := 0, ground := Ground.phase }, { on := 1, ground := Ground.phase }, { on := 2, ground := Ground.phase }, { on := 3, ground := Ground.phase }, { on := 4, ground := Ground.phase }, { on := 5, ground := Ground.phase }, { on := 6, ground := Ground.phase }, { on := 7, ground := Ground.phase }, { on := 8, ground := Ground.phase }, { on := 9, ground := Ground.phase }], guard := none },
   { dst := none, op := Op.store 3 (Operand.tmp 159) (Operand.tmp 158), type := 0, pos := "law.go:54", after := #[{ on := 10, ground := Ground.data }, { on := 9, ground := Ground.data }, { on := 0, ground := Ground.phase }, { on := 1, ground := Ground.phase }, { on := 2, ground := Ground.phase }, { on := 3, ground := Ground.phase }, { on := 4, ground := Ground.phase }, { on := 5, ground := Ground.phase }, { on := 6, ground := Ground.phase }, { on := 7, ground := Ground.phase }, { on := 8, ground := Ground.phase }, { on := 9, ground := Ground.phase }], guard := none }] true).wp Tryd.prog Q a0 w0 := by
  have hsz0 := hwm.lt
  refine wp_region_each (n := 11) (R20 bb off n cc b b2 i z mo) (by kernel_rfl) (by rw [hsz]; kernel_rfl) R20.stab ?_ ?_
  · intro k0 o a w2 hi ho hb hf hr K hK
    obtain rfl | rfl | rfl | rfl | rfl | rfl | rfl | rfl | rfl | rfl | rfl := (by omega : k0 = 0 ∨ k0 = 1 ∨ k0 = 2 ∨ k0 = 3 ∨ k0 = 4 ∨ k0 = 5 ∨ k0 = 6 ∨ k0 = 7 ∨ k0 = 8 ∨ k0 = 9 ∨ k0 = 10)
    all_goals (simp only [zD, zE, zF, Option.some.injEq] at ho; subst ho)
    · clear hi
      have t0 := (hr 0 (by intro h; revert h; exact of_decide_eq_false (by kernel_rfl))).trans h0
      have t0 := ev t0
      clear hf hr
      refine wp_val (.slice (some ⟨bb, off, none⟩) n cc) ?_ (hK _ _ (show R20 _ _ _ _ _ _ _ _ _ _ _ _ from rfl) (Below.refl _ _))
      go_simp
      try done
    · clear hi
      have t11 := (hr 11 (by intro h; revert h; exact of_decide_eq_false (by kernel_rfl))).trans h11
      have t11 := ev t11
      clear hf hr
      refine wp_val (.int .i64 (i : Nat)) ?_ (hK _ _ (show R20 _ _ _ _ _ _ _ _ _ _ _ _ from rfl) (Below.refl _ _))
      go_simp
      try done
    · clear hi
      have f1 : R20 bb off n cc b b2 i z mo 1 (a.tmps.getD 150 undef) w2 := hf 1 (List.contains_iff_mem.1 (by kernel_rfl))
      simp only [R20] at f1
      have e1 := ev f1
      clear hf hr
      refine wp_val (.int .i64 (i + 3 : Nat)) ?_ (hK _ _ (show R20 _ _ _ _ _ _ _ _ _ _ _ _ from rfl) (Below.refl _ _))
      go_simp
      first | done | go_num | (rw [IntKind.wrap_i64]; omega)
    · clear hi
      have f0 : R20 bb off n cc b b2 i z mo 0 (a.tmps.getD 149 undef) w2 := hf 0 (List.contains_iff_mem.1 (by kernel_rfl))
      have f2 : R20 bb off n cc b b2 i z mo 2 (a.tmps.getD 151 undef) w2 := hf 2 (List.contains_iff_mem.1 (by kernel_rfl))
      simp only [R20] at f0
      simp only [R20] at f2
      have e0 := ev f0
      have e2 := ev f2
      clear hf hr
      refine wp_val (.pointer (some ⟨bb, off + (i + 3), none⟩)) ?_ (hK _ _ (show R20 _ _ _ _ _ _ _ _ _ _ _ _ from rfl) (Below.refl _ _))
      go_simp
      first | done | (intro h; exact absurd (h (by omega)) (by omega)) | rw [if_pos (by omega), show ((i : Int) + 3).toNat = i + 3 by omega]
    · clear hi
      have f3 : R20 bb off n cc b b2 i z mo 3 (a.tmps.getD 152 undef) w2 := hf 3 (List.contains_iff_mem.1 (by kernel_rfl))
      simp only [R20] at f3
      have e3 := ev f3
      clear hf hr
      have hq := (hb.cell (p := ⟨bb, off + (i + 3), none⟩) hbb).trans c1
      refine wp_val (.int .u8 (z : Nat)) ?_ (hK _ _ (show R20 _ _ _ _ _ _ _ _ _ _ _ _ from rfl) (Below.refl _ _))
      go_simp
    · clear hi
      have f4 : R20 bb off n cc b b2 i z mo 4 (a.tmps.getD 153 undef) w2 := hf 4 (List.contains_iff_mem.1 (by kernel_rfl))
      simp only [R20] at f4
      have e4 := ev f4
      clear hf hr
      refine wp_val (.int .i64 (z : Nat)) ?_ (hK _ _ (show R20 _ _ _ _ _ _ _ _ _ _ _ _ from rfl) (Below.refl _ _))
      go_simp
      first | done | go_num | (rw [IntKind.wrap_i64]; omega)
    · clear hi
      have t9 := (hr 9 (by intro h; revert h; exact of_decide_eq_false (by kernel_rfl))).trans h9
      have t9 := ev t9
      clear hf hr
      refine wp_val (.pointer (some ⟨b, 5, none⟩)) ?_ (hK _ _ (show R20 _ _ _ _ _ _ _ _ _ _ _ _ from rfl) (Below.refl _ _))
      go_simp
      try done
    · clear hi
      have f6 : R20 bb off n cc b b2 i z mo 6 (a.tmps.getD 155 undef) w2 := hf 6 (List.contains_iff_mem.1 (by kernel_rfl))
      simp only [R20] at f6
      have e6 := ev f6
      clear hf hr
      have hq := (hb.cell (p := ⟨b, 5, none⟩) hbl).trans cm
      refine wp_val (.int .i64 mo) ?_ (hK _ _ (show R20 _ _ _ _ _ _ _ _ _ _ _ _ from rfl) (Below.refl _ _))
      go_simp
    · clear hi
      have f5 : R20 bb off n cc b b2 i z mo 5 (a.tmps.getD 154 undef) w2 := hf 5 (List.contains_iff_mem.1 (by kernel_rfl))
      have f7 : R20 bb off n cc b b2 i z mo 7 (a.tmps.getD 156 undef) w2 := hf 7 (List.contains_iff_mem.1 (by kernel_rfl))
      simp only [R20] at f5
      simp only [R20] at f7
      have e5 := ev f5
      have e7 := ev f7
      clear hf hr
      refine wp_val (.int .i64 ((z : Int) % mo)) ?_ (hK _ _ (show R20 _ _ _ _ _ _ _ _ _ _ _ _ from rfl) (Below.refl _ _))
      go_simp
      first | done | (rw [if_neg (by omega), Int.tmod_eq_emod_of_nonneg (by omega)])
    · clear hi
      have f8 : R20 bb off n cc b b2 i z mo 8 (a.tmps.getD 157 undef) w2 := hf 8 (List.contains_iff_mem.1 (by kernel_rfl))
      simp only [R20] at f8
      have e8 := ev f8
      clear hf hr
      refine wp_val (.int .i64 (1 + (z : Int) % mo)) ?_ (hK _ _ (show R20 _ _ _ _ _ _ _ _ _ _ _ _ from rfl) (Below.refl _ _))
      go_simp
      first | done | go_num | (rw [IntKind.wrap_i64]; omega)
    · clear hi
      have t12 := (hr 12 (by intro h; revert h; exact of_decide_eq_false (by kernel_rfl))).trans h12
      have f0 : R20 bb off n cc b b2 i z mo 0 (a.tmps.getD 149 undef) w2 := hf 0 (List.contains_iff_mem.1 (by kernel_rfl))
      have f1 : R20 bb off n cc b b2 i z mo 1 (a.tmps.getD 150 undef) w2 := hf 1 (List.contains_iff_mem.1 (by kernel_rfl))
      have f2 : R20 bb off n cc b b2 i z mo 2 (a.tmps.getD 151 undef) w2 := hf 2 (List.contains_iff_mem.1 (by kernel_rfl))
      have f3 : R20 bb off n cc b b2 i z mo 3 (a.tmps.getD 152 undef) w2 := hf 3 (List.contains_iff_mem.1 (by kernel_rfl))
      have f4 : R20 bb off n cc b b2 i z mo 4 (a.tmps.getD 153 undef) w2 := hf 4 (List.contains_iff_mem.1 (by kernel_rfl))
      have f5 : R20 bb off n cc b b2 i z mo 5 (a.tmps.getD 154 undef) w2 := hf 5 (List.contains_iff_mem.1 (by kernel_rfl))
      have f6 : R20 bb off n cc b b2 i z mo 6 (a.tmps.getD 155 undef) w2 := hf 6 (List.contains_iff_mem.1 (by kernel_rfl))
      have f7 : R20 bb off n cc b b2 i z mo 7 (a.tmps.getD 156 undef) w2 := hf 7 (List.contains_iff_mem.1 (by kernel_rfl))
      have f8 : R20 bb off n cc b b2 i z mo 8 (a.tmps.getD 157 undef) w2 := hf 8 (List.contains_iff_mem.1 (by kernel_rfl))
      have f9 : R20 bb off n cc b b2 i z mo 9 (a.tmps.getD 158 undef) w2 := hf 9 (List.contains_iff_mem.1 (by kernel_rfl))
      simp only [R20] at f0
      simp only [R20] at f1
      simp only [R20] at f2
      simp only [R20] at f3
      simp only [R20] at f4
      simp only [R20] at f5
      simp only [R20] at f6
      simp only [R20] at f7
      simp only [R20] at f8
      simp only [R20] at f9
      have e0 := ev f0
      have e1 := ev f1
      have e2 := ev f2
      have e3 := ev f3
      have e4 := ev f4
      have e5 := ev f5
      have e6 := ev f6
      have e7 := ev f7
      have e8 := ev f8
      have e9 := ev f9
      have t12 := ev t12
      clear hf hr
      refine wp_val (.pointer (some ⟨b2, 3, none⟩)) ?_ (hK _ _ (show R20 _ _ _ _ _ _ _ _ _ _ _ _ from rfl) (Below.refl _ _))
      go_simp
      try done
  · intro o a w2 ho hsz2 hdf hb hf hr
    simp only [zD, zE, zF, Option.some.injEq] at ho
    subst ho
    rw [show (List.range 11).map (dstOf _) = [149, 150, 151, 152, 153, 154, 155, 156, 157, 158, 159] from by kernel_rfl] at hr
    have hp := hf 10 (by omega)
    have hv := hf 9 (by omega)
    clear hf
    have hp : a.tmps.getD 159 undef = .pointer (some ⟨b2, 3, none⟩) := hp
    have hv : a.tmps.getD 158 undef = .int .i64 (1 + (z : Int) % mo) := hv
    have hp2 := ev hp
    have hv2 := ev hv
    have hw2 := hwm.below hb
    have hfz := hw2.frozen 3
    have hc := hw2.bx.cell (i := 3) (by simp [msgC])
    simp only [msgC, List.getElem_cons_succ, List.getElem_cons_zero] at hc
    have hQ2 := hQ a w2 (by rw [hsz2, hsz]) hdf (fun d hd => hr d (by
      intro h
      simp only [List.mem_cons, List.not_mem_nil, or_false] at h
      omega)) hb
    unfold Oper.wp
    go_simp
    exact hQ2
def R21 (bb : Nat) (off : Nat) (n : Nat) (cc : Nat) (b : Nat) (b2 : Nat) (i : Nat) (z : Nat) (mo : Int) (clock : Int) (k0 : Nat) (v : Value) (w : World) : Prop :=
  match k0 with
  | 0 => v = .int .i64 clock
  | 1 => v = .int .i64 (clock + 1)
  | 2 => v = .slice (some ⟨bb, off, none⟩) n cc
  | 3 => v = .int .i64 (i : Nat)
  | 4 => v = .int .i64 (i + 1 : Nat)
  | 5 => v = .pointer (some ⟨bb, off + (i + 1), none⟩)
  | 6 => v = .int .u8 (z : Nat)
  | 7 => v = .int .i64 (z : Nat)
  | 8 => v = .pointer (some ⟨b, 4, none⟩)
  | 9 => v = .int .i64 mo
  | 10 => v = .int .i64 ((z : Int) % mo)
  | 11 => v = .int .i64 (clock + 1 + (z : Int) % mo)
  | 12 => v = .pointer (some ⟨b2, 4, none⟩)
  | _ => True
theorem R21.stab {bb : Nat} {off : Nat} {n : Nat} {cc : Nat} {b : Nat} {b2 : Nat} {i : Nat} {z : Nat} {mo : Int} {clock : Int} (k0 : Nat) (v : Value) (w1 w2 : World) (h : R21 bb off n cc b b2 i z mo clock k0 v w1) (hb : Below w1.heap.size w1 w2) : R21 bb off n cc b b2 i z mo clock k0 v w2 := by
  unfold R21 at h ⊢
  split at h <;> first | exact h | (obtain ⟨b, h1, h2⟩ := h; first | exact ⟨b, h1, h2.below hb⟩ | exact ⟨b, h1, h2.1, h2.2.below hb⟩)
set_option maxRecDepth 100000 in
set_option maxHeartbeats 8000000 in
theorem R21_r {bb : Nat} {off : Nat} {n : Nat} {cc : Nat} {b : Nat} {b2 : Nat} {i : Nat} {z : Nat} {mo : Int} {clock : Int} {Q : Exit → Act → World → Prop} {a0 : Act} {w0 : World} (hsz : a0.tmps.size = 196) (h0 : a0.tmps.getD 0 undef = .slice (some ⟨bb, off, none⟩) n cc) (h9 : a0.tmps.getD 9 undef = .pointer (some ⟨b, 0, none⟩)) (h11 : a0.tmps.getD 11 undef = .int .i64 (i : Nat)) (h12 : a0.tmps.getD 12 undef = .pointer (some ⟨b2, 0, none⟩)) (hin : i + 3 < n) (hi7 : i ≤ 70) (hz1 : z < 256) (hbb : bb < w0.heap.size) (hbl : b < w0.heap.size) (c1 : w0.cell? ⟨bb, off + (i + 1), none⟩ = some (.int .u8 (z : Nat))) (cm : w0.cell? ⟨b, 4, none⟩ = some (.int .i64 mo)) (hm1 : 1 ≤ mo) (hm2 : mo ≤ 1000) (hmod0 : 0 ≤ (z : Int) % mo) (hmod1 : (z : Int) % mo < mo) (hc1 : 0 ≤ clock) (hc2 : clock ≤ 1000000) (h2 : a0.tmps.getD 2 undef = .int .i64 clock) {m : Msg} (hwm : Wh w0 b2 (msgC m) 45)
    (hQ : ∀ (a : Act) (W : World), a.tmps.size = 196 → a.defers = a0.defers → (∀ d, d < 97 ∨ d = 195 → a.tmps.getD d undef = a0.tmps.getD d undef) → Below w0.heap.size w0 W → Q .normal a (W.setCell ⟨b2, 4, none⟩ (.int .i64 (clock + 1 + (z : Int) % mo)))) :
  (Code.region 21 #[{ dst := some 160, op := Op.move (Operand.tmp 2), type := 3, pos := "law.go:55", after := #[], guard := none },
   { dst := some 161, op := Op.binOp BinOp.add 3 (Operand.tmp 160) (Operand.const (Value.int IntKind.i64 1)) 3, type := 3, pos := "law.go:55", after := #[{ on := 0, ground := Ground.data }], guard := none },
   { dst := some 162, op := Op.move (Operand.tmp 0), type := 22, pos := "law.go:55", after := #[], guard := none },
   { dst := some 163, op := Op.move (Operand.tmp 11), type := 3, pos := "law.go:55", after := #[], guard := none },
   { dst := some 164, op := Op.binOp BinOp.add 3 (Operand.tmp 163) (Operand.const (Value.int IntKind.i64 1)) 3, type := 3, pos := "law.go:55", after := #[{ on := 3, ground := Ground.data }], guard := none },
   { dst := some 165, op := Op.indexAddr 22 (Operand.tmp 162) (Operand.tmp 164), type := 0, pos := "law.go:55", after := #[{ on := 2, ground := Ground.data }, { on := 4, ground := Ground.data }], guard := none },
   { dst := some 166, op := Op.load 5 (Operand.tmp 165), type := 5, pos := "law.go:55", after := #[{ on := 5, ground := Ground.data }], guard := none },
   { dst := some 167, op := Op.convert 5 3 (Operand.tmp 166), type := 3, pos := "law.go:55", after := #[{ on := 6, ground := Ground.data }], guard := none },
   { dst := some 168, op := Op.fieldAddr 27 (Operand.tmp 9) 4, type := 0, pos := "law.go:55", after := #[], guard := none },
   { dst := some 169, op := Op.load 3 (Operand.tmp 168), type := 3, pos := "law.go:55", after := #[{ on := 8, ground := Ground.data }], guard := none },
   { dst := some 170, op := Op.binOp BinOp.rem 3 (Operand.tmp 167) (Operand.tmp 169) 3, type := 3, pos := "law.go:55", after := #[{ on := 7, ground := Ground.data }, { on := 9, ground := Ground.data }], guard := none },
   { dst := some 171, op := Op.binOp BinOp.add 3 (Operand.tmp 161) (Operand.tmp 170) 3, type := 3, pos := "law.go:55", after := #[{ on := 1, ground := Ground.data }, { on := 10, ground := Ground.data }], guard := none },
   { dst := some 172, op := Op.fieldAddr 45 (Operand.tmp 12) 4, type := 0, pos := "law.go:55", after := #[{ on := 0, ground := Ground.phase }, { on := 1, ground := Ground.phase }, { on := 2, ground := Ground.phase }, { on := 3, ground := Ground.phase }, { on := 4, ground := Ground.phase }, { on := 5, ground := Ground.phase }, { on := 6, ground := Ground.phase }, { on := 7, ground := Ground.phase }, { on := 8, ground := Ground.phase }, { on := 9, ground := Ground.phase }, { on := 10, ground := Ground.phase }, { on := 11, ground := Ground.phase }], guard := none },
   { dst := none, op := Op.store 3 (Operand.tmp 172) (Operand.tmp 171), type := 0, pos := "law.go:55", after := #[{ on := 12, ground := Ground.data }, { on := 11, ground := Ground.data }, { on := 0, ground := Ground.phase }, { on := 1, ground := Ground.phase }, { on := 2, ground := Ground.phase }, { on := 3, ground := Ground.phase }, { on := 4, ground := Ground.phase }, { on := 5, ground := Ground.phase }, { on := 6, ground := Ground.phase }, { on := 7, ground := Ground.phase }, { on := 8, ground := Ground.phase }, { on := 9, ground := Ground.phase }, { on := 10, ground := Ground.phase }, { on := 11, ground := Ground.phase }], guard := none }] true).wp Tryd.prog Q a0 w0 := by
  have hsz0 := hwm.lt
  refine wp_region_each (n := 13) (R21 bb off n cc b b2 i z mo clock) (by kernel_rfl) (by rw [hsz]; kernel_rfl) R21.stab ?_ ?_
  · intro k0 o a w2 hi ho hb hf hr K hK
    obtain rfl | rfl | rfl | rfl | rfl | rfl | rfl | rfl | rfl | rfl | rfl | rfl | rfl := (by omega : k0 = 0 ∨ k0 = 1 ∨ k0 = 2 ∨ k0 = 3 ∨ k0 = 4 ∨ k0 = 5 ∨ k0 = 6 ∨ k0 = 7 ∨ k0 = 8 ∨ k0 = 9 ∨ k0 = 10 ∨ k0 = 11 ∨ k0 = 12)
    all_goals (simp only [zD, zE, zF, Option.some.injEq] at ho; subst ho)
    · clear hi
      have t2 := (hr 2 (by intro h; revert h; exact of_decide_eq_false (by kernel_rfl))).trans h2
      have t2 := ev t2
      clear hf hr
      refine wp_val (.int .i64 clock) ?_ (hK _ _ (show R21 _ _ _ _ _ _ _ _ _ _ _ _ _ from rfl) (Below.refl _ _))
      go_simp
      try done
    · clear hi
      have f0 : R21 bb off n cc b b2 i z mo clock 0 (a.tmps.getD 160 undef) w2 := hf 0 (List.contains_iff_mem.1 (by kernel_rfl))
      simp only [R21] at f0
      have e0 := ev f0
      clear hf hr
      refine wp_val (.int .i64 (clock + 1)) ?_ (hK _ _ (show R21 _ _ _ _ _ _ _ _ _ _ _ _ _ from rfl) (Below.refl _ _))
      go_simp
      first | done | go_num | (rw [IntKind.wrap_i64]; omega)
    · clear hi
      have t0 := (hr 0 (by intro h; revert h; exact of_decide_eq_false (by kernel_rfl))).trans h0
      have t0 := ev t0
      clear hf hr
      refine wp_val (.slice (some ⟨bb, off, none⟩) n cc) ?_ (hK _ _ (show R21 _ _ _ _ _ _ _ _ _ _ _ _ _ from rfl) (Below.refl _ _))
      go_simp
      try done
    · clear hi
      have t11 := (hr 11 (by intro h; revert h; exact of_decide_eq_false (by kernel_rfl))).trans h11
      have t11 := ev t11
      clear hf hr
      refine wp_val (.int .i64 (i : Nat)) ?_ (hK _ _ (show R21 _ _ _ _ _ _ _ _ _ _ _ _ _ from rfl) (Below.refl _ _))
      go_simp
      try done
    · clear hi
      have f3 : R21 bb off n cc b b2 i z mo clock 3 (a.tmps.getD 163 undef) w2 := hf 3 (List.contains_iff_mem.1 (by kernel_rfl))
      simp only [R21] at f3
      have e3 := ev f3
      clear hf hr
      refine wp_val (.int .i64 (i + 1 : Nat)) ?_ (hK _ _ (show R21 _ _ _ _ _ _ _ _ _ _ _ _ _ from rfl) (Below.refl _ _))
      go_simp
      first | done | go_num | (rw [IntKind.wrap_i64]; omega)
    · clear hi
      have f2 : R21 bb off n cc b b2 i z mo clock 2 (a.tmps.getD 162 undef) w2 := hf 2 (List.contains_iff_mem.1 (by kernel_rfl))
      have f4 : R21 bb off n cc b b2 i z mo clock 4 (a.tmps.getD 164 undef) w2 := hf 4 (List.contains_iff_mem.1 (by kernel_rfl))
      simp only [R21] at f2
      simp only [R21] at f4
      have e2 := ev f2
      have e4 := ev f4
      clear hf hr
      refine wp_val (.pointer (some ⟨bb, off + (i + 1), none⟩)) ?_ (hK _ _ (show R21 _ _ _ _ _ _ _ _ _ _ _ _ _ from rfl) (Below.refl _ _))
      go_simp
      first | done | (intro h; exact absurd (h (by omega)) (by omega)) | rw [if_pos (by omega), show ((i : Int) + 1).toNat = i + 1 by omega]
    · clear hi
      have f5 : R21 bb off n cc b b2 i z mo clock 5 (a.tmps.getD 165 undef) w2 := hf 5 (List.contains_iff_mem.1 (by kernel_rfl))
      simp only [R21] at f5
      have e5 := ev f5
      clear hf hr
      have hq := (hb.cell (p := ⟨bb, off + (i + 1), none⟩) hbb).trans c1
      refine wp_val (.int .u8 (z : Nat)) ?_ (hK _ _ (show R21 _ _ _ _ _ _ _ _ _ _ _ _ _ from rfl) (Below.refl _ _))
      go_simp
    · clear hi
      have f6 : R21 bb off n cc b b2 i z mo clock 6 (a.tmps.getD 166 undef) w2 := hf 6 (List.contains_iff_mem.1 (by kernel_rfl))
      simp only [R21] at f6
      have e6 := ev f6
      clear hf hr
      refine wp_val (.int .i64 (z : Nat)) ?_ (hK _ _ (show R21 _ _ _ _ _ _ _ _ _ _ _ _ _ from rfl) (Below.refl _ _))
      go_simp
      first | done | go_num | (rw [IntKind.wrap_i64]; omega)
    · clear hi
      have t9 := (hr 9 (by intro h; revert h; exact of_decide_eq_false (by kernel_rfl))).trans h9
      have t9 := ev t9
      clear hf hr
      refine wp_val (.pointer (some ⟨b, 4, none⟩)) ?_ (hK _ _ (show R21 _ _ _ _ _ _ _ _ _ _ _ _ _ from rfl) (Below.refl _ _))
      go_simp
      try done
    · clear hi
      have f8 : R21 bb off n cc b b2 i z mo clock 8 (a.tmps.getD 168 undef) w2 := hf 8 (List.contains_iff_mem.1 (by kernel_rfl))
      simp only [R21] at f8
      have e8 := ev f8
      clear hf hr
      have hq := (hb.cell (p := ⟨b, 4, none⟩) hbl).trans cm
      refine wp_val (.int .i64 mo) ?_ (hK _ _ (show R21 _ _ _ _ _ _ _ _ _ _ _ _ _ from rfl) (Below.refl _ _))
      go_simp
    · clear hi
      have f7 : R21 bb off n cc b b2 i z mo clock 7 (a.tmps.getD 167 undef) w2 := hf 7 (List.contains_iff_mem.1 (by kernel_rfl))
      have f9 : R21 bb off n cc b b2 i z mo clock 9 (a.tmps.getD 169 undef) w2 := hf 9 (List.contains_iff_mem.1 (by kernel_rfl))
      simp only [R21] at f7
      simp only [R21] at f9
      have e7 := ev f7
      have e9 := ev f9
      clear hf hr
      refine wp_val (.int .i64 ((z : Int) % mo)) ?_ (hK _ _ (show R21 _ _ _ _ _ _ _ _ _ _ _ _ _ from rfl) (Below.refl _ _))
      go_simp
      first | done | (rw [if_neg (by omega), Int.tmod_eq_emod_of_nonneg (by omega)])
    · clear hi
      have f1 : R21 bb off n cc b b2 i z mo clock 1 (a.tmps.getD 161 undef) w2 := hf 1 (List.contains_iff_mem.1 (by kernel_rfl))
      have f10 : R21 bb off n cc b b2 i z mo clock 10 (a.tmps.getD 170 undef) w2 := hf 10 (List.contains_iff_mem.1 (by kernel_rfl))
      simp only [R21] at f1
      simp only [R21] at f10
      have e1 := ev f1
      have e10 := ev f10
      clear hf hr
      refine wp_val (.int .i64 (clock + 1 + (z : Int) % mo)) ?_ (hK _ _ (show R21 _ _ _ _ _ _ _ _ _ _ _ _ _ from rfl) (Below.refl _ _))
      go_simp
      first | done | go_num | (rw [IntKind.wrap_i64]; omega)
    · clear hi
      have t12 := (hr 12 (by intro h; revert h; exact of_decide_eq_false (by kernel_rfl))).trans h12
      have f0 : R21 bb off n cc b b2 i z mo clock 0 (a.tmps.getD 160 undef) w2 := hf 0 (List.contains_iff_mem.1 (by kernel_rfl))
      have f1 : R21 bb off n cc b b2 i z mo clock 1 (a.tmps.getD 161 undef) w2 := hf 1 (List.contains_iff_mem.1 (by kernel_rfl))
      have f2 : R21 bb off n cc b b2 i z mo clock 2 (a.tmps.getD 162 undef) w2 := hf 2 (List.contains_iff_mem.1 (by kernel_rfl))
      have f3 : R21 bb off n cc b b2 i z mo clock 3 (a.tmps.getD 163 undef) w2 := hf 3 (List.contains_iff_mem.1 (by kernel_rfl))
      have f4 : R21 bb off n cc b b2 i z mo clock 4 (a.tmps.getD 164 undef) w2 := hf 4 (List.contains_iff_mem.1 (by kernel_rfl))
      have f5 : R21 bb off n cc b b2 i z mo clock 5 (a.tmps.getD 165 undef) w2 := hf 5 (List.contains_iff_mem.1 (by kernel_rfl))
      have f6 : R21 bb off n cc b b2 i z mo clock 6 (a.tmps.getD 166 undef) w2 := hf 6 (List.contains_iff_mem.1 (by kernel_rfl))
      have f7 : R21 bb off n cc b b2 i z mo clock 7 (a.tmps.getD 167 undef) w2 := hf 7 (List.contains_iff_mem.1 (by kernel_rfl))
      have f8 : R21 bb off n cc b b2 i z mo clock 8 (a.tmps.getD 168 undef) w2 := hf 8 (List.contains_iff_mem.1 (by kernel_rfl))
      have f9 : R21 bb off n cc b b2 i z mo clock 9 (a.tmps.getD 169 undef) w2 := hf 9 (List.contains_iff_mem.1 (by kernel_rfl))
      have f10 : R21 bb off n cc b b2 i z mo clock 10 (a.tmps.getD 170 undef) w2 := hf 10 (List.contains_iff_mem.1 (by kernel_rfl))
      have f11 : R21 bb off n cc b b2 i z mo clock 11 (a.tmps.getD 171 undef) w2 := hf 11 (List.contains_iff_mem.1 (by kernel_rfl))
      simp only [R21] at f0
      simp only [R21] at f1
      simp only [R21] at f2
      simp only [R21] at f3
      simp only [R21] at f4
      simp only [R21] at f5
      simp only [R21] at f6
      simp only [R21] at f7
      simp only [R21] at f8
      simp only [R21] at f9
      simp only [R21] at f10
      simp only [R21] at f11
      have e0 := ev f0
      have e1 := ev f1
      have e2 := ev f2
      have e3 := ev f3
      have e4 := ev f4
      have e5 := ev f5
      have e6 := ev f6
      have e7 := ev f7
      have e8 := ev f8
      have e9 := ev f9
      have e10 := ev f10
      have e11 := ev f11
      have t12 := ev t12
      clear hf hr
      refine wp_val (.pointer (some ⟨b2, 4, none⟩)) ?_ (hK _ _ (show R21 _ _ _ _ _ _ _ _ _ _ _ _ _ from rfl) (Below.refl _ _))
      go_simp
      try done
  · intro o a w2 ho hsz2 hdf hb hf hr
    simp only [zD, zE, zF, Option.some.injEq] at ho
    subst ho
    rw [show (List.range 13).map (dstOf _) = [160, 161, 162, 163, 164, 165, 166, 167, 168, 169, 170, 171, 172] from by kernel_rfl] at hr
    have hp := hf 12 (by omega)
    have hv := hf 11 (by omega)
    clear hf
    have hp : a.tmps.getD 172 undef = .pointer (some ⟨b2, 4, none⟩) := hp
    have hv : a.tmps.getD 171 undef = .int .i64 (clock + 1 + (z : Int) % mo) := hv
    have hp2 := ev hp
    have hv2 := ev hv
    have hw2 := hwm.below hb
    have hfz := hw2.frozen 4
    have hc := hw2.bx.cell (i := 4) (by simp [msgC])
    simp only [msgC, List.getElem_cons_succ, List.getElem_cons_zero] at hc
    have hQ2 := hQ a w2 (by rw [hsz2, hsz]) hdf (fun d hd => hr d (by
      intro h
      simp only [List.mem_cons, List.not_mem_nil, or_false] at h
      omega)) hb
    unfold Oper.wp
    go_simp
    exact hQ2
end Go.Proofs.YtmdkonfmbbbepaaDoor
set_option linter.unusedVariables false
set_option linter.unusedSimpArgs false
namespace Go.Proofs.YtmdkonfmbbbepaaDoor
open Go.RowKit Go.Rst Go.Tp Go.Ts Go.Inv
structure TF (L : List Value) (a : Act) (s : Int) (i : Nat) : Prop where
  size : a.tmps.size = 196
  defers : a.defers = []
  low : (((a.tmps.toList.take 53).set 10 undef).set 11 undef).set 12 undef = L
  t10 : a.tmps.getD 10 undef = .int .i64 s
  t11 : a.tmps.getD 11 undef = .int .i64 (i : Nat)
  t195 : a.tmps.getD 195 undef = undef
theorem getD_list (t : Array Value) (d : Nat) (h : d < t.size) : t.toList[d]'(by simpa using h) = t.getD d undef := by
  rw [Array.getD_eq_getD_getElem?, Array.getElem?_eq_getElem h]
  simp
theorem TF.keep {L : List Value} {a a' : Act} {s : Int} {i : Nat} (hsz : a'.tmps.size = 196) (hd : a'.defers = a.defers) (hr : ∀ d, d < 97 ∨ d = 195 → d ≠ 12 → a'.tmps.getD d undef = a.tmps.getD d undef) (h : TF L a s i) : TF L a' s i := by
  refine ⟨hsz, hd.trans h.defers, ?_, (hr 10 (by omega) (by omega)).trans h.t10, (hr 11 (by omega) (by omega)).trans h.t11, (hr 195 (by omega) (by omega)).trans h.t195⟩
  rw [← h.low]
  refine List.ext_getElem (by simp [hsz, h.size]) fun d h1 h2 => ?_
  have hd5 : d < 53 := by simp [hsz] at h1; omega
  by_cases e12 : d = 12
  · subst e12; simp
  have e := hr d (by omega) e12
  rw [← getD_list _ d (by omega), ← getD_list _ d (by have := h.size; omega)] at e
  simp only [List.getElem_set, List.getElem_take, e]
theorem TF.get {L : List Value} {a : Act} {s : Int} {i : Nat} (h : TF L a s i) {d : Nat} (hd : d < 53) (h1 : d ≠ 10) (h2 : d ≠ 11) (h3 : d ≠ 12) : a.tmps.getD d undef = L.getD d undef := by
  have hsz := h.size
  rw [← h.low, ← getD_list _ d (by omega), List.getD_eq_getElem?_getD, List.getElem?_eq_getElem (by simp [hsz]; omega)]
  simp [List.getElem_set, List.getElem_take, Ne.symm h1, Ne.symm h2, Ne.symm h3]
theorem TF.lit {L : List Value} {a : Act} {s : Int} {i b2 : Nat} (h : TF L a s i) (h12 : a.tmps.getD 12 undef = .pointer (some ⟨b2, 0, none⟩)) : ∃ ys : List Value, ys.length = 143 ∧ ys.getD 142 undef = undef ∧ a = { tmps := ((((L.set 10 (.int .i64 s)).set 11 (.int .i64 (i : Nat))).set 12 (.pointer (some ⟨b2, 0, none⟩))) ++ ys).toArray, defers := [] } := by
  refine ⟨a.tmps.toList.drop 53, by simp [h.size], ?_, ?_⟩
  · have hsz := h.size
    have := getD_list a.tmps 195 (by omega)
    rw [h.t195] at this
    rw [List.getD_eq_getElem?_getD, List.getElem?_drop, List.getElem?_eq_getElem (by simp [hsz])]
    simpa using this
  obtain ⟨t, df⟩ := a
  have hdf : df = [] := h.defers
  have hsz : t.size = 196 := h.size
  have hlow : (((t.toList.take 53).set 10 undef).set 11 undef).set 12 undef = L := h.low
  have g10 : t.getD 10 undef = .int .i64 s := h.t10
  have g11 : t.getD 11 undef = .int .i64 (i : Nat) := h.t11
  have g12 : t.getD 12 undef = .pointer (some ⟨b2, 0, none⟩) := h12
  subst hdf
  have e : t.toList.take 53 = ((L.set 10 (.int .i64 s)).set 11 (.int .i64 (i : Nat))).set 12 (.pointer (some ⟨b2, 0, none⟩)) := by
    rw [← hlow, ← g10, ← g11, ← g12]
    refine List.ext_getElem (by simp) fun d h1 h2 => ?_
    have hd5 : d < 53 := by simp [hsz] at h1; omega
    have e := getD_list t d (by omega)
    simp only [List.getElem_set, List.getElem_take]
    by_cases e12 : 12 = d
    · subst e12; simp [e]
    by_cases e11 : 11 = d
    · subst e11; simp [e]
    by_cases e10 : 10 = d
    · subst e10; simp [e]
    simp [e12, e11, e10]
  show (⟨t, []⟩ : Act) = ⟨_, []⟩
  rw [← e, List.take_append_drop]
set_option maxRecDepth 100000 in
theorem TF.elim {L : List Value} {a : Act} {s : Int} {i b2 : Nat} {motive : Act → Prop} (h : TF L a s i) (h12 : a.tmps.getD 12 undef = .pointer (some ⟨b2, 0, none⟩)) (H : ∀ y53 y54 y55 y56 y57 y58 y59 y60 y61 y62 y63 y64 y65 y66 y67 y68 y69 y70 y71 y72 y73 y74 y75 y76 y77 y78 y79 y80 y81 y82 y83 y84 y85 y86 y87 y88 y89 y90 y91 y92 y93 y94 y95 y96 y97 y98 y99 y100 y101 y102 y103 y104 y105 y106 y107 y108 y109 y110 y111 y112 y113 y114 y115 y116 y117 y118 y119 y120 y121 y122 y123 y124 y125 y126 y127 y128 y129 y130 y131 y132 y133 y134 y135 y136 y137 y138 y139 y140 y141 y142 y143 y144 y145 y146 y147 y148 y149 y150 y151 y152 y153 y154 y155 y156 y157 y158 y159 y160 y161 y162 y163 y164 y165 y166 y167 y168 y169 y170 y171 y172 y173 y174 y175 y176 y177 y178 y179 y180 y181 y182 y183 y184 y185 y186 y187 y188 y189 y190 y191 y192 y193 y194 : Value, motive { tmps := ((((L.set 10 (.int .i64 s)).set 11 (.int .i64 (i : Nat))).set 12 (.pointer (some ⟨b2, 0, none⟩))) ++ [y53, y54, y55, y56, y57, y58, y59, y60, y61, y62, y63, y64, y65, y66, y67, y68, y69, y70, y71, y72, y73, y74, y75, y76, y77, y78, y79, y80, y81, y82, y83, y84, y85, y86, y87, y88, y89, y90, y91, y92, y93, y94, y95, y96, y97, y98, y99, y100, y101, y102, y103, y104, y105, y106, y107, y108, y109, y110, y111, y112, y113, y114, y115, y116, y117, y118, y119, y120, y121, y122, y123, y124, y125, y126, y127, y128, y129, y130, y131, y132, y133, y134, y135, y136, y137, y138, y139, y140, y141, y142, y143, y144, y145, y146, y147, y148, y149, y150, y151, y152, y153, y154, y155, y156, y157, y158, y159, y160, y161, y162, y163, y164, y165, y166, y167, y168, y169, y170, y171, y172, y173, y174, y175, y176, y177, y178, y179, y180, y181, y182, y183, y184, y185, y186, y187, y188, y189, y190, y191, y192, y193, y194, undef]).toArray, defers := [] }) : motive a := by
  obtain ⟨ys, hyl, hlast, e⟩ := h.lit h12
  have e2 : ys = (List.range 143).map (fun k => if k = 142 then undef else ys.getD k undef) := List.ext_getElem (by simp [hyl]) (fun k h1 h2 => by
    rw [List.getElem_map, List.getElem_range]
    by_cases h : k = 142
    · subst h
      rw [if_pos rfl, ← hlast, List.getD_eq_getElem?_getD, List.getElem?_eq_getElem h1]
      rfl
    · rw [if_neg h]
      simp [h1])
  rw [e, e2]
  exact H _ _ _ _ _ _ _ _ _ _ _ _ _ _ _ _ _ _ _ _ _ _ _ _ _ _ _ _ _ _ _ _ _ _ _ _ _ _ _ _ _ _ _ _ _ _ _ _ _ _ _ _ _ _ _ _ _ _ _ _ _ _ _ _ _ _ _ _ _ _ _ _ _ _ _ _ _ _ _ _ _ _ _ _ _ _ _ _ _ _ _ _ _ _ _ _ _ _ _ _ _ _ _ _ _ _ _ _ _ _ _ _ _ _ _ _ _ _ _ _ _ _ _ _ _ _ _ _ _ _ _ _ _ _ _ _ _ _ _ _ _ _
structure MFs (w W4 wr : World) (b b2 : Nat) (x : Sub) (av qv : Value) (W : World) (m : Msg) : Prop where
  fm : Wh W b2 (msgC m) 45
  fx : Wh W b (subC x av qv) 27
  fa : OI W4.heap.size W av x.acks
  fq : OM W4.heap.size W qv x.queue
  fz : Wh W w.heap.size (subC noSub (.slice none 0 0) (.slice none 0 0)) 27
  fl : Below w.heap.size w W
  fs : W4.heap.size ≤ W.heap.size
  fc : Below wr.heap.size wr W
  fb : wr.heap.size ≤ b2
  bl : b < wr.heap.size
  wl : w.heap.size < wr.heap.size
  oa : ∀ k, av.ownBlock = some k → k < wr.heap.size
  oq : ∀ k, qv.ownBlock = some k → k < wr.heap.size
theorem MFs.below {w W4 wr : World} {b b2 : Nat} {x : Sub} {av qv : Value} {W W' : World} {m : Msg} (h : MFs w W4 wr b b2 x av qv W m) (hb : Below W.heap.size W W') : MFs w W4 wr b b2 x av qv W' m :=
  ⟨h.fm.below hb, h.fx.below hb, own_below h.fa hb, own_below h.fq hb, h.fz.below hb, h.fl.trans (hb.mono h.fl.size), Nat.le_trans h.fs hb.size, h.fc.trans (hb.mono h.fc.size), h.fb, h.bl, h.wl, h.oa, h.oq⟩
theorem MFs.set1 {w W4 wr : World} {b b2 : Nat} {x : Sub} {av qv : Value} {W : World} {m m' : Msg} (h : MFs w W4 wr b b2 x av qv W m) (k : Nat) (v : Value) (hm : (msgC m).set k v = msgC m') : MFs w W4 wr b b2 x av qv (W.setCell ⟨b2, k, none⟩ v) m' := by
  have hg := grown_cell W b2 k v
  have h1 := h.fb
  have h2 := h.bl
  have h3 := h.wl
  refine ⟨hm ▸ h.fm.set1 k v, h.fx.set1Other (by omega) k v, own_apart h.fa hg (fun j hj => by have := h.oa j hj; omega), own_apart h.fq hg (fun j hj => by have := h.oq j hj; omega), h.fz.set1Other (by omega) k v, h.fl.setCell (p := ⟨b2, k, none⟩) (show w.heap.size ≤ b2 by omega) v, Nat.le_trans h.fs hg.size, h.fc.setCell (p := ⟨b2, k, none⟩) (show wr.heap.size ≤ b2 from h1) v, h1, h2, h3, h.oa, h.oq⟩
end Go.Proofs.YtmdkonfmbbbepaaDoor
set_option linter.unusedVariables false
set_option linter.unusedSimpArgs false
namespace Go.Proofs.YtmdkonfmbbbepaaDoor
open Go.RowKit Go.Rst Go.Tp Go.Ts Go.Inv
theorem att3_len (n : Nat) : (att3 n).length ≤ 30 := by
  unfold att3
  repeat' split
  all_goals decide
theorem msg_head (s : Int) (z1 z2 : Nat) (p : Int) (hp1 : 0 ≤ p) (hp2 : p ≤ 9) : (60 < (txt z1 (z1 % 61)).length || !attrsB (att3 (z2 % 3)) || decide (p < 0) || decide (9 < p)) = false := by
  have h1 : ¬ 60 < (txt z1 (z1 % 61)).length := by rw [txt_len]; omega
  have h2 : ¬ p < 0 := by omega
  have h3 : ¬ 9 < p := by omega
  rw [att3_ok _ (Nat.mod_lt _ (by omega))]
  simp [h1, h2, h3]
theorem msg_fresh (s : Int) (z1 z2 : Nat) (p t lease most clock : Int) (hp1 : 0 ≤ p) (hp2 : p ≤ 9) (ht1 : 0 ≤ t) (ht2 : t < most) : msgB { m0 s z1 z2 with prio := p, tries := t } lease most clock = true := by
  show (if (60 < (txt z1 (z1 % 61)).length || !attrsB (att3 (z2 % 3)) || decide (p < 0) || decide (9 < p)) = true then false else _) = true
  rw [msg_head s z1 z2 p hp1 hp2]
  simp [m0, ht1, ht2]
theorem msg_out (s : Int) (z1 z2 : Nat) (p t u lease most clock : Int) (hp1 : 0 ≤ p) (hp2 : p ≤ 9) (ht1 : 1 ≤ t) (ht2 : t ≤ most) (hc : 0 ≤ clock) (hu1 : clock < u) (hu2 : u ≤ clock + lease) (hb : clock + lease ≤ 10000000) : msgB { m0 s z1 z2 with prio := p, tries := t, til := u } lease most clock = true := by
  show (if (60 < (txt z1 (z1 % 61)).length || !attrsB (att3 (z2 % 3)) || decide (p < 0) || decide (9 < p)) = true then false else _) = true
  rw [msg_head s z1 z2 p hp1 hp2]
  have hw : w64 (clock + lease) = clock + lease := by unfold w64 RowKit.wrap64; omega
  have hu0 : ¬ u = 0 := by omega
  simp [m0, ht1, ht2, hw, hu0, hu1, hu2]
theorem msg_dead (s : Int) (z1 z2 : Nat) (p lease most clock : Int) (y : List UInt8) (hy : y = [110, 97, 99, 107] ∨ y = [116, 105, 109, 101]) (hp1 : 0 ≤ p) (hp2 : p ≤ 9) : msgB { m0 s z1 z2 with prio := p, dead := true, tries := most, why := y } lease most clock = true := by
  show (if (60 < (txt z1 (z1 % 61)).length || !attrsB (att3 (z2 % 3)) || decide (p < 0) || decide (9 < p)) = true then false else _) = true
  rw [msg_head s z1 z2 p hp1 hp2]
  rcases hy with rfl | rfl <;> simp [m0]
end Go.Proofs.YtmdkonfmbbbepaaDoor
