/-
  The contracts of the document's own ten, Key and Parts (layer state), at keys.
-/
import Derived.Test.YtmdkonfmbbbepaaDoorKUBC
import Derived.Test.YtmdkonfmbbbepaaDoorKUCF
import Derived.Test.YtmdkonfmbbbepaaDoorKUCI
set_option linter.unusedVariables false
set_option linter.unusedVariables false
set_option linter.unusedSimpArgs false
namespace Go.Tk
open Go
theorem pad_one : ∀ k n, n < 10 ^ k → pad (k + 1) (10 ^ k + n) = 49 :: pad k n
  | 0, n, h => by
    have : n = 0 := by simpa using h
    subst this
    rfl
  | k + 1, n, h => by
    have h1 : (10 ^ (k + 1) + n) / 10 = 10 ^ k + n / 10 := by rw [Nat.pow_succ]; omega
    have h2 : (10 ^ (k + 1) + n) % 10 = n % 10 := by rw [Nat.pow_succ]; omega
    show pad (k + 1) ((10 ^ (k + 1) + n) / 10) ++ [UInt8.ofNat (48 + (10 ^ (k + 1) + n) % 10)] = 49 :: (pad k (n / 10) ++ [UInt8.ofNat (48 + n % 10)])
    rw [h1, h2, pad_one k (n / 10) (by rw [Nat.div_lt_iff_lt_mul (by decide)]; rw [Nat.pow_succ] at h; exact h)]
    rfl
theorem dec_ten (n : Nat) (h : n ≤ 9999999999) : Lib.decDigits (10000000000 + n) = 49 :: pad 10 n := by
  have h1 := dec_pad 10 (10 ^ 10 + n) (by omega)
  rw [pad_one 10 n (by omega)] at h1
  have h2 := congrArg List.length h1
  simp only [List.length_append, List.length_replicate, List.length_cons, pad_len] at h2
  by_cases hl : (Lib.decDigits (10 ^ 10 + n)).length ≤ 10
  · exfalso
    obtain ⟨m, hm⟩ : ∃ m, 10 + 1 - (Lib.decDigits (10 ^ 10 + n)).length = m + 1 := ⟨10 - (Lib.decDigits (10 ^ 10 + n)).length, by omega⟩
    rw [hm, List.replicate_succ, List.cons_append] at h1
    injection h1 with h1 _
    exact absurd h1 (by decide)
  · rw [show 10 + 1 - (Lib.decDigits (10 ^ 10 + n)).length = 0 by omega, List.replicate_zero, List.nil_append] at h1
    exact h1
theorem dec_one {v : Nat} (h : v < 10) : Lib.decDigits v = [UInt8.ofNat (48 + v)] := Lib.decDigits_one h
end Go.Tk
namespace Go.Proofs.YtmdkonfmbbbepaaDoor
open Go.RowKit Go.Rst Go.Tp Go.Ts Go.Tk Go.Inv
theorem itoa_ten (n : Nat) (hn : n ≤ 9999999999) (w : World) (ht : Pow w) : Calls Tryd.prog 49 #[.int .i64 (10000000000 + (n : Int))] w fun e w' => e = .returned (sv (49 :: pad 10 n)) ∧ Below w.heap.size w w' := by
  have h := Tryd.strconv_Itoa (10000000000 + (n : Int)) (by omega) (by omega) w ht
  refine h.mono ?_
  rintro e w' ⟨rfl, k, os, rfl⟩
  refine ⟨?_, ?_⟩
  · unfold Lib.itoa
    rw [if_neg (by omega)]
    rw [show ((10000000000 + (n : Int)).toNat) = 10000000000 + n by omega, dec_ten n hn]
  · exact Lib.below_grow _ w (Nat.le_refl _) k os
set_option maxRecDepth 100000 in
set_option maxHeartbeats 2000000 in
theorem ten_any (n : Nat) (hn : n ≤ 9999999999) (w : World) (ht : Pow w) : Calls Tryd.prog 50 #[.int .i64 n] w fun e w' => e = .returned (sv (pad 10 n)) ∧ Below w.heap.size w w' := by
  have HI := Lib.hid (itoa_ten n hn w ht)
  have hl := pad_len 10 n
  obtain ⟨L, hL⟩ : ∃ L, L = pad 10 n := ⟨_, rfl⟩
  rw [← hL] at HI hl ⊢
  have hx : (⟨(49 :: L).toArray⟩ : ByteArray).extract 1 11 = ⟨L.toArray⟩ := by
    rw [ext_str]
    rw [show (49 :: L).drop 1 = L from rfl, List.take_of_length_le (by omega)]
  have hsz : (49 :: L).length = 11 := by simp [hl]
  clear ht hL
  go_enter Tryd.func50, Tryd.ntmps50
  go_wp2_with (first
    | (refine wpList_max3 rfl (.tmp 4) (.const (.int .i64 0)) _ rfl rfl rfl (n := (n : Int)) (by rw [if_neg (by omega)]) ?_)
    | (refine wpList_max2 rfl (.const (.int .i64 0)) (.tmp 4) _ rfl rfl rfl (n := (n : Int)) ?_ ?_)
    | (refine wpList_min3 rfl (.tmp 3) (.const (.int .i64 9999999999)) _ rfl rfl rfl (n := (n : Int)) (by rw [if_neg (by omega)]) ?_))
  refine HI.out.mono ?_
  rintro e w1 ⟨rfl, hb1⟩
  have HB1 := Lib.hid hb1
  clear hb1
  go_wp2
  go_ret
  exact ⟨rfl, HB1.out⟩
def RK (v : Nat) (t : UInt8) (id : Nat) (seq : Nat) (z : UInt8) (A : List UInt8) (B : List UInt8) (k0 : Nat) (v9 : Value) (w : World) : Prop :=
  match k0 with
  | 0 => v9 = .int .i64 (v : Int)
  | 1 => v9 = sv [z]
  | 2 => v9 = .int .u8 t.toNat
  | 3 => ∃ g, v9 = .slice (some ⟨g, 0, none⟩) 1 1 ∧ RB w v9 [t]
  | 4 => v9 = sv [t]
  | 5 => v9 = sv [z, t]
  | 6 => v9 = .int .i64 (id : Int)
  | 7 => v9 = sv A
  | 8 => v9 = sv ([z, t] ++ A)
  | 9 => v9 = .int .i64 (seq : Int)
  | 10 => v9 = sv B
  | 11 => v9 = sv ([z, t] ++ A ++ B)
  | 12 => v9 = sv ([z, t] ++ A ++ B)
  | _ => True
theorem RK.stab {v : Nat} {t : UInt8} {id : Nat} {seq : Nat} {z : UInt8} {A : List UInt8} {B : List UInt8} (k0 : Nat) (v9 : Value) (w1 w2 : World) (h : RK v t id seq z A B k0 v9 w1) (hb : Below w1.heap.size w1 w2) : RK v t id seq z A B k0 v9 w2 := by
  unfold RK at h ⊢
  split at h <;> first | exact h | (obtain ⟨g, h1, h2⟩ := h; exact ⟨g, h1, h2.below hb⟩)
set_option maxRecDepth 100000 in
set_option maxHeartbeats 8000000 in
theorem RK_r {v : Nat} {t : UInt8} {id : Nat} {seq : Nat} {z : UInt8} {A : List UInt8} {B : List UInt8} {Q : Exit → Act → World → Prop} {a0 : Act} {w0 : World} (hsz : a0.tmps.size = 28) (h9 : a0.tmps.getD 9 undef = .int .i64 (v : Int)) (h1 : a0.tmps.getD 1 undef = .int .u8 t.toNat) (h2 : a0.tmps.getD 2 undef = .int .i64 (id : Int)) (h3 : a0.tmps.getD 3 undef = .int .i64 (seq : Int)) (hv : v < 10) (hi : id ≤ 9999999999) (hs : seq ≤ 9999999999) (hz : z = UInt8.ofNat (48 + v)) (hA : A = pad 10 id) (hB : B = pad 10 seq) (hp : Pow w0)
    (hQ : ∀ (a : Act) (W : World), a.tmps.size = a0.tmps.size → a.defers = a0.defers → Below w0.heap.size w0 W → a.tmps.getD 8 undef = sv ([z, t] ++ A ++ B) → Q .normal a W) :
  (Code.region 4 #[{ dst := some 16, op := Op.move (Operand.tmp 9), type := 3, pos := "ref.go:202", after := #[], guard := none },
   { dst := some 17, op := Op.call { callee := Callee.value (Operand.func 49), args := #[Operand.tmp 16], argTypes := #[3] }, type := 9, pos := "ref.go:202", after := #[{ on := 0, ground := Ground.data }], guard := none },
   { dst := some 18, op := Op.move (Operand.tmp 1), type := 5, pos := "ref.go:202", after := #[], guard := none },
   { dst := some 19, op := Op.buildSlice 22 1 #[(0, Operand.tmp 18)], type := 22, pos := "ref.go:202", after := #[{ on := 2, ground := Ground.data }], guard := none },
   { dst := some 20, op := Op.convert 22 9 (Operand.tmp 19), type := 9, pos := "ref.go:202", after := #[{ on := 3, ground := Ground.data }], guard := none },
   { dst := some 21, op := Op.binOp BinOp.add 9 (Operand.tmp 17) (Operand.tmp 20) 9, type := 9, pos := "ref.go:202", after := #[{ on := 1, ground := Ground.data }, { on := 4, ground := Ground.data }], guard := none },
   { dst := some 22, op := Op.move (Operand.tmp 2), type := 3, pos := "ref.go:202", after := #[], guard := none },
   { dst := some 23, op := Op.call { callee := Callee.value (Operand.func 50), args := #[Operand.tmp 22], argTypes := #[3] }, type := 9, pos := "ref.go:202", after := #[{ on := 6, ground := Ground.data }, { on := 1, ground := Ground.chain }], guard := none },
   { dst := some 24, op := Op.binOp BinOp.add 9 (Operand.tmp 21) (Operand.tmp 23) 9, type := 9, pos := "ref.go:202", after := #[{ on := 5, ground := Ground.data }, { on := 7, ground := Ground.data }], guard := none },
   { dst := some 25, op := Op.move (Operand.tmp 3), type := 3, pos := "ref.go:202", after := #[], guard := none },
   { dst := some 26, op := Op.call { callee := Callee.value (Operand.func 50), args := #[Operand.tmp 25], argTypes := #[3] }, type := 9, pos := "ref.go:202", after := #[{ on := 9, ground := Ground.data }, { on := 7, ground := Ground.chain }], guard := none },
   { dst := some 27, op := Op.binOp BinOp.add 9 (Operand.tmp 24) (Operand.tmp 26) 9, type := 9, pos := "ref.go:202", after := #[{ on := 8, ground := Ground.data }, { on := 10, ground := Ground.data }], guard := none },
   { dst := some 8, op := Op.assign (Operand.tmp 27), type := 9, pos := "ref.go:202", after := #[{ on := 11, ground := Ground.data }, { on := 10, ground := Ground.chain }, { on := 0, ground := Ground.phase }, { on := 1, ground := Ground.phase }, { on := 2, ground := Ground.phase }, { on := 3, ground := Ground.phase }, { on := 4, ground := Ground.phase }, { on := 5, ground := Ground.phase }, { on := 6, ground := Ground.phase }, { on := 7, ground := Ground.phase }, { on := 8, ground := Ground.phase }, { on := 9, ground := Ground.phase }, { on := 10, ground := Ground.phase }, { on := 11, ground := Ground.phase }], guard := none }] true).wp Tryd.prog Q a0 w0 := by
  refine wp_region_all (RK v t id seq z A B) (by kernel_rfl) (by rw [hsz]; kernel_rfl) RK.stab ?_ ?_
  · intro k0 o a w2 ho hb hf hr K hK
    have hi := (Array.getElem?_eq_some_iff.1 ho).1
    obtain rfl | rfl | rfl | rfl | rfl | rfl | rfl | rfl | rfl | rfl | rfl | rfl | rfl := (by have h9 : k0 < 13 := hi; clear hi ho; omega : k0 = 0 ∨ k0 = 1 ∨ k0 = 2 ∨ k0 = 3 ∨ k0 = 4 ∨ k0 = 5 ∨ k0 = 6 ∨ k0 = 7 ∨ k0 = 8 ∨ k0 = 9 ∨ k0 = 10 ∨ k0 = 11 ∨ k0 = 12)
    all_goals (simp only [zD, zE, zF, Option.some.injEq] at ho; subst ho)
    · clear hi
      have t9 := (hr 9 (by intro h; revert h; exact of_decide_eq_false (by kernel_rfl))).trans h9
      have t9 := ev t9
      clear hf hr
      refine wp_val (.int .i64 (v : Int)) ?_ (hK _ _ (show RK _ _ _ _ _ _ _ _ _ _ from rfl) (Below.refl _ _))
      go_simp
      try done
    · clear hi
      have f0 : RK v t id seq z A B 0 (a.tmps.getD 16 undef) w2 := hf 0 (List.contains_iff_mem.1 (by kernel_rfl))
      simp only [RK] at f0
      have e0 := ev f0
      clear hf hr
      have hg := itoa_any v (by omega) w2 (hp.below hb)
      rw [dec_one hv, ← hz] at hg
      clear hz hA hB
      go_simp
      refine hg.mono ?_
      rintro e w3 ⟨rfl, h3⟩
      go_simp
      exact hK _ _ (show RK _ _ _ _ _ _ _ _ _ _ from rfl) h3
    · clear hi
      have t1 := (hr 1 (by intro h; revert h; exact of_decide_eq_false (by kernel_rfl))).trans h1
      have t1 := ev t1
      clear hf hr
      refine wp_val (.int .u8 t.toNat) ?_ (hK _ _ (show RK _ _ _ _ _ _ _ _ _ _ from rfl) (Below.refl _ _))
      go_simp
      try done
    · clear hi
      have f2 : RK v t id seq z A B 2 (a.tmps.getD 18 undef) w2 := hf 2 (List.contains_iff_mem.1 (by kernel_rfl))
      simp only [RK] at f2
      have e2 := ev f2
      clear hf hr
      have g2 : a.tmps[18]?.getD undef = .int .u8 t.toNat := by rw [← Array.getD_eq_getD_getElem?]; exact f2
      clear hz hA hB
      go_simp
      refine hK _ _ ⟨w2.heap.size, rfl, ?_⟩ ((Below.refl _ w2).alloc (Nat.le_refl _) _)
      exact RB.lit w2 5 (0, 0) [t] #[.int .u8 t.toNat] rfl 1 rfl (by decide)
    · clear hi
      have f3 : RK v t id seq z A B 3 (a.tmps.getD 19 undef) w2 := hf 3 (List.contains_iff_mem.1 (by kernel_rfl))
      simp only [RK] at f3
      obtain ⟨g3, f3, r3⟩ := f3
      have e3 := ev f3
      clear hf hr
      have hq := str22 r3
      rw [f3] at hq
      clear hz hA hB
      refine wp_val (sv [t]) ?_ (hK _ _ (show RK _ _ _ _ _ _ _ _ _ _ from rfl) (Below.refl _ _))
      go_simp
      try done
    · clear hi
      have f1 : RK v t id seq z A B 1 (a.tmps.getD 17 undef) w2 := hf 1 (List.contains_iff_mem.1 (by kernel_rfl))
      have f4 : RK v t id seq z A B 4 (a.tmps.getD 20 undef) w2 := hf 4 (List.contains_iff_mem.1 (by kernel_rfl))
      simp only [RK] at f1
      simp only [RK] at f4
      have e1 := ev f1
      have e4 := ev f4
      clear hf hr
      have hc := ext_cat [z] [t]
      clear hz hA hB
      refine wp_val (sv [z, t]) ?_ (hK _ _ (show RK _ _ _ _ _ _ _ _ _ _ from rfl) (Below.refl _ _))
      go_simp
      try simp [hc]
      try done
    · clear hi
      have t2 := (hr 2 (by intro h; revert h; exact of_decide_eq_false (by kernel_rfl))).trans h2
      have t2 := ev t2
      clear hf hr
      refine wp_val (.int .i64 (id : Int)) ?_ (hK _ _ (show RK _ _ _ _ _ _ _ _ _ _ from rfl) (Below.refl _ _))
      go_simp
      try done
    · clear hi
      have f1 : RK v t id seq z A B 1 (a.tmps.getD 17 undef) w2 := hf 1 (List.contains_iff_mem.1 (by kernel_rfl))
      have f6 : RK v t id seq z A B 6 (a.tmps.getD 22 undef) w2 := hf 6 (List.contains_iff_mem.1 (by kernel_rfl))
      simp only [RK] at f1
      simp only [RK] at f6
      have e1 := ev f1
      have e6 := ev f6
      clear hf hr
      have hg := ten_any id hi w2 (hp.below hb)
      rw [← hA] at hg
      clear hz hA hB
      go_simp
      refine hg.mono ?_
      rintro e w3 ⟨rfl, h3⟩
      go_simp
      exact hK _ _ (show RK _ _ _ _ _ _ _ _ _ _ from rfl) h3
    · clear hi
      have f5 : RK v t id seq z A B 5 (a.tmps.getD 21 undef) w2 := hf 5 (List.contains_iff_mem.1 (by kernel_rfl))
      have f7 : RK v t id seq z A B 7 (a.tmps.getD 23 undef) w2 := hf 7 (List.contains_iff_mem.1 (by kernel_rfl))
      simp only [RK] at f5
      simp only [RK] at f7
      have e5 := ev f5
      have e7 := ev f7
      clear hf hr
      have hc := ext_cat [z, t] A
      have hl : A.length = 10 := by rw [hA, pad_len]
      clear hz hA hB
      refine wp_val (sv ([z, t] ++ A)) ?_ (hK _ _ (show RK _ _ _ _ _ _ _ _ _ _ from rfl) (Below.refl _ _))
      go_simp
      try simp [hc]
      try done
    · clear hi
      have t3 := (hr 3 (by intro h; revert h; exact of_decide_eq_false (by kernel_rfl))).trans h3
      have t3 := ev t3
      clear hf hr
      refine wp_val (.int .i64 (seq : Int)) ?_ (hK _ _ (show RK _ _ _ _ _ _ _ _ _ _ from rfl) (Below.refl _ _))
      go_simp
      try done
    · clear hi
      have f7 : RK v t id seq z A B 7 (a.tmps.getD 23 undef) w2 := hf 7 (List.contains_iff_mem.1 (by kernel_rfl))
      have f9 : RK v t id seq z A B 9 (a.tmps.getD 25 undef) w2 := hf 9 (List.contains_iff_mem.1 (by kernel_rfl))
      simp only [RK] at f7
      simp only [RK] at f9
      have e7 := ev f7
      have e9 := ev f9
      clear hf hr
      have hg := ten_any seq hs w2 (hp.below hb)
      rw [← hB] at hg
      clear hz hA hB
      go_simp
      refine hg.mono ?_
      rintro e w3 ⟨rfl, h3⟩
      go_simp
      exact hK _ _ (show RK _ _ _ _ _ _ _ _ _ _ from rfl) h3
    · clear hi
      have f8 : RK v t id seq z A B 8 (a.tmps.getD 24 undef) w2 := hf 8 (List.contains_iff_mem.1 (by kernel_rfl))
      have f10 : RK v t id seq z A B 10 (a.tmps.getD 26 undef) w2 := hf 10 (List.contains_iff_mem.1 (by kernel_rfl))
      simp only [RK] at f8
      simp only [RK] at f10
      have e8 := ev f8
      have e10 := ev f10
      clear hf hr
      have hl : A.length = 10 := by rw [hA, pad_len]
      have hl2 : B.length = 10 := by rw [hB, pad_len]
      obtain ⟨M, hM⟩ : ∃ M, M = [z, t] ++ A := ⟨_, rfl⟩
      have hml : M.length = 12 := by rw [hM]; simp [hl]
      rw [← hM] at f8
      have hc := ext_cat M B
      refine wp_val (sv ([z, t] ++ A ++ B)) ?_ (hK _ _ (show RK _ _ _ _ _ _ _ _ _ _ from rfl) (Below.refl _ _))
      rw [← hM]
      clear hz hA hB hM
      have e8 := ev f8
      go_simp
      try simp [hc]
      try done
    · clear hi
      have f0 : RK v t id seq z A B 0 (a.tmps.getD 16 undef) w2 := hf 0 (List.contains_iff_mem.1 (by kernel_rfl))
      have f1 : RK v t id seq z A B 1 (a.tmps.getD 17 undef) w2 := hf 1 (List.contains_iff_mem.1 (by kernel_rfl))
      have f2 : RK v t id seq z A B 2 (a.tmps.getD 18 undef) w2 := hf 2 (List.contains_iff_mem.1 (by kernel_rfl))
      have f3 : RK v t id seq z A B 3 (a.tmps.getD 19 undef) w2 := hf 3 (List.contains_iff_mem.1 (by kernel_rfl))
      have f4 : RK v t id seq z A B 4 (a.tmps.getD 20 undef) w2 := hf 4 (List.contains_iff_mem.1 (by kernel_rfl))
      have f5 : RK v t id seq z A B 5 (a.tmps.getD 21 undef) w2 := hf 5 (List.contains_iff_mem.1 (by kernel_rfl))
      have f6 : RK v t id seq z A B 6 (a.tmps.getD 22 undef) w2 := hf 6 (List.contains_iff_mem.1 (by kernel_rfl))
      have f7 : RK v t id seq z A B 7 (a.tmps.getD 23 undef) w2 := hf 7 (List.contains_iff_mem.1 (by kernel_rfl))
      have f8 : RK v t id seq z A B 8 (a.tmps.getD 24 undef) w2 := hf 8 (List.contains_iff_mem.1 (by kernel_rfl))
      have f9 : RK v t id seq z A B 9 (a.tmps.getD 25 undef) w2 := hf 9 (List.contains_iff_mem.1 (by kernel_rfl))
      have f10 : RK v t id seq z A B 10 (a.tmps.getD 26 undef) w2 := hf 10 (List.contains_iff_mem.1 (by kernel_rfl))
      have f11 : RK v t id seq z A B 11 (a.tmps.getD 27 undef) w2 := hf 11 (List.contains_iff_mem.1 (by kernel_rfl))
      simp only [RK] at f0
      simp only [RK] at f1
      simp only [RK] at f2
      simp only [RK] at f3
      simp only [RK] at f4
      simp only [RK] at f5
      simp only [RK] at f6
      simp only [RK] at f7
      simp only [RK] at f8
      simp only [RK] at f9
      simp only [RK] at f10
      simp only [RK] at f11
      have e0 := ev f0
      have e1 := ev f1
      have e2 := ev f2
      obtain ⟨g3, f3, r3⟩ := f3
      have e3 := ev f3
      have e4 := ev f4
      have e5 := ev f5
      have e6 := ev f6
      have e7 := ev f7
      have e8 := ev f8
      have e9 := ev f9
      have e10 := ev f10
      have e11 := ev f11
      clear hf hr
      refine wp_val (sv ([z, t] ++ A ++ B)) ?_ (hK _ _ (show RK _ _ _ _ _ _ _ _ _ _ from rfl) (Below.refl _ _))
      go_simp
      try done
  · intro a w2 hsz2 hdf hb hf hr
    rw [show (List.range _).map (dstOf _) = [16, 17, 18, 19, 20, 21, 22, 23, 24, 25, 26, 27, 8] from by kernel_rfl] at hr
    exact hQ a w2 hsz2 hdf hb (hf 12 (by decide))
set_option maxRecDepth 100000 in
set_option maxHeartbeats 2000000 in
theorem refKey_any (v : Nat) (t : UInt8) (id seq : Nat) (hv : v < 10) (hi : id ≤ 9999999999) (hs : seq ≤ 9999999999) (w : World) (ht : Pow w) : Calls Tryd.prog 29 #[.int .i64 v, .int .u8 t.toNat, .int .i64 id, .int .i64 seq] w fun e w' => e = .returned (sv (keyL v t id seq)) ∧ Below w.heap.size w w' := by
  have e1 : (v : Int).tmod 10 = (v : Int) := by rw [Int.tmod_eq_emod_of_nonneg (by omega)]; omega
  have e3 : ¬ ((v : Int) < 0) := by omega
  go_enter Tryd.func29, Tryd.ntmps29
  go_wp2_with fail
  refine RK_r rfl rfl rfl rfl rfl hv hi hs rfl rfl rfl ht (fun a W h1 h2 h3 h4 => ?_)
  obtain ⟨tt, df⟩ := a
  have h2 : df = [] := h2
  have h4 : tt.getD 8 undef = sv (keyL v t id seq) := by rw [show keyL v t id seq = ([UInt8.ofNat (48 + v), t] ++ pad 10 id ++ pad 10 seq) by unfold keyL; rw [List.append_assoc]]; exact h4
  go_wp2
  subst h2
  go_ret
  exact ⟨congrArg Ending.returned h4, h3⟩
set_option maxRecDepth 100000 in
set_option maxHeartbeats 4000000 in
theorem refParts_any (v : Nat) (t : UInt8) (id seq : Nat) (hv : v < 10) (ht1 : 97 ≤ t.toNat) (ht2 : t.toNat ≤ 122) (hi : id ≤ 9999999999) (hs : seq ≤ 9999999999) (w : World) (ht : Pow w) :
    Calls Tryd.prog 13 #[sv (keyL v t id seq)] w fun e w' => e = .returned (.tuple #[.int .i64 v, .int .u8 t.toNat, .int .i64 id, .int .i64 seq, .bool true]) ∧ Below w.heap.size w w' := by
  have HP := Lib.hid ht
  have hl := key_len v t id seq
  have hd0 : (keyL v t id seq) = [UInt8.ofNat (48 + v), t] ++ (pad 10 id ++ pad 10 seq) := rfl
  have hx0 : (⟨(keyL v t id seq).toArray⟩ : ByteArray).extract 0 1 = ⟨(pad 1 v).toArray⟩ := by
    rw [ext_str, hd0]
    show _ = (⟨([] ++ [UInt8.ofNat (48 + v % 10)]).toArray⟩ : ByteArray)
    rw [Nat.mod_eq_of_lt hv]
    rfl
  have hx1 : (⟨(keyL v t id seq).toArray⟩ : ByteArray).extract 2 12 = ⟨(pad 10 id).toArray⟩ := by
    rw [ext_str, hd0, show ([UInt8.ofNat (48 + v), t] ++ (pad 10 id ++ pad 10 seq)).drop 2 = pad 10 id ++ pad 10 seq from rfl, List.take_left' (by rw [pad_len])]
  have hx2 : (⟨(keyL v t id seq).toArray⟩ : ByteArray).extract 12 22 = ⟨(pad 10 seq).toArray⟩ := by
    rw [ext_str, hd0, ← List.append_assoc, List.drop_left' (by simp [pad_len]), List.take_of_length_le (by rw [pad_len]; omega)]
  have hix : ∀ h, (⟨(keyL v t id seq).toArray⟩ : ByteArray)[1]'h = t := fun h => rfl
  have HA0 := Lib.hid (fun W => atoi_any 0 v (by omega) (by simpa using hv) W)
  have HA1 := Lib.hid (fun W => atoi_any 9 id (by omega) (by omega) W)
  have HA2 := Lib.hid (fun W => atoi_any 9 seq (by omega) (by omega) W)
  have HKY := Lib.hid (fun W hW => refKey_any v t id seq hv hi hs W hW)
  simp only [Nat.zero_add, Nat.reduceAdd] at HA0 HA1 HA2
  obtain ⟨K, hK0⟩ : ∃ K, K = keyL v t id seq := ⟨_, rfl⟩
  rw [← hK0] at hl hx0 hx1 hx2 hix HKY ⊢
  obtain ⟨P0, hP0⟩ : ∃ P, P = pad 1 v := ⟨_, rfl⟩
  obtain ⟨P1, hP1⟩ : ∃ P, P = pad 10 id := ⟨_, rfl⟩
  obtain ⟨P2, hP2⟩ : ∃ P, P = pad 10 seq := ⟨_, rfl⟩
  rw [← hP0] at hx0 HA0
  rw [← hP1] at hx1 HA1
  rw [← hP2] at hx2 HA2
  have q1 : ¬ ((t.toNat : Int) < 97) := by omega
  have q2 : ¬ ((122 : Int) < (t.toNat : Int)) := by omega
  have q3 : ¬ ((v : Int) < 0) := by omega
  clear hK0 hP0 hP1 hP2 ht hd0 ht1 ht2
  go_enter Tryd.func13, Tryd.ntmps13
  go_wp2_with fail
  try rw [hx0]
  refine (HA0.out _).mono ?_
  rintro e w1 ⟨rfl, hb1⟩
  have HB1 := Lib.hid hb1
  clear hb1
  go_wp2_with fail
  try rw [hx1]
  refine (HA1.out _).mono ?_
  rintro e w2 ⟨rfl, hb2⟩
  have HB2 := Lib.hid (HB1.out.trans (hb2.mono HB1.out.size))
  clear hb2 HB1
  go_wp2_with fail
  try rw [hx2]
  refine (HA2.out _).mono ?_
  rintro e w3 ⟨rfl, hb3⟩
  have HB3 := Lib.hid (HB2.out.trans (hb3.mono HB2.out.size))
  clear hb3 HB2
  go_wp2_with fail
  refine (HKY.out _ (HP.out.below HB3.out)).mono ?_
  rintro e w4 ⟨rfl, hb4⟩
  have HB4 := Lib.hid (HB3.out.trans (hb4.mono HB3.out.size))
  clear hb4 HB3
  go_wp2_with fail
  refine wp_region_held_drew (S := SB [w4]) (by kernel_rfl) (SB.start _) (fun hHeld => ?_)
  refine tkC 0 ?_
  refine tkC 1 ?_
  refine tkC 2 ?_
  refine tkC 3 ?_
  refine tkC 4 ?_
  refine tkC 5 ?_
  refine tkC 6 ?_
  refine tkC 7 ?_
  refine tkC 8 ?_
  refine tkC 9 ?_
  refine wpAnyH_done (by kernel_rfl) ?_ _
  clear hHeld
  go_wp2
  refine bodyPost_ret (v := .tuple #[.int .i64 v, .int .u8 t.toNat, .int .i64 id, .int .i64 seq, .bool true]) (by simp [results, Tryd.results13, go_sem]) rfl ?_
  exact ⟨rfl, HB4.out.drew⟩
end Go.Proofs.YtmdkonfmbbbepaaDoor
