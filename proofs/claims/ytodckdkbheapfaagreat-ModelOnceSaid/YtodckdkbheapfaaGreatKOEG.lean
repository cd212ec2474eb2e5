/-
  A state that choices made may be (layer model).; The drawn regions of ModelOnce (layer model).; ModelOnce's drawn region in the loop (layer model).; ModelOnce's last drawn region (layer model).
-/
import Derived.Test.YtodckdkbheapfaaGreatKOEB
import Derived.Test.YtodckdkbheapfaaGreatKOEF
set_option linter.unusedVariables false
set_option linter.unusedVariables false
namespace Go.Proofs.YtodckdkbheapfaaGreat
open Go.RowKit Go.Rst Go.Tp Go.Ts Go.Md
theorem made_rt {c n l : Int} {xs : List Sub} (h : MadeS c n l xs) (hl : xs.length ≤ 6) : Rt ⟨c, n, l, xs⟩ := ⟨h.c0, by have := h.c1; show c ≤ _; omega, h.n0, by have := h.n1; show n ≤ _; omega, h.l0, by have := h.l1; show l ≤ _; omega, by show xs.length ≤ 20; omega, h.so, fun x hx => ⟨by have := (h.ok x hx).2.1; omega, (h.ok x hx).2.2.1, (h.ok x hx).1⟩⟩
end Go.Proofs.YtodckdkbheapfaaGreat
set_option linter.unusedVariables false
set_option linter.unusedSimpArgs false
namespace Go.Proofs.YtodckdkbheapfaaGreat
open Go.RowKit Go.Rst Go.Tp Go.Ts Go.Inv Go.Md
def pubN (nm : List UInt8) : Md.Op := ⟨3, 0, 0, 0, [], nm, [], [98], [97, 61, 49]⟩
theorem pubN_ok (nm : List UInt8) (h : nm.length ≤ 1000000) : OpOk (pubN nm) := ⟨by simp [pubN], h, by simp [pubN], by simp [pubN], by simp [pubN]⟩
def RO (b : Nat) (B : Nat) (S0 : Ts.St) (u0 : Value) (dv : Value) (nm : List UInt8) (S1 : Ts.St) (r1 : Rp) (k0 : Nat) (v : Value) (w : World) : Prop :=
  match k0 with
  | 0 => v = .agg (stC S0.clock S0.next S0.last u0).toArray
  | 1 => v = dv
  | 2 => v = sv nm
  | 3 => v = .agg (opC (pubN nm) (.slice none 0 0)).toArray
  | 4 => ∃ u lv, v = .tuple #[.agg (stC S1.clock S1.next S1.last u).toArray, .agg (rpC r1 lv).toArray] ∧ ON B w u S1.subs ∧ RLt 45 8 CM w lv r1.list
  | 5 => ∃ u lv, v = .tuple #[.agg (stC S1.clock S1.next S1.last u).toArray, .agg (rpC r1 lv).toArray] ∧ ON B w u S1.subs ∧ RLt 45 8 CM w lv r1.list
  | 6 => ∃ u, v = .agg (stC S1.clock S1.next S1.last u).toArray ∧ ON B w u S1.subs
  | 7 => ∃ lv, v = .agg (rpC r1 lv).toArray ∧ RLt 45 8 CM w lv r1.list
  | 8 => ∃ g, v = .pointer (some ⟨g, 0, none⟩) ∧ B ≤ g ∧ Wh w g zT 25
  | 9 => ∃ g, v = .pointer (some ⟨g, 0, none⟩) ∧ B ≤ g ∧ Wh w g zR 37
  | _ => True
theorem RO.stab {b : Nat} {B : Nat} {S0 : Ts.St} {u0 : Value} {dv : Value} {nm : List UInt8} {S1 : Ts.St} {r1 : Rp} (k0 : Nat) (v : Value) (w1 w2 : World) (h : RO b B S0 u0 dv nm S1 r1 k0 v w1) (hb : Below w1.heap.size w1 w2) : RO b B S0 u0 dv nm S1 r1 k0 v w2 := by
  unfold RO at h ⊢
  split at h <;> first | exact h | (obtain ⟨u, lv, h1, h2, h3⟩ := h; exact ⟨u, lv, h1, h2.below hb, h3.below fixed_cm hb⟩) | (obtain ⟨u, lv, h1, h2, h3⟩ := h; exact ⟨u, lv, h1, h2.below hb, h3.below fixed_cm hb⟩) | (obtain ⟨u, h1, h2⟩ := h; exact ⟨u, h1, h2.below hb⟩) | (obtain ⟨lv, h1, h2⟩ := h; exact ⟨lv, h1, h2.below fixed_cm hb⟩) | (obtain ⟨g, h1, h2, h3⟩ := h; exact ⟨g, h1, h2, h3.below hb⟩) | (obtain ⟨g, h1, h2, h3⟩ := h; exact ⟨g, h1, h2, h3.below hb⟩)
set_option maxRecDepth 100000 in
set_option maxHeartbeats 8000000 in
theorem RO_r {b : Nat} {B : Nat} {S0 : Ts.St} {u0 : Value} {dv : Value} {nm : List UInt8} {S1 : Ts.St} {r1 : Rp} {Q : Exit → Act → World → Prop} {a0 : Act} {w0 : World} (hsz : a0.tmps.size = 152) (h5 : a0.tmps.getD 5 undef = .pointer (some ⟨b, 0, none⟩)) (h1 : a0.tmps.getD 1 undef = dv) (hB : B = w0.heap.size) (hsv : SV w0 b S0 u0) {l : List UInt8} (hrb : RB w0 dv l) (hnm : nm = nameL l) (ht : Rt S0) (hd : doS S0 (pubN nm) = (S1, r1))
    (hQ : ∀ (y17 y18 y19 y20 y21 y16 y22 y23 u lv : Value) (g1 g2 : Nat) (W : World), Below B w0 W → SV W g1 S1 u → RV W g2 r1 lv → SV W b S0 u0 → B ≤ g1 → B ≤ g2 → Q .normal ⟨(((((((((a0.tmps.setIfInBounds 17 y17).setIfInBounds 18 y18).setIfInBounds 19 y19).setIfInBounds 20 y20).setIfInBounds 21 y21).setIfInBounds 16 y16).setIfInBounds 22 y22).setIfInBounds 23 y23).setIfInBounds 6 (.pointer (some ⟨g1, 0, none⟩))).setIfInBounds 7 (.pointer (some ⟨g2, 0, none⟩)), a0.defers⟩ W) :
  (Code.region 2 #[{ dst := some 17, op := Op.load 25 (Operand.tmp 5), type := 25, pos := "law.go:116", after := #[], guard := none },
   { dst := some 18, op := Op.move (Operand.tmp 1), type := 22, pos := "law.go:116", after := #[], guard := none },
   { dst := some 19, op := Op.call { callee := Callee.value (Operand.func 27), args := #[Operand.tmp 18, Operand.const (Value.bool false)], argTypes := #[22, 4] }, type := 9, pos := "law.go:116", after := #[{ on := 1, ground := Ground.data }], guard := none },
   { dst := some 20, op := Op.build 41 #[(0, Operand.const (Value.int IntKind.i64 3)), (5, Operand.tmp 19), (8, Operand.const (Value.string { data := #[97, 61, 49] })), (7, Operand.const (Value.string { data := #[98] }))], type := 41, pos := "law.go:116", after := #[{ on := 2, ground := Ground.data }], guard := none },
   { dst := some 21, op := Op.call { callee := Callee.value (Operand.func 17), args := #[Operand.tmp 17, Operand.tmp 20], argTypes := #[25, 41] }, type := 38, pos := "law.go:116", after := #[{ on := 0, ground := Ground.data }, { on := 3, ground := Ground.data }, { on := 2, ground := Ground.chain }], guard := none },
   { dst := some 16, op := Op.move (Operand.tmp 21), type := 38, pos := "law.go:116", after := #[{ on := 4, ground := Ground.data }], guard := none },
   { dst := some 22, op := Op.extract (Operand.tmp 16) 0, type := 25, pos := "law.go:116", after := #[{ on := 5, ground := Ground.data }], guard := none },
   { dst := some 23, op := Op.extract (Operand.tmp 16) 1, type := 37, pos := "law.go:116", after := #[{ on := 5, ground := Ground.data }, { on := 10, ground := Ground.gcOnly Departure.lateStores }], guard := none },
   { dst := some 6, op := Op.alloc 25, type := 0, pos := "law.go:116", after := #[], guard := none },
   { dst := some 7, op := Op.alloc 37, type := 0, pos := "law.go:116", after := #[], guard := none },
   { dst := none, op := Op.store 25 (Operand.tmp 6) (Operand.tmp 22), type := 0, pos := "law.go:116", after := #[{ on := 8, ground := Ground.data }, { on := 6, ground := Ground.data }, { on := 4, ground := Ground.chain }, { on := 0, ground := Ground.phase }, { on := 1, ground := Ground.phase }, { on := 2, ground := Ground.phase }, { on := 3, ground := Ground.phase }, { on := 4, ground := Ground.phase }, { on := 5, ground := Ground.phase }, { on := 6, ground := Ground.phase }, { on := 7, ground := Ground.textOnly Departure.lateStores }, { on := 8, ground := Ground.phase }, { on := 9, ground := Ground.phase }], guard := none },
   { dst := none, op := Op.store 37 (Operand.tmp 7) (Operand.tmp 23), type := 0, pos := "law.go:116", after := #[{ on := 9, ground := Ground.data }, { on := 7, ground := Ground.data }, { on := 10, ground := Ground.chain }, { on := 0, ground := Ground.phase }, { on := 1, ground := Ground.phase }, { on := 2, ground := Ground.phase }, { on := 3, ground := Ground.phase }, { on := 4, ground := Ground.phase }, { on := 5, ground := Ground.phase }, { on := 6, ground := Ground.phase }, { on := 7, ground := Ground.phase }, { on := 8, ground := Ground.phase }, { on := 9, ground := Ground.phase }, { on := 10, ground := Ground.phase }], guard := none }] true).wp Tryz.prog Q a0 w0 := by
  have FIN : ∀ (tt : Array Value) (u lv : Value) (g1 g2 : Nat) (w2 : World), tt.size = a0.tmps.size → (∀ d, d ∉ [17, 18, 19, 20, 21, 16, 22, 23, 6, 7] → tt.getD d undef = a0.tmps.getD d undef) → tt.getD 6 undef = .pointer (some ⟨g1, 0, none⟩) → tt.getD 7 undef = .pointer (some ⟨g2, 0, none⟩) → Below w0.heap.size w0 w2 → B ≤ g1 → B ≤ g2 → Wh w2 g1 zT 25 → Wh w2 g2 zR 37 → g1 ≠ g2 → ON B w2 u S1.subs → RLt 45 8 CM w2 lv r1.list → Q .normal ⟨tt, a0.defers⟩ ((w2.setRow g1 (stC S1.clock S1.next S1.last u).toArray).setRow g2 (rpC r1 lv).toArray) := by
    intro tt u lv g1 g2 w2 hsz2 hr hv8 hv9 hb hg1 hg2 hw1 hw2 hne hon hlv
    have hw2b := hw2.setOther (Ne.symm hne) (stC S1.clock S1.next S1.last u).toArray
    have hq := tmps_eq _ _ hsz2 hr
    simp only [List.foldl_cons, List.foldl_nil] at hq
    have q1 := grown_row w2 g1 (stC S1.clock S1.next S1.last u).toArray
    have q2 := grown_row (w2.setRow g1 (stC S1.clock S1.next S1.last u).toArray) g2 (rpC r1 lv).toArray
    have hon2 := (hon.kept_wh q1 hw1 (by decide) (by decide) (by decide)).kept_wh q2 hw2b (by decide) (by decide) (by decide)
    have hlv2 := (hlv.grown fixed_cm q1 (fun g e => by cases e; exact ⟨_, _, hw1, by decide⟩)).grown fixed_cm q2 (fun g e => by cases e; exact ⟨_, _, hw2b, by decide⟩)
    have hbB : Below B w0 ((w2.setRow g1 (stC S1.clock S1.next S1.last u).toArray).setRow g2 (rpC r1 lv).toArray) := below_setRow (below_setRow (hb.mono (Nat.le_of_eq hB)) hg1 _) hg2 _
    have hs1 := (Array.getElem?_eq_some_iff.1 hw1).1
    have hs2 := (Array.getElem?_eq_some_iff.1 hw2).1
    have G := hQ (tt.getD 17 undef) (tt.getD 18 undef) (tt.getD 19 undef) (tt.getD 20 undef) (tt.getD 21 undef) (tt.getD 16 undef) (tt.getD 22 undef) (tt.getD 23 undef) u lv g1 g2 _ hbB
      ⟨(hw1.set _).setOther hne _, hon2.rs, by simp; omega⟩ ⟨hw2b.set _, hlv2.rl, by simp; omega⟩ (hsv.below (by rw [← hB]; exact hbB)) hg1 hg2
    rw [← hv8, ← hv9, ← hq] at G
    exact G
  refine wp_region_each3 (n := 10) (m := 7) (by decide) (RO b B S0 u0 dv nm S1 r1) (by kernel_rfl) (by rw [hsz]; kernel_rfl) RO.stab ?_ ?_ ?_
  · intro k0 o a w2 hi ho hb hf hr K hK
    obtain rfl | rfl | rfl | rfl | rfl | rfl | rfl | rfl | rfl | rfl := (by omega : k0 = 0 ∨ k0 = 1 ∨ k0 = 2 ∨ k0 = 3 ∨ k0 = 4 ∨ k0 = 5 ∨ k0 = 6 ∨ k0 = 7 ∨ k0 = 8 ∨ k0 = 9)
    all_goals (simp only [zD, zE, zF, Option.some.injEq] at ho; subst ho)
    · clear hi
      have t5 := (hr 5 (by intro h; revert h; exact of_decide_eq_false (by kernel_rfl))).trans h5
      have t5 := ev t5
      clear hf hr
      refine exec_val (exec_load_mid 25 (.tmp 5) rfl b 0 t5 _ _ ((hsv.1.below hb).range) Tryz.underlying25 rfl size24) (hK _ _ (show RO _ _ _ _ _ _ _ _ _ _ _ from rfl) (Below.refl _ _))
    · clear hi
      have t1 := (hr 1 (by intro h; revert h; exact of_decide_eq_false (by kernel_rfl))).trans h1
      have t1 := ev t1
      clear hf hr
      refine wp_val (dv) ?_ (hK _ _ (show RO _ _ _ _ _ _ _ _ _ _ _ from rfl) (Below.refl _ _))
      go_simp
      try done
    · clear hi
      have f1 : RO b B S0 u0 dv nm S1 r1 1 (a.tmps.getD 18 undef) w2 := hf 1 (List.contains_iff_mem.1 (by kernel_rfl))
      simp only [RO] at f1
      have e1 := ev f1
      clear hf hr
      have hg := nameF_any (hrb.below hb)
      go_simp
      refine hg.mono ?_
      rintro e w3 ⟨rfl, h3⟩
      go_simp
      exact hK _ _ (show RO _ _ _ _ _ _ _ _ _ _ _ from congrArg sv hnm.symm) h3
    · clear hi
      have f2 : RO b B S0 u0 dv nm S1 r1 2 (a.tmps.getD 19 undef) w2 := hf 2 (List.contains_iff_mem.1 (by kernel_rfl))
      simp only [RO] at f2
      have e2 := ev f2
      clear hf hr
      have g2 : a.tmps[19]?.getD undef = .string ⟨nm.toArray⟩ := by rw [← Array.getD_eq_getD_getElem?]; exact f2
      refine wp_val (.agg (opC (pubN nm) (.slice none 0 0)).toArray) ?_ (hK _ _ (show RO _ _ _ _ _ _ _ _ _ _ _ from rfl) (Below.refl _ _))
      go_simp
      try rfl
    · clear hi
      have f0 : RO b B S0 u0 dv nm S1 r1 0 (a.tmps.getD 17 undef) w2 := hf 0 (List.contains_iff_mem.1 (by kernel_rfl))
      have f2 : RO b B S0 u0 dv nm S1 r1 2 (a.tmps.getD 19 undef) w2 := hf 2 (List.contains_iff_mem.1 (by kernel_rfl))
      have f3 : RO b B S0 u0 dv nm S1 r1 3 (a.tmps.getD 20 undef) w2 := hf 3 (List.contains_iff_mem.1 (by kernel_rfl))
      simp only [RO] at f0
      simp only [RO] at f2
      simp only [RO] at f3
      have e0 := ev f0
      have e2 := ev f2
      have e3 := ev f3
      clear hf hr
      have hbs : B ≤ w2.heap.size := by rw [hB]; exact hb.size
      have hnl : nm.length ≤ 40 := by rw [hnm]; exact nameL_len l
      clear hQ FIN hnm
      have hg := do_p S0 u0 (pubN nm) (.slice none 0 0) w2 (hsv.2.1.below stays_cs hb) ht (pubN_ok nm (by omega)) rfl (fun h => absurd (show (3 : Int) = 4 from h) (by decide))
      rw [hd] at hg
      go_simp
      refine hg.mono ?_
      rintro e w3 ⟨u, lv, rfl, h1, h2, h3⟩
      go_simp
      exact hK _ _ ⟨u, lv, rfl, h1.mono hbs, h2⟩ h3
    · clear hi
      have f4 : RO b B S0 u0 dv nm S1 r1 4 (a.tmps.getD 21 undef) w2 := hf 4 (List.contains_iff_mem.1 (by kernel_rfl))
      simp only [RO] at f4
      obtain ⟨u4, lv4, f4, hon4, hlv4⟩ := f4
      have e4 := ev f4
      clear hf hr
      refine wp_val _ ?_ (hK _ _ ⟨u4, lv4, rfl, hon4, hlv4⟩ (Below.refl _ _))
      go_simp
      try done
    · clear hi
      have f5 : RO b B S0 u0 dv nm S1 r1 5 (a.tmps.getD 16 undef) w2 := hf 5 (List.contains_iff_mem.1 (by kernel_rfl))
      simp only [RO] at f5
      obtain ⟨u5, lv5, f5, hon5, hlv5⟩ := f5
      have e5 := ev f5
      clear hf hr
      refine wp_val (.agg (stC S1.clock S1.next S1.last u5).toArray) ?_ (hK _ _ ⟨u5, rfl, hon5⟩ (Below.refl _ _))
      go_simp
      try done
    · clear hi
      have f5 : RO b B S0 u0 dv nm S1 r1 5 (a.tmps.getD 16 undef) w2 := hf 5 (List.contains_iff_mem.1 (by kernel_rfl))
      simp only [RO] at f5
      obtain ⟨u5, lv5, f5, hon5, hlv5⟩ := f5
      have e5 := ev f5
      clear hf hr
      refine wp_val (.agg (rpC r1 lv5).toArray) ?_ (hK _ _ ⟨lv5, rfl, hlv5⟩ (Below.refl _ _))
      go_simp
      try done
    · clear hi
      clear hf hr
      have hbs : B ≤ w2.heap.size := by rw [hB]; exact hb.size
      go_simp
      exact hK _ _ ⟨w2.heap.size, rfl, hbs, Wh.new w2 zT _⟩ ((Below.refl _ w2).alloc (Nat.le_refl _) _)
    · clear hi
      clear hf hr
      have hbs : B ≤ w2.heap.size := by rw [hB]; exact hb.size
      go_simp
      exact hK _ _ ⟨w2.heap.size, rfl, hbs, Wh.new w2 zR _⟩ ((Below.refl _ w2).alloc (Nat.le_refl _) _)
  · intro o o2 a w2 ho ho2 hsz2 hdf hb hf hr
    simp only [zD, zE, zF, Option.some.injEq] at ho ho2
    subst ho
    subst ho2
    rw [show (List.range 10).map (dstOf _) = [17, 18, 19, 20, 21, 16, 22, 23, 6, 7] from by kernel_rfl] at hr
    obtain ⟨u, hv6, hon⟩ := hf 6 (by omega)
    obtain ⟨lv, hv7, hlv⟩ := hf 7 (by omega)
    obtain ⟨g1, hv8, hg1, hw1⟩ := hf 8 (by omega)
    obtain ⟨g2, hv9, hg2, hw2⟩ := hf 9 (by omega)
    clear hf
    have hv6 : a.tmps.getD 22 undef = .agg (stC S1.clock S1.next S1.last u).toArray := hv6
    have hv7 : a.tmps.getD 23 undef = .agg (rpC r1 lv).toArray := hv7
    have hv8 : a.tmps.getD 6 undef = .pointer (some ⟨g1, 0, none⟩) := hv8
    have hv9 : a.tmps.getD 7 undef = .pointer (some ⟨g2, 0, none⟩) := hv9
    have hne : g1 ≠ g2 := fun e => by
      subst e
      have h := hw1.symm.trans hw2
      injection h with h
      injection h with h1 h2
      exact absurd h2 (by decide)
    have hw2b := hw2.setOther (Ne.symm hne) (stC S1.clock S1.next S1.last u).toArray
    refine wp_store_row 25 (.tmp 6) (.tmp 22) rfl g1 (stC S1.clock S1.next S1.last u).toArray hv8 hv6 25 zT.toArray hw1 size24 rfl (st_all _ _ _ (rl_one hon.rs)) ?_
    refine wp_store_row 37 (.tmp 7) (.tmp 23) rfl g2 (rpC r1 lv).toArray hv9 hv7 37 zR.toArray hw2b sizeR rfl (rp_all r1 (rl_one hlv.rl)) ?_
    obtain ⟨tt, df⟩ := a
    have hdf : df = a0.defers := hdf
    subst hdf
    exact FIN tt u lv g1 g2 w2 hsz2 hr hv8 hv9 hb hg1 hg2 hw1 hw2 hne hon hlv
  · intro o om o2 a w2 ho hom ho2 hsz2 hdf hb hf hr
    simp only [zD, zE, zF, Option.some.injEq] at ho hom ho2
    subst ho
    subst hom
    subst ho2
    rw [show (List.range 10).map (dstOf _) = [17, 18, 19, 20, 21, 16, 22, 23, 6, 7] from by kernel_rfl] at hr
    obtain ⟨u, hv6, hon⟩ := hf 6 (by omega) (by omega)
    obtain ⟨u5, lv, hv5, hon5, hlv⟩ := hf 5 (by omega) (by omega)
    obtain ⟨g1, hv8, hg1, hw1⟩ := hf 8 (by omega) (by omega)
    obtain ⟨g2, hv9, hg2, hw2⟩ := hf 9 (by omega) (by omega)
    clear hf
    have hv5 : a.tmps.getD 16 undef = .tuple #[.agg (stC S1.clock S1.next S1.last u5).toArray, .agg (rpC r1 lv).toArray] := hv5
    have hv6 : a.tmps.getD 22 undef = .agg (stC S1.clock S1.next S1.last u).toArray := hv6
    have hv8 : a.tmps.getD 6 undef = .pointer (some ⟨g1, 0, none⟩) := hv8
    have hv9 : a.tmps.getD 7 undef = .pointer (some ⟨g2, 0, none⟩) := hv9
    have g5 : a.tmps[16]?.getD undef = .tuple #[.agg (stC S1.clock S1.next S1.last u5).toArray, .agg (rpC r1 lv).toArray] := by rw [← Array.getD_eq_getD_getElem?]; exact hv5
    have hne : g1 ≠ g2 := fun e => by
      subst e
      have h := hw1.symm.trans hw2
      injection h with h
      injection h with h1 h2
      exact absurd h2 (by decide)
    have hw2b := hw2.setOther (Ne.symm hne) (stC S1.clock S1.next S1.last u).toArray
    refine wp_store_row 25 (.tmp 6) (.tmp 22) rfl g1 (stC S1.clock S1.next S1.last u).toArray hv8 hv6 25 zT.toArray hw1 size24 rfl (st_all _ _ _ (rl_one hon.rs)) ?_
    refine wp_val (.agg (rpC r1 lv).toArray) (by clear hv5 hv6 hv8 hv9 hQ FIN hsz2 hr; go_simp; try done) ?_
    obtain ⟨tt, df⟩ := a
    have hdf : df = a0.defers := hdf
    subst hdf
    have hs23 : 23 < tt.size := by have : tt.size = 152 := hsz2.trans hsz; omega
    have z8 : (tt.setIfInBounds 23 (.agg (rpC r1 lv).toArray)).getD 6 undef = .pointer (some ⟨g1, 0, none⟩) := (getD_put_ne (by decide)).trans hv8
    have z9 : (tt.setIfInBounds 23 (.agg (rpC r1 lv).toArray)).getD 7 undef = .pointer (some ⟨g2, 0, none⟩) := (getD_put_ne (by decide)).trans hv9
    have z7 : (tt.setIfInBounds 23 (.agg (rpC r1 lv).toArray)).getD 23 undef = .agg (rpC r1 lv).toArray := getD_put hs23
    refine wp_store_row 37 (.tmp 7) (.tmp 23) rfl g2 (rpC r1 lv).toArray z9 z7 37 zR.toArray hw2b sizeR rfl (rp_all r1 (rl_one hlv.rl)) ?_
    exact FIN (tt.setIfInBounds 23 (.agg (rpC r1 lv).toArray)) u lv g1 g2 w2 (by rw [Array.size_setIfInBounds]; exact hsz2) (fun d hd => (getD_put_ne (fun e => hd (by rw [← e]; decide))).trans (hr d hd)) z8 z9 hb hg1 hg2 hw1 hw2 hne hon hlv
end Go.Proofs.YtodckdkbheapfaaGreat
set_option linter.unusedVariables false
set_option linter.unusedSimpArgs false
namespace Go.Proofs.YtodckdkbheapfaaGreat
open Go.RowKit Go.Rst Go.Tp Go.Ts Go.Inv Go.Md
def RP (b5 : Nat) (b6 : Nat) (B : Nat) (S1 : Ts.St) (u1 : Value) (b3 : Nat) (o3 : Nat) (n : Nat) (c1 : Nat) (k : Nat) (id : Int) (nx : Int) (S2 : Ts.St) (r2 : Rp) (k0 : Nat) (v : Value) (w : World) : Prop :=
  match k0 with
  | 0 => v = .agg (stC S1.clock S1.next S1.last u1).toArray
  | 1 => v = .pointer (some ⟨b6, 3, none⟩)
  | 2 => v = .slice (some ⟨b3, o3, none⟩) n c1
  | 3 => v = .int .i64 (k : Nat)
  | 4 => v = .pointer (some ⟨b3, o3 + k * 10, none⟩)
  | 5 => v = .pointer (some ⟨b3, o3 + k * 10, none⟩)
  | 6 => v = .int .i64 id
  | 7 => v = .pointer (some ⟨b5, 1, none⟩)
  | 8 => v = .int .i64 nx
  | 9 => v = .agg (opC (kop 6 id 0 nx) (.slice none 0 0)).toArray
  | 10 => ∃ u lv, v = .tuple #[.agg (stC S2.clock S2.next S2.last u).toArray, .agg (rpC r2 lv).toArray] ∧ ON B w u S2.subs ∧ RLt 45 8 CM w lv r2.list
  | 11 => ∃ u lv, v = .tuple #[.agg (stC S2.clock S2.next S2.last u).toArray, .agg (rpC r2 lv).toArray] ∧ ON B w u S2.subs ∧ RLt 45 8 CM w lv r2.list
  | 12 => ∃ u, v = .agg (stC S2.clock S2.next S2.last u).toArray ∧ ON B w u S2.subs
  | 13 => ∃ lv, v = .agg (rpC r2 lv).toArray ∧ RLt 45 8 CM w lv r2.list
  | 14 => ∃ g, v = .pointer (some ⟨g, 0, none⟩) ∧ B ≤ g ∧ Wh w g zT 25
  | 15 => ∃ g, v = .pointer (some ⟨g, 0, none⟩) ∧ B ≤ g ∧ Wh w g zR 37
  | _ => True
theorem RP.stab {b5 : Nat} {b6 : Nat} {B : Nat} {S1 : Ts.St} {u1 : Value} {b3 : Nat} {o3 : Nat} {n : Nat} {c1 : Nat} {k : Nat} {id : Int} {nx : Int} {S2 : Ts.St} {r2 : Rp} (k0 : Nat) (v : Value) (w1 w2 : World) (h : RP b5 b6 B S1 u1 b3 o3 n c1 k id nx S2 r2 k0 v w1) (hb : Below w1.heap.size w1 w2) : RP b5 b6 B S1 u1 b3 o3 n c1 k id nx S2 r2 k0 v w2 := by
  unfold RP at h ⊢
  split at h <;> first | exact h | (obtain ⟨u, lv, h1, h2, h3⟩ := h; exact ⟨u, lv, h1, h2.below hb, h3.below fixed_cm hb⟩) | (obtain ⟨u, lv, h1, h2, h3⟩ := h; exact ⟨u, lv, h1, h2.below hb, h3.below fixed_cm hb⟩) | (obtain ⟨u, h1, h2⟩ := h; exact ⟨u, h1, h2.below hb⟩) | (obtain ⟨lv, h1, h2⟩ := h; exact ⟨lv, h1, h2.below fixed_cm hb⟩) | (obtain ⟨g, h1, h2, h3⟩ := h; exact ⟨g, h1, h2, h3.below hb⟩) | (obtain ⟨g, h1, h2, h3⟩ := h; exact ⟨g, h1, h2, h3.below hb⟩)
set_option maxRecDepth 100000 in
set_option maxHeartbeats 8000000 in
theorem RP_r {b5 : Nat} {b6 : Nat} {B : Nat} {S1 : Ts.St} {u1 : Value} {b3 : Nat} {o3 : Nat} {n : Nat} {c1 : Nat} {k : Nat} {id : Int} {nx : Int} {S2 : Ts.St} {r2 : Rp} {Q : Exit → Act → World → Prop} {a0 : Act} {w0 : World} (hsz : a0.tmps.size = 152) (h5 : a0.tmps.getD 5 undef = .pointer (some ⟨b5, 0, none⟩)) (h6 : a0.tmps.getD 6 undef = .pointer (some ⟨b6, 0, none⟩)) (h8 : a0.tmps.getD 8 undef = .int .i64 (k : Nat)) (hB : B = w0.heap.size) (hsv : SV w0 b6 S1 u1) (hkn : k < n) (hnc : n ≤ 9223372036854775807) (hc3 : w0.cell? ⟨b6, 3, none⟩ = some (.slice (some ⟨b3, o3, none⟩) n c1)) (hcid : w0.cell? ⟨b3, o3 + k * 10, none⟩ = some (.int .i64 id)) (hb3 : b3 < w0.heap.size) (hcnx : w0.cell? ⟨b5, 1, none⟩ = some (.int .i64 nx)) (hb5 : b5 < w0.heap.size) (ht : Rt S1) (hd : doS S1 (kop 6 id 0 nx) = (S2, r2))
    (hQ : ∀ (y111 y112 y113 y114 y115 y116 y117 y118 y119 y120 y121 y110 y122 y123 u lv : Value) (g1 g2 : Nat) (W : World), Below B w0 W → SV W g1 S2 u → RV W g2 r2 lv → B ≤ g1 → B ≤ g2 → Q .normal ⟨(((((((((((((((a0.tmps.setIfInBounds 111 y111).setIfInBounds 112 y112).setIfInBounds 113 y113).setIfInBounds 114 y114).setIfInBounds 115 y115).setIfInBounds 116 y116).setIfInBounds 117 y117).setIfInBounds 118 y118).setIfInBounds 119 y119).setIfInBounds 120 y120).setIfInBounds 121 y121).setIfInBounds 110 y110).setIfInBounds 122 y122).setIfInBounds 123 y123).setIfInBounds 10 (.pointer (some ⟨g1, 0, none⟩))).setIfInBounds 11 (.pointer (some ⟨g2, 0, none⟩)), a0.defers⟩ W) :
  (Code.region 14 #[{ dst := some 111, op := Op.load 25 (Operand.tmp 6), type := 25, pos := "law.go:131", after := #[], guard := none },
   { dst := some 112, op := Op.fieldAddr 25 (Operand.tmp 6) 3, type := 0, pos := "law.go:131", after := #[], guard := none },
   { dst := some 113, op := Op.load 23 (Operand.tmp 112), type := 23, pos := "law.go:131", after := #[{ on := 1, ground := Ground.data }], guard := none },
   { dst := some 114, op := Op.move (Operand.tmp 8), type := 3, pos := "law.go:131", after := #[], guard := none },
   { dst := some 115, op := Op.indexAddr 23 (Operand.tmp 113) (Operand.tmp 114), type := 0, pos := "law.go:131", after := #[{ on := 2, ground := Ground.data }, { on := 3, ground := Ground.data }], guard := none },
   { dst := some 116, op := Op.fieldAddr 30 (Operand.tmp 115) 0, type := 0, pos := "law.go:131", after := #[{ on := 4, ground := Ground.data }], guard := none },
   { dst := some 117, op := Op.load 3 (Operand.tmp 116), type := 3, pos := "law.go:131", after := #[{ on := 5, ground := Ground.data }], guard := none },
   { dst := some 118, op := Op.fieldAddr 25 (Operand.tmp 5) 1, type := 0, pos := "law.go:131", after := #[], guard := none },
   { dst := some 119, op := Op.load 3 (Operand.tmp 118), type := 3, pos := "law.go:131", after := #[{ on := 7, ground := Ground.data }], guard := none },
   { dst := some 120, op := Op.build 41 #[(0, Operand.const (Value.int IntKind.i64 6)), (1, Operand.tmp 117), (3, Operand.tmp 119)], type := 41, pos := "law.go:131", after := #[{ on := 6, ground := Ground.data }, { on := 8, ground := Ground.data }], guard := none },
   { dst := some 121, op := Op.call { callee := Callee.value (Operand.func 17), args := #[Operand.tmp 111, Operand.tmp 120], argTypes := #[25, 41] }, type := 38, pos := "law.go:131", after := #[{ on := 0, ground := Ground.data }, { on := 9, ground := Ground.data }], guard := none },
   { dst := some 110, op := Op.move (Operand.tmp 121), type := 38, pos := "law.go:131", after := #[{ on := 10, ground := Ground.data }], guard := none },
   { dst := some 122, op := Op.extract (Operand.tmp 110) 0, type := 25, pos := "law.go:131", after := #[{ on := 11, ground := Ground.data }], guard := none },
   { dst := some 123, op := Op.extract (Operand.tmp 110) 1, type := 37, pos := "law.go:131", after := #[{ on := 11, ground := Ground.data }, { on := 16, ground := Ground.gcOnly Departure.lateStores }], guard := none },
   { dst := some 10, op := Op.alloc 25, type := 0, pos := "law.go:131", after := #[], guard := none },
   { dst := some 11, op := Op.alloc 37, type := 0, pos := "law.go:131", after := #[], guard := none },
   { dst := none, op := Op.store 25 (Operand.tmp 10) (Operand.tmp 122), type := 0, pos := "law.go:131", after := #[{ on := 14, ground := Ground.data }, { on := 12, ground := Ground.data }, { on := 10, ground := Ground.chain }, { on := 0, ground := Ground.phase }, { on := 1, ground := Ground.phase }, { on := 2, ground := Ground.phase }, { on := 3, ground := Ground.phase }, { on := 4, ground := Ground.phase }, { on := 5, ground := Ground.phase }, { on := 6, ground := Ground.phase }, { on := 7, ground := Ground.phase }, { on := 8, ground := Ground.phase }, { on := 9, ground := Ground.phase }, { on := 10, ground := Ground.phase }, { on := 11, ground := Ground.phase }, { on := 12, ground := Ground.phase }, { on := 13, ground := Ground.textOnly Departure.lateStores }, { on := 14, ground := Ground.phase }, { on := 15, ground := Ground.phase }], guard := none },
   { dst := none, op := Op.store 37 (Operand.tmp 11) (Operand.tmp 123), type := 0, pos := "law.go:131", after := #[{ on := 15, ground := Ground.data }, { on := 13, ground := Ground.data }, { on := 16, ground := Ground.chain }, { on := 0, ground := Ground.phase }, { on := 1, ground := Ground.phase }, { on := 2, ground := Ground.phase }, { on := 3, ground := Ground.phase }, { on := 4, ground := Ground.phase }, { on := 5, ground := Ground.phase }, { on := 6, ground := Ground.phase }, { on := 7, ground := Ground.phase }, { on := 8, ground := Ground.phase }, { on := 9, ground := Ground.phase }, { on := 10, ground := Ground.phase }, { on := 11, ground := Ground.phase }, { on := 12, ground := Ground.phase }, { on := 13, ground := Ground.phase }, { on := 14, ground := Ground.phase }, { on := 15, ground := Ground.phase }, { on := 16, ground := Ground.phase }], guard := none }] true).wp Tryz.prog Q a0 w0 := by
  have FIN : ∀ (tt : Array Value) (u lv : Value) (g1 g2 : Nat) (w2 : World), tt.size = a0.tmps.size → (∀ d, d ∉ [111, 112, 113, 114, 115, 116, 117, 118, 119, 120, 121, 110, 122, 123, 10, 11] → tt.getD d undef = a0.tmps.getD d undef) → tt.getD 10 undef = .pointer (some ⟨g1, 0, none⟩) → tt.getD 11 undef = .pointer (some ⟨g2, 0, none⟩) → Below w0.heap.size w0 w2 → B ≤ g1 → B ≤ g2 → Wh w2 g1 zT 25 → Wh w2 g2 zR 37 → g1 ≠ g2 → ON B w2 u S2.subs → RLt 45 8 CM w2 lv r2.list → Q .normal ⟨tt, a0.defers⟩ ((w2.setRow g1 (stC S2.clock S2.next S2.last u).toArray).setRow g2 (rpC r2 lv).toArray) := by
    intro tt u lv g1 g2 w2 hsz2 hr hv8 hv9 hb hg1 hg2 hw1 hw2 hne hon hlv
    have hw2b := hw2.setOther (Ne.symm hne) (stC S2.clock S2.next S2.last u).toArray
    have hq := tmps_eq _ _ hsz2 hr
    simp only [List.foldl_cons, List.foldl_nil] at hq
    have q1 := grown_row w2 g1 (stC S2.clock S2.next S2.last u).toArray
    have q2 := grown_row (w2.setRow g1 (stC S2.clock S2.next S2.last u).toArray) g2 (rpC r2 lv).toArray
    have hon2 := (hon.kept_wh q1 hw1 (by decide) (by decide) (by decide)).kept_wh q2 hw2b (by decide) (by decide) (by decide)
    have hlv2 := (hlv.grown fixed_cm q1 (fun g e => by cases e; exact ⟨_, _, hw1, by decide⟩)).grown fixed_cm q2 (fun g e => by cases e; exact ⟨_, _, hw2b, by decide⟩)
    have hbB : Below B w0 ((w2.setRow g1 (stC S2.clock S2.next S2.last u).toArray).setRow g2 (rpC r2 lv).toArray) := below_setRow (below_setRow (hb.mono (Nat.le_of_eq hB)) hg1 _) hg2 _
    have hs1 := (Array.getElem?_eq_some_iff.1 hw1).1
    have hs2 := (Array.getElem?_eq_some_iff.1 hw2).1
    have G := hQ (tt.getD 111 undef) (tt.getD 112 undef) (tt.getD 113 undef) (tt.getD 114 undef) (tt.getD 115 undef) (tt.getD 116 undef) (tt.getD 117 undef) (tt.getD 118 undef) (tt.getD 119 undef) (tt.getD 120 undef) (tt.getD 121 undef) (tt.getD 110 undef) (tt.getD 122 undef) (tt.getD 123 undef) u lv g1 g2 _ hbB
      ⟨(hw1.set _).setOther hne _, hon2.rs, by simp; omega⟩ ⟨hw2b.set _, hlv2.rl, by simp; omega⟩ hg1 hg2
    rw [← hv8, ← hv9, ← hq] at G
    exact G
  refine wp_region_each3 (n := 16) (m := 13) (by decide) (RP b5 b6 B S1 u1 b3 o3 n c1 k id nx S2 r2) (by kernel_rfl) (by rw [hsz]; kernel_rfl) RP.stab ?_ ?_ ?_
  · intro k0 o a w2 hi ho hb hf hr K hK
    obtain rfl | rfl | rfl | rfl | rfl | rfl | rfl | rfl | rfl | rfl | rfl | rfl | rfl | rfl | rfl | rfl := (by omega : k0 = 0 ∨ k0 = 1 ∨ k0 = 2 ∨ k0 = 3 ∨ k0 = 4 ∨ k0 = 5 ∨ k0 = 6 ∨ k0 = 7 ∨ k0 = 8 ∨ k0 = 9 ∨ k0 = 10 ∨ k0 = 11 ∨ k0 = 12 ∨ k0 = 13 ∨ k0 = 14 ∨ k0 = 15)
    all_goals (simp only [zD, zE, zF, Option.some.injEq] at ho; subst ho)
    · clear hi
      have t6 := (hr 6 (by intro h; revert h; exact of_decide_eq_false (by kernel_rfl))).trans h6
      have t6 := ev t6
      clear hf hr
      refine exec_val (exec_load_mid 25 (.tmp 6) rfl b6 0 t6 _ _ ((hsv.1.below hb).range) Tryz.underlying25 rfl size24) (hK _ _ (show RP _ _ _ _ _ _ _ _ _ _ _ _ _ _ _ _ _ from rfl) (Below.refl _ _))
    · clear hi
      have t6 := (hr 6 (by intro h; revert h; exact of_decide_eq_false (by kernel_rfl))).trans h6
      have t6 := ev t6
      clear hf hr
      refine wp_val (.pointer (some ⟨b6, 3, none⟩)) ?_ (hK _ _ (show RP _ _ _ _ _ _ _ _ _ _ _ _ _ _ _ _ _ from rfl) (Below.refl _ _))
      go_simp
      try done
    · clear hi
      have f1 : RP b5 b6 B S1 u1 b3 o3 n c1 k id nx S2 r2 1 (a.tmps.getD 112 undef) w2 := hf 1 (List.contains_iff_mem.1 (by kernel_rfl))
      simp only [RP] at f1
      have e1 := ev f1
      clear hf hr
      have hq := (hb.cell (p := ⟨b6, 3, none⟩) hsv.2.2).trans hc3
      refine wp_val (.slice (some ⟨b3, o3, none⟩) n c1) ?_ (hK _ _ (show RP _ _ _ _ _ _ _ _ _ _ _ _ _ _ _ _ _ from rfl) (Below.refl _ _))
      go_simp
      try done
    · clear hi
      have t8 := (hr 8 (by intro h; revert h; exact of_decide_eq_false (by kernel_rfl))).trans h8
      have t8 := ev t8
      clear hf hr
      refine wp_val (.int .i64 (k : Nat)) ?_ (hK _ _ (show RP _ _ _ _ _ _ _ _ _ _ _ _ _ _ _ _ _ from rfl) (Below.refl _ _))
      go_simp
      try done
    · clear hi
      have f2 : RP b5 b6 B S1 u1 b3 o3 n c1 k id nx S2 r2 2 (a.tmps.getD 113 undef) w2 := hf 2 (List.contains_iff_mem.1 (by kernel_rfl))
      have f3 : RP b5 b6 B S1 u1 b3 o3 n c1 k id nx S2 r2 3 (a.tmps.getD 114 undef) w2 := hf 3 (List.contains_iff_mem.1 (by kernel_rfl))
      simp only [RP] at f2
      simp only [RP] at f3
      have e2 := ev f2
      have e3 := ev f3
      clear hf hr
      refine wp_val (.pointer (some ⟨b3, o3 + k * 10, none⟩)) ?_ (hK _ _ (show RP _ _ _ _ _ _ _ _ _ _ _ _ _ _ _ _ _ from rfl) (Below.refl _ _))
      go_simp
      try done
    · clear hi
      have f4 : RP b5 b6 B S1 u1 b3 o3 n c1 k id nx S2 r2 4 (a.tmps.getD 115 undef) w2 := hf 4 (List.contains_iff_mem.1 (by kernel_rfl))
      simp only [RP] at f4
      have e4 := ev f4
      clear hf hr
      refine wp_val (.pointer (some ⟨b3, o3 + k * 10, none⟩)) ?_ (hK _ _ (show RP _ _ _ _ _ _ _ _ _ _ _ _ _ _ _ _ _ from rfl) (Below.refl _ _))
      go_simp
      try done
    · clear hi
      have f5 : RP b5 b6 B S1 u1 b3 o3 n c1 k id nx S2 r2 5 (a.tmps.getD 116 undef) w2 := hf 5 (List.contains_iff_mem.1 (by kernel_rfl))
      simp only [RP] at f5
      have e5 := ev f5
      clear hf hr
      have hq := (hb.cell (p := ⟨b3, o3 + k * 10, none⟩) hb3).trans hcid
      refine wp_val (.int .i64 id) ?_ (hK _ _ (show RP _ _ _ _ _ _ _ _ _ _ _ _ _ _ _ _ _ from rfl) (Below.refl _ _))
      go_simp
      try done
    · clear hi
      have t5 := (hr 5 (by intro h; revert h; exact of_decide_eq_false (by kernel_rfl))).trans h5
      have t5 := ev t5
      clear hf hr
      refine wp_val (.pointer (some ⟨b5, 1, none⟩)) ?_ (hK _ _ (show RP _ _ _ _ _ _ _ _ _ _ _ _ _ _ _ _ _ from rfl) (Below.refl _ _))
      go_simp
      try done
    · clear hi
      have f7 : RP b5 b6 B S1 u1 b3 o3 n c1 k id nx S2 r2 7 (a.tmps.getD 118 undef) w2 := hf 7 (List.contains_iff_mem.1 (by kernel_rfl))
      simp only [RP] at f7
      have e7 := ev f7
      clear hf hr
      have hq := (hb.cell (p := ⟨b5, 1, none⟩) hb5).trans hcnx
      refine wp_val (.int .i64 nx) ?_ (hK _ _ (show RP _ _ _ _ _ _ _ _ _ _ _ _ _ _ _ _ _ from rfl) (Below.refl _ _))
      go_simp
      try done
    · clear hi
      have f6 : RP b5 b6 B S1 u1 b3 o3 n c1 k id nx S2 r2 6 (a.tmps.getD 117 undef) w2 := hf 6 (List.contains_iff_mem.1 (by kernel_rfl))
      have f8 : RP b5 b6 B S1 u1 b3 o3 n c1 k id nx S2 r2 8 (a.tmps.getD 119 undef) w2 := hf 8 (List.contains_iff_mem.1 (by kernel_rfl))
      simp only [RP] at f6
      simp only [RP] at f8
      have e6 := ev f6
      have e8 := ev f8
      clear hf hr
      have g6 : a.tmps[117]?.getD undef = .int .i64 id := by rw [← Array.getD_eq_getD_getElem?]; exact f6
      have g8 : a.tmps[119]?.getD undef = .int .i64 nx := by rw [← Array.getD_eq_getD_getElem?]; exact f8
      refine wp_val (.agg (opC (kop 6 id 0 nx) (.slice none 0 0)).toArray) ?_ (hK _ _ (show RP _ _ _ _ _ _ _ _ _ _ _ _ _ _ _ _ _ from rfl) (Below.refl _ _))
      go_simp
      try rfl
    · clear hi
      have f0 : RP b5 b6 B S1 u1 b3 o3 n c1 k id nx S2 r2 0 (a.tmps.getD 111 undef) w2 := hf 0 (List.contains_iff_mem.1 (by kernel_rfl))
      have f9 : RP b5 b6 B S1 u1 b3 o3 n c1 k id nx S2 r2 9 (a.tmps.getD 120 undef) w2 := hf 9 (List.contains_iff_mem.1 (by kernel_rfl))
      simp only [RP] at f0
      simp only [RP] at f9
      have e0 := ev f0
      have e9 := ev f9
      clear hf hr
      have hbs : B ≤ w2.heap.size := by rw [hB]; exact hb.size
      clear hQ FIN
      have hg := do_p S1 u1 (kop 6 id 0 nx) (.slice none 0 0) w2 (hsv.2.1.below stays_cs hb) ht (kop_ok _ _ _ _) rfl (fun h => absurd (show (6 : Int) = 4 from h) (by decide))
      rw [hd] at hg
      go_simp
      refine hg.mono ?_
      rintro e w3 ⟨u, lv, rfl, h1, h2, h3⟩
      go_simp
      exact hK _ _ ⟨u, lv, rfl, h1.mono hbs, h2⟩ h3
    · clear hi
      have f10 : RP b5 b6 B S1 u1 b3 o3 n c1 k id nx S2 r2 10 (a.tmps.getD 121 undef) w2 := hf 10 (List.contains_iff_mem.1 (by kernel_rfl))
      simp only [RP] at f10
      obtain ⟨u4, lv4, f10, hon4, hlv4⟩ := f10
      have e10 := ev f10
      clear hf hr
      refine wp_val _ ?_ (hK _ _ ⟨u4, lv4, rfl, hon4, hlv4⟩ (Below.refl _ _))
      go_simp
      try done
    · clear hi
      have f11 : RP b5 b6 B S1 u1 b3 o3 n c1 k id nx S2 r2 11 (a.tmps.getD 110 undef) w2 := hf 11 (List.contains_iff_mem.1 (by kernel_rfl))
      simp only [RP] at f11
      obtain ⟨u5, lv5, f11, hon5, hlv5⟩ := f11
      have e11 := ev f11
      clear hf hr
      refine wp_val (.agg (stC S2.clock S2.next S2.last u5).toArray) ?_ (hK _ _ ⟨u5, rfl, hon5⟩ (Below.refl _ _))
      go_simp
      try done
    · clear hi
      have f11 : RP b5 b6 B S1 u1 b3 o3 n c1 k id nx S2 r2 11 (a.tmps.getD 110 undef) w2 := hf 11 (List.contains_iff_mem.1 (by kernel_rfl))
      simp only [RP] at f11
      obtain ⟨u5, lv5, f11, hon5, hlv5⟩ := f11
      have e11 := ev f11
      clear hf hr
      refine wp_val (.agg (rpC r2 lv5).toArray) ?_ (hK _ _ ⟨lv5, rfl, hlv5⟩ (Below.refl _ _))
      go_simp
      try done
    · clear hi
      clear hf hr
      have hbs : B ≤ w2.heap.size := by rw [hB]; exact hb.size
      go_simp
      exact hK _ _ ⟨w2.heap.size, rfl, hbs, Wh.new w2 zT _⟩ ((Below.refl _ w2).alloc (Nat.le_refl _) _)
    · clear hi
      clear hf hr
      have hbs : B ≤ w2.heap.size := by rw [hB]; exact hb.size
      go_simp
      exact hK _ _ ⟨w2.heap.size, rfl, hbs, Wh.new w2 zR _⟩ ((Below.refl _ w2).alloc (Nat.le_refl _) _)
  · intro o o2 a w2 ho ho2 hsz2 hdf hb hf hr
    simp only [zD, zE, zF, Option.some.injEq] at ho ho2
    subst ho
    subst ho2
    rw [show (List.range 16).map (dstOf _) = [111, 112, 113, 114, 115, 116, 117, 118, 119, 120, 121, 110, 122, 123, 10, 11] from by kernel_rfl] at hr
    obtain ⟨u, hv6, hon⟩ := hf 12 (by omega)
    obtain ⟨lv, hv7, hlv⟩ := hf 13 (by omega)
    obtain ⟨g1, hv8, hg1, hw1⟩ := hf 14 (by omega)
    obtain ⟨g2, hv9, hg2, hw2⟩ := hf 15 (by omega)
    clear hf
    have hv6 : a.tmps.getD 122 undef = .agg (stC S2.clock S2.next S2.last u).toArray := hv6
    have hv7 : a.tmps.getD 123 undef = .agg (rpC r2 lv).toArray := hv7
    have hv8 : a.tmps.getD 10 undef = .pointer (some ⟨g1, 0, none⟩) := hv8
    have hv9 : a.tmps.getD 11 undef = .pointer (some ⟨g2, 0, none⟩) := hv9
    have hne : g1 ≠ g2 := fun e => by
      subst e
      have h := hw1.symm.trans hw2
      injection h with h
      injection h with h1 h2
      exact absurd h2 (by decide)
    have hw2b := hw2.setOther (Ne.symm hne) (stC S2.clock S2.next S2.last u).toArray
    refine wp_store_row 25 (.tmp 10) (.tmp 122) rfl g1 (stC S2.clock S2.next S2.last u).toArray hv8 hv6 25 zT.toArray hw1 size24 rfl (st_all _ _ _ (rl_one hon.rs)) ?_
    refine wp_store_row 37 (.tmp 11) (.tmp 123) rfl g2 (rpC r2 lv).toArray hv9 hv7 37 zR.toArray hw2b sizeR rfl (rp_all r2 (rl_one hlv.rl)) ?_
    obtain ⟨tt, df⟩ := a
    have hdf : df = a0.defers := hdf
    subst hdf
    exact FIN tt u lv g1 g2 w2 hsz2 hr hv8 hv9 hb hg1 hg2 hw1 hw2 hne hon hlv
  · intro o om o2 a w2 ho hom ho2 hsz2 hdf hb hf hr
    simp only [zD, zE, zF, Option.some.injEq] at ho hom ho2
    subst ho
    subst hom
    subst ho2
    rw [show (List.range 16).map (dstOf _) = [111, 112, 113, 114, 115, 116, 117, 118, 119, 120, 121, 110, 122, 123, 10, 11] from by kernel_rfl] at hr
    obtain ⟨u, hv6, hon⟩ := hf 12 (by omega) (by omega)
    obtain ⟨u5, lv, hv5, hon5, hlv⟩ := hf 11 (by omega) (by omega)
    obtain ⟨g1, hv8, hg1, hw1⟩ := hf 14 (by omega) (by omega)
    obtain ⟨g2, hv9, hg2, hw2⟩ := hf 15 (by omega) (by omega)
    clear hf
    have hv5 : a.tmps.getD 110 undef = .tuple #[.agg (stC S2.clock S2.next S2.last u5).toArray, .agg (rpC r2 lv).toArray] := hv5
    have hv6 : a.tmps.getD 122 undef = .agg (stC S2.clock S2.next S2.last u).toArray := hv6
    have hv8 : a.tmps.getD 10 undef = .pointer (some ⟨g1, 0, none⟩) := hv8
    have hv9 : a.tmps.getD 11 undef = .pointer (some ⟨g2, 0, none⟩) := hv9
    have g5 : a.tmps[110]?.getD undef = .tuple #[.agg (stC S2.clock S2.next S2.last u5).toArray, .agg (rpC r2 lv).toArray] := by rw [← Array.getD_eq_getD_getElem?]; exact hv5
    have hne : g1 ≠ g2 := fun e => by
      subst e
      have h := hw1.symm.trans hw2
      injection h with h
      injection h with h1 h2
      exact absurd h2 (by decide)
    have hw2b := hw2.setOther (Ne.symm hne) (stC S2.clock S2.next S2.last u).toArray
    refine wp_store_row 25 (.tmp 10) (.tmp 122) rfl g1 (stC S2.clock S2.next S2.last u).toArray hv8 hv6 25 zT.toArray hw1 size24 rfl (st_all _ _ _ (rl_one hon.rs)) ?_
    refine wp_val (.agg (rpC r2 lv).toArray) (by clear hv5 hv6 hv8 hv9 hQ FIN hsz2 hr; go_simp; try done) ?_
    obtain ⟨tt, df⟩ := a
    have hdf : df = a0.defers := hdf
    subst hdf
    have hs23 : 123 < tt.size := by have : tt.size = 152 := hsz2.trans hsz; omega
    have z8 : (tt.setIfInBounds 123 (.agg (rpC r2 lv).toArray)).getD 10 undef = .pointer (some ⟨g1, 0, none⟩) := (getD_put_ne (by decide)).trans hv8
    have z9 : (tt.setIfInBounds 123 (.agg (rpC r2 lv).toArray)).getD 11 undef = .pointer (some ⟨g2, 0, none⟩) := (getD_put_ne (by decide)).trans hv9
    have z7 : (tt.setIfInBounds 123 (.agg (rpC r2 lv).toArray)).getD 123 undef = .agg (rpC r2 lv).toArray := getD_put hs23
    refine wp_store_row 37 (.tmp 11) (.tmp 123) rfl g2 (rpC r2 lv).toArray z9 z7 37 zR.toArray hw2b sizeR rfl (rp_all r2 (rl_one hlv.rl)) ?_
    exact FIN (tt.setIfInBounds 123 (.agg (rpC r2 lv).toArray)) u lv g1 g2 w2 (by rw [Array.size_setIfInBounds]; exact hsz2) (fun d hd => (getD_put_ne (fun e => hd (by rw [← e]; decide))).trans (hr d hd)) z8 z9 hb hg1 hg2 hw1 hw2 hne hon hlv
end Go.Proofs.YtodckdkbheapfaaGreat
set_option linter.unusedVariables false
set_option linter.unusedSimpArgs false
namespace Go.Proofs.YtodckdkbheapfaaGreat
open Go.RowKit Go.Rst Go.Tp Go.Ts Go.Inv Go.Md
def zSub : List Value := [.int .i64 0, .string ⟨#[]⟩, .string ⟨#[]⟩, .string ⟨#[]⟩, .int .i64 0, .int .i64 0, .int .i64 0, .slice none 0 0, .slice none 0 0, .string ⟨#[]⟩]
def RQ (b6 : Nat) (b10 : Nat) (B : Nat) (S2 : Ts.St) (u2 : Value) (b3 : Nat) (o3 : Nat) (n : Nat) (c1 : Nat) (k : Nat) (id : Int) (X : Sub) (f : Bool) (k0 : Nat) (v : Value) (w : World) : Prop :=
  match k0 with
  | 0 => v = .agg (stC S2.clock S2.next S2.last u2).toArray
  | 1 => v = .pointer (some ⟨b6, 3, none⟩)
  | 2 => v = .slice (some ⟨b3, o3, none⟩) n c1
  | 3 => v = .int .i64 (k : Nat)
  | 4 => v = .pointer (some ⟨b3, o3 + k * 10, none⟩)
  | 5 => v = .pointer (some ⟨b3, o3 + k * 10, none⟩)
  | 6 => v = .int .i64 id
  | 7 => ∃ av qv, v = .tuple #[.agg (subC X av qv).toArray, .bool f] ∧ Go.Ts.RI w av X.acks ∧ RM w qv X.queue
  | 8 => ∃ av qv, v = .tuple #[.agg (subC X av qv).toArray, .bool f] ∧ Go.Ts.RI w av X.acks ∧ RM w qv X.queue
  | 9 => ∃ av qv, v = .agg (subC X av qv).toArray ∧ Go.Ts.RI w av X.acks ∧ RM w qv X.queue
  | 10 => v = .bool f
  | 11 => ∃ g, v = .pointer (some ⟨g, 0, none⟩) ∧ B ≤ g ∧ Wh w g zSub 30
  | _ => True
theorem RQ.stab {b6 : Nat} {b10 : Nat} {B : Nat} {S2 : Ts.St} {u2 : Value} {b3 : Nat} {o3 : Nat} {n : Nat} {c1 : Nat} {k : Nat} {id : Int} {X : Sub} {f : Bool} (k0 : Nat) (v : Value) (w1 w2 : World) (h : RQ b6 b10 B S2 u2 b3 o3 n c1 k id X f k0 v w1) (hb : Below w1.heap.size w1 w2) : RQ b6 b10 B S2 u2 b3 o3 n c1 k id X f k0 v w2 := by
  unfold RQ at h ⊢
  split at h <;> first | exact h | (obtain ⟨av, qv, h1, h2, h3⟩ := h; exact ⟨av, qv, h1, h2.below stays_ci hb, h3.below stays_cm hb⟩) | (obtain ⟨av, qv, h1, h2, h3⟩ := h; exact ⟨av, qv, h1, h2.below stays_ci hb, h3.below stays_cm hb⟩) | (obtain ⟨av, qv, h1, h2, h3⟩ := h; exact ⟨av, qv, h1, h2.below stays_ci hb, h3.below stays_cm hb⟩) | (obtain ⟨g, h1, h2, h3⟩ := h; exact ⟨g, h1, h2, h3.below hb⟩)
set_option maxRecDepth 100000 in
set_option maxHeartbeats 8000000 in
theorem RQ_r {b6 : Nat} {b10 : Nat} {B : Nat} {S2 : Ts.St} {u2 : Value} {b3 : Nat} {o3 : Nat} {n : Nat} {c1 : Nat} {k : Nat} {id : Int} {X : Sub} {f : Bool} {Q : Exit → Act → World → Prop} {a0 : Act} {w0 : World} (hsz : a0.tmps.size = 152) (h6 : a0.tmps.getD 6 undef = .pointer (some ⟨b6, 0, none⟩)) (h8 : a0.tmps.getD 8 undef = .int .i64 (k : Nat)) (h10 : a0.tmps.getD 10 undef = .pointer (some ⟨b10, 0, none⟩)) (hB : B = w0.heap.size) (hsv : SV w0 b10 S2 u2) (hkn : k < n) (hnc : n ≤ 9223372036854775807) (hc3 : w0.cell? ⟨b6, 3, none⟩ = some (.slice (some ⟨b3, o3, none⟩) n c1)) (hb6 : b6 < w0.heap.size) (hcid : w0.cell? ⟨b3, o3 + k * 10, none⟩ = some (.int .i64 id)) (hb3 : b3 < w0.heap.size) (hX : X = (findS S2.subs id).getD noSub) (hf9 : f = (findS S2.subs id).isSome)
    (hQ : ∀ (y125 y126 y127 y128 y129 y130 y131 y132 y124 y133 y134 av qv : Value) (g : Nat) (W : World), Below B w0 W → Wh W g (subC X av qv) 30 → (∃ A c, qv = .slice A X.queue.length c) → B ≤ g → Q .normal ⟨((((((((((((a0.tmps.setIfInBounds 125 y125).setIfInBounds 126 y126).setIfInBounds 127 y127).setIfInBounds 128 y128).setIfInBounds 129 y129).setIfInBounds 130 y130).setIfInBounds 131 y131).setIfInBounds 132 y132).setIfInBounds 124 y124).setIfInBounds 133 y133).setIfInBounds 134 y134).setIfInBounds 12 (.pointer (some ⟨g, 0, none⟩))).setIfInBounds 13 (.bool f), a0.defers⟩ W) :
  (Code.region 15 #[{ dst := some 125, op := Op.load 25 (Operand.tmp 10), type := 25, pos := "law.go:132", after := #[], guard := none },
   { dst := some 126, op := Op.fieldAddr 25 (Operand.tmp 6) 3, type := 0, pos := "law.go:132", after := #[], guard := none },
   { dst := some 127, op := Op.load 23 (Operand.tmp 126), type := 23, pos := "law.go:132", after := #[{ on := 1, ground := Ground.data }], guard := none },
   { dst := some 128, op := Op.move (Operand.tmp 8), type := 3, pos := "law.go:132", after := #[], guard := none },
   { dst := some 129, op := Op.indexAddr 23 (Operand.tmp 127) (Operand.tmp 128), type := 0, pos := "law.go:132", after := #[{ on := 2, ground := Ground.data }, { on := 3, ground := Ground.data }], guard := none },
   { dst := some 130, op := Op.fieldAddr 30 (Operand.tmp 129) 0, type := 0, pos := "law.go:132", after := #[{ on := 4, ground := Ground.data }], guard := none },
   { dst := some 131, op := Op.load 3 (Operand.tmp 130), type := 3, pos := "law.go:132", after := #[{ on := 5, ground := Ground.data }], guard := none },
   { dst := some 132, op := Op.call { callee := Callee.value (Operand.func 15), args := #[Operand.tmp 125, Operand.tmp 131], argTypes := #[25, 3] }, type := 31, pos := "law.go:132", after := #[{ on := 0, ground := Ground.data }, { on := 6, ground := Ground.data }], guard := none },
   { dst := some 124, op := Op.move (Operand.tmp 132), type := 31, pos := "law.go:132", after := #[{ on := 7, ground := Ground.data }], guard := none },
   { dst := some 133, op := Op.extract (Operand.tmp 124) 0, type := 30, pos := "law.go:132", after := #[{ on := 8, ground := Ground.data }], guard := none },
   { dst := some 134, op := Op.extract (Operand.tmp 124) 1, type := 4, pos := "law.go:132", after := #[{ on := 8, ground := Ground.data }, { on := 12, ground := Ground.gcOnly Departure.lateStores }], guard := none },
   { dst := some 12, op := Op.alloc 30, type := 0, pos := "law.go:132", after := #[], guard := none },
   { dst := none, op := Op.store 30 (Operand.tmp 12) (Operand.tmp 133), type := 0, pos := "law.go:132", after := #[{ on := 11, ground := Ground.data }, { on := 9, ground := Ground.data }, { on := 7, ground := Ground.chain }, { on := 0, ground := Ground.phase }, { on := 1, ground := Ground.phase }, { on := 2, ground := Ground.phase }, { on := 3, ground := Ground.phase }, { on := 4, ground := Ground.phase }, { on := 5, ground := Ground.phase }, { on := 6, ground := Ground.phase }, { on := 7, ground := Ground.phase }, { on := 8, ground := Ground.phase }, { on := 9, ground := Ground.phase }, { on := 10, ground := Ground.textOnly Departure.lateStores }, { on := 11, ground := Ground.phase }], guard := none },
   { dst := some 13, op := Op.assign (Operand.tmp 134), type := 4, pos := "law.go:132", after := #[{ on := 10, ground := Ground.data }, { on := 12, ground := Ground.chain }, { on := 0, ground := Ground.phase }, { on := 1, ground := Ground.phase }, { on := 2, ground := Ground.phase }, { on := 3, ground := Ground.phase }, { on := 4, ground := Ground.phase }, { on := 5, ground := Ground.phase }, { on := 6, ground := Ground.phase }, { on := 7, ground := Ground.phase }, { on := 8, ground := Ground.phase }, { on := 9, ground := Ground.phase }, { on := 10, ground := Ground.phase }, { on := 11, ground := Ground.phase }, { on := 12, ground := Ground.phase }], guard := none }] true).wp Tryz.prog Q a0 w0 := by
  have FIN : ∀ (tt : Array Value) (av qv : Value) (g : Nat) (w2 : World), tt.size = a0.tmps.size → (∀ d, d ∉ [125, 126, 127, 128, 129, 130, 131, 132, 124, 133, 134, 12] ++ [13] → tt.getD d undef = a0.tmps.getD d undef) → tt.getD 12 undef = .pointer (some ⟨g, 0, none⟩) → tt.getD 13 undef = .bool f → Below w0.heap.size w0 w2 → B ≤ g → Wh w2 g zSub 30 → (∃ A c, qv = .slice A X.queue.length c) → Q .normal ⟨tt, a0.defers⟩ (w2.setRow g (subC X av qv).toArray) := by
    intro tt av qv g w2 hsz2 hr h12 h13 hb hg hw hsh
    have hq := tmps_eq _ _ hsz2 hr
    simp only [List.cons_append, List.nil_append, List.foldl_cons, List.foldl_nil] at hq
    have hbB : Below B w0 (w2.setRow g (subC X av qv).toArray) := below_setRow (hb.mono (Nat.le_of_eq hB)) hg _
    have G := hQ (tt.getD 125 undef) (tt.getD 126 undef) (tt.getD 127 undef) (tt.getD 128 undef) (tt.getD 129 undef) (tt.getD 130 undef) (tt.getD 131 undef) (tt.getD 132 undef) (tt.getD 124 undef) (tt.getD 133 undef) (tt.getD 134 undef) av qv g _ hbB (hw.set _) hsh hg
    rw [← h12, ← h13, ← hq] at G
    exact G
  refine wp_region_each4 (n := 12) (m := 10) (by decide) (RQ b6 b10 B S2 u2 b3 o3 n c1 k id X f) (by kernel_rfl) (by rw [hsz]; kernel_rfl) RQ.stab ?_ ?_ ?_
  · intro k0 o a w2 hi ho hb hf hr K hK
    obtain rfl | rfl | rfl | rfl | rfl | rfl | rfl | rfl | rfl | rfl | rfl | rfl := (by omega : k0 = 0 ∨ k0 = 1 ∨ k0 = 2 ∨ k0 = 3 ∨ k0 = 4 ∨ k0 = 5 ∨ k0 = 6 ∨ k0 = 7 ∨ k0 = 8 ∨ k0 = 9 ∨ k0 = 10 ∨ k0 = 11)
    all_goals (simp only [zD, zE, zF, Option.some.injEq] at ho; subst ho)
    · clear hi
      have t10 := (hr 10 (by intro h; revert h; exact of_decide_eq_false (by kernel_rfl))).trans h10
      have t10 := ev t10
      clear hf hr
      refine exec_val (exec_load_mid 25 (.tmp 10) rfl b10 0 t10 _ _ ((hsv.1.below hb).range) Tryz.underlying25 rfl size24) (hK _ _ (show RQ _ _ _ _ _ _ _ _ _ _ _ _ _ _ _ _ from rfl) (Below.refl _ _))
    · clear hi
      have t6 := (hr 6 (by intro h; revert h; exact of_decide_eq_false (by kernel_rfl))).trans h6
      have t6 := ev t6
      clear hf hr
      refine wp_val (.pointer (some ⟨b6, 3, none⟩)) ?_ (hK _ _ (show RQ _ _ _ _ _ _ _ _ _ _ _ _ _ _ _ _ from rfl) (Below.refl _ _))
      go_simp
      try done
    · clear hi
      have f1 : RQ b6 b10 B S2 u2 b3 o3 n c1 k id X f 1 (a.tmps.getD 126 undef) w2 := hf 1 (List.contains_iff_mem.1 (by kernel_rfl))
      simp only [RQ] at f1
      have e1 := ev f1
      clear hf hr
      have hq := (hb.cell (p := ⟨b6, 3, none⟩) hb6).trans hc3
      refine wp_val (.slice (some ⟨b3, o3, none⟩) n c1) ?_ (hK _ _ (show RQ _ _ _ _ _ _ _ _ _ _ _ _ _ _ _ _ from rfl) (Below.refl _ _))
      go_simp
      try done
    · clear hi
      have t8 := (hr 8 (by intro h; revert h; exact of_decide_eq_false (by kernel_rfl))).trans h8
      have t8 := ev t8
      clear hf hr
      refine wp_val (.int .i64 (k : Nat)) ?_ (hK _ _ (show RQ _ _ _ _ _ _ _ _ _ _ _ _ _ _ _ _ from rfl) (Below.refl _ _))
      go_simp
      try done
    · clear hi
      have f2 : RQ b6 b10 B S2 u2 b3 o3 n c1 k id X f 2 (a.tmps.getD 127 undef) w2 := hf 2 (List.contains_iff_mem.1 (by kernel_rfl))
      have f3 : RQ b6 b10 B S2 u2 b3 o3 n c1 k id X f 3 (a.tmps.getD 128 undef) w2 := hf 3 (List.contains_iff_mem.1 (by kernel_rfl))
      simp only [RQ] at f2
      simp only [RQ] at f3
      have e2 := ev f2
      have e3 := ev f3
      clear hf hr
      refine wp_val (.pointer (some ⟨b3, o3 + k * 10, none⟩)) ?_ (hK _ _ (show RQ _ _ _ _ _ _ _ _ _ _ _ _ _ _ _ _ from rfl) (Below.refl _ _))
      go_simp
      try done
    · clear hi
      have f4 : RQ b6 b10 B S2 u2 b3 o3 n c1 k id X f 4 (a.tmps.getD 129 undef) w2 := hf 4 (List.contains_iff_mem.1 (by kernel_rfl))
      simp only [RQ] at f4
      have e4 := ev f4
      clear hf hr
      refine wp_val (.pointer (some ⟨b3, o3 + k * 10, none⟩)) ?_ (hK _ _ (show RQ _ _ _ _ _ _ _ _ _ _ _ _ _ _ _ _ from rfl) (Below.refl _ _))
      go_simp
      try done
    · clear hi
      have f5 : RQ b6 b10 B S2 u2 b3 o3 n c1 k id X f 5 (a.tmps.getD 130 undef) w2 := hf 5 (List.contains_iff_mem.1 (by kernel_rfl))
      simp only [RQ] at f5
      have e5 := ev f5
      clear hf hr
      have hq := (hb.cell (p := ⟨b3, o3 + k * 10, none⟩) hb3).trans hcid
      refine wp_val (.int .i64 id) ?_ (hK _ _ (show RQ _ _ _ _ _ _ _ _ _ _ _ _ _ _ _ _ from rfl) (Below.refl _ _))
      go_simp
      try done
    · clear hi
      have f0 : RQ b6 b10 B S2 u2 b3 o3 n c1 k id X f 0 (a.tmps.getD 125 undef) w2 := hf 0 (List.contains_iff_mem.1 (by kernel_rfl))
      have f6 : RQ b6 b10 B S2 u2 b3 o3 n c1 k id X f 6 (a.tmps.getD 131 undef) w2 := hf 6 (List.contains_iff_mem.1 (by kernel_rfl))
      simp only [RQ] at f0
      simp only [RQ] at f6
      have e0 := ev f0
      have e6 := ev f6
      clear hf hr
      clear hQ FIN
      have hg := find_any S2.clock S2.next S2.last u2 S2.subs id w2 (hsv.2.1.below stays_cs hb)
      go_simp
      refine hg.mono ?_
      rintro e w3 ⟨av, qv, rfl, ha, hq, hb3w⟩
      go_simp
      rw [← hX, ← hf9]
      exact hK _ _ ⟨av, qv, rfl, by rw [hX]; exact ha, by rw [hX]; exact hq⟩ hb3w
    · clear hi
      have f7 : RQ b6 b10 B S2 u2 b3 o3 n c1 k id X f 7 (a.tmps.getD 132 undef) w2 := hf 7 (List.contains_iff_mem.1 (by kernel_rfl))
      simp only [RQ] at f7
      obtain ⟨a7, q7, f7, ra7, rq7⟩ := f7
      have e7 := ev f7
      clear hf hr
      refine wp_val _ ?_ (hK _ _ ⟨a7, q7, rfl, ra7, rq7⟩ (Below.refl _ _))
      go_simp
      try done
    · clear hi
      have f8 : RQ b6 b10 B S2 u2 b3 o3 n c1 k id X f 8 (a.tmps.getD 124 undef) w2 := hf 8 (List.contains_iff_mem.1 (by kernel_rfl))
      simp only [RQ] at f8
      obtain ⟨a8, q8, f8, ra8, rq8⟩ := f8
      have e8 := ev f8
      clear hf hr
      refine wp_val (.agg (subC X a8 q8).toArray) ?_ (hK _ _ ⟨a8, q8, rfl, ra8, rq8⟩ (Below.refl _ _))
      go_simp
      try done
    · clear hi
      have f8 : RQ b6 b10 B S2 u2 b3 o3 n c1 k id X f 8 (a.tmps.getD 124 undef) w2 := hf 8 (List.contains_iff_mem.1 (by kernel_rfl))
      simp only [RQ] at f8
      obtain ⟨a8, q8, f8, ra8, rq8⟩ := f8
      have e8 := ev f8
      clear hf hr
      refine wp_val (.bool f) ?_ (hK _ _ (show RQ _ _ _ _ _ _ _ _ _ _ _ _ _ _ _ _ from rfl) (Below.refl _ _))
      go_simp
      try done
    · clear hi
      clear hf hr
      have hbs : B ≤ w2.heap.size := by rw [hB]; exact hb.size
      go_simp
      exact hK _ _ ⟨w2.heap.size, rfl, hbs, Wh.new w2 zSub _⟩ ((Below.refl _ w2).alloc (Nat.le_refl _) _)
  · intro o o2 a w2 ho ho2 hsz2 hdf hb hf hr
    simp only [zD, zE, zF, Option.some.injEq] at ho ho2
    subst ho
    subst ho2
    rw [show (List.range 12).map (dstOf _) ++ [dstOf _ 13] = [125, 126, 127, 128, 129, 130, 131, 132, 124, 133, 134, 12] ++ [13] from by kernel_rfl] at hr
    obtain ⟨av, qv, hv9, hra, hrq⟩ := hf 9 (by omega)
    have hv10 := hf 10 (by omega)
    obtain ⟨g, hv11, hg, hw⟩ := hf 11 (by omega)
    clear hf
    have hv9 : a.tmps.getD 133 undef = .agg (subC X av qv).toArray := hv9
    have hv10 : a.tmps.getD 134 undef = .bool f := hv10
    have hv11 : a.tmps.getD 12 undef = .pointer (some ⟨g, 0, none⟩) := hv11
    have hsh : ∃ A c, qv = .slice A X.queue.length c := by obtain ⟨A, c, h, _⟩ := hrq.shape; exact ⟨A, c, h⟩
    obtain ⟨tt, df⟩ := a
    have hdf : df = a0.defers := hdf
    subst hdf
    have hs13 : 13 < tt.size := by have : tt.size = 152 := hsz2.trans hsz; omega
    have hs134 : 134 < tt.size := by have : tt.size = 152 := hsz2.trans hsz; omega
    refine wp_store_row 30 (.tmp 12) (.tmp 133) rfl g (subC X av qv).toArray hv11 hv9 30 zSub.toArray hw size35 rfl (sub_all X (rl_one hra) (rl_one hrq)) ?_
    have g10 : tt[134]?.getD undef = .bool f := by rw [← Array.getD_eq_getD_getElem?]; exact hv10
    refine wp_val (.bool f) (by clear hv9 hv10 hv11 hQ FIN hsz2 hr hs13 hs134; go_simp; try done) ?_
    exact FIN (tt.setIfInBounds 13 (.bool f)) av qv g w2 (by rw [Array.size_setIfInBounds]; exact hsz2) (fun d hd => (getD_put_ne (fun e => hd (by rw [← e]; decide))).trans (hr d hd)) ((getD_put_ne (by decide)).trans hv11) (getD_put hs13) hb hg hw hsh
  · intro o om o2 a w2 ho hom ho2 hsz2 hdf hb hf hr
    simp only [zD, zE, zF, Option.some.injEq] at ho hom ho2
    subst ho
    subst hom
    subst ho2
    rw [show (List.range 12).map (dstOf _) ++ [dstOf _ 13] = [125, 126, 127, 128, 129, 130, 131, 132, 124, 133, 134, 12] ++ [13] from by kernel_rfl] at hr
    obtain ⟨av, qv, hv9, hra, hrq⟩ := hf 9 (by omega) (by omega)
    obtain ⟨a8, q8, hv8, _, _⟩ := hf 8 (by omega) (by omega)
    obtain ⟨g, hv11, hg, hw⟩ := hf 11 (by omega) (by omega)
    clear hf
    have hv9 : a.tmps.getD 133 undef = .agg (subC X av qv).toArray := hv9
    have hv8 : a.tmps.getD 124 undef = .tuple #[.agg (subC X a8 q8).toArray, .bool f] := hv8
    have hv11 : a.tmps.getD 12 undef = .pointer (some ⟨g, 0, none⟩) := hv11
    have hsh : ∃ A c, qv = .slice A X.queue.length c := by obtain ⟨A, c, h, _⟩ := hrq.shape; exact ⟨A, c, h⟩
    obtain ⟨tt, df⟩ := a
    have hdf : df = a0.defers := hdf
    subst hdf
    have hs13 : 13 < tt.size := by have : tt.size = 152 := hsz2.trans hsz; omega
    have hs134 : 134 < tt.size := by have : tt.size = 152 := hsz2.trans hsz; omega
    refine wp_store_row 30 (.tmp 12) (.tmp 133) rfl g (subC X av qv).toArray hv11 hv9 30 zSub.toArray hw size35 rfl (sub_all X (rl_one hra) (rl_one hrq)) ?_
    have g8 : tt[124]?.getD undef = .tuple #[.agg (subC X a8 q8).toArray, .bool f] := by rw [← Array.getD_eq_getD_getElem?]; exact hv8
    refine wp_val (.bool f) (by clear hv9 hv8 hv11 hQ FIN hsz2 hr hs13 hs134; go_simp; try done) ?_
    have z134 : (tt.setIfInBounds 134 (.bool f))[134]?.getD undef = .bool f := by rw [← Array.getD_eq_getD_getElem?]; exact getD_put hs134
    refine wp_val (.bool f) (by show (execOp (Act.eval ⟨tt.setIfInBounds 134 (.bool f), a0.defers⟩) _).run _ _ = _; obtain ⟨tq, htq⟩ : ∃ tq, tq = tt.setIfInBounds 134 (.bool f) := ⟨_, rfl⟩; rw [← htq] at z134 ⊢; clear htq hv9 hv8 hv11 hQ FIN hsz2 hr hs13 hs134 g8; go_simp; try done) ?_
    have hs13b : 13 < (tt.setIfInBounds 134 (.bool f)).size := by rw [Array.size_setIfInBounds]; exact hs13
    exact FIN ((tt.setIfInBounds 134 (.bool f)).setIfInBounds 13 (.bool f)) av qv g w2 (by rw [Array.size_setIfInBounds, Array.size_setIfInBounds]; exact hsz2) (fun d hd => ((getD_put_ne (fun e => hd (by rw [← e]; decide))).trans (getD_put_ne (fun e => hd (by rw [← e]; decide)))).trans (hr d hd)) (((getD_put_ne (by decide)).trans (getD_put_ne (by decide))).trans hv11) (getD_put hs13b) hb hg hw hsh
end Go.Proofs.YtodckdkbheapfaaGreat
