/-
  The contract of the statements' own State (layer state).
-/
import Derived.Test.YtodckdkbheapfaaGreatKOEE
set_option linter.unusedVariables false
set_option linter.unusedVariables false
set_option linter.unusedSimpArgs false
namespace Go.Proofs.YtodckdkbheapfaaGreat
open Go.RowKit Go.Rst Go.Tp Go.Ts Go.Inv
theorem wpList_min4 {P : Program} {w : World} {ops : Array Oper} {rest : List Oper} {o : Oper} {a : Act} {Q : Exit → Act → World → Prop} (hgd : o.guard = none) (x y : Operand) (ts : Array TypeId)
    (ho : o.op = .call { callee := .builtin .min, args := #[x, y], argTypes := ts }) {X Y n : Int} (hx : a.eval x = .int .i64 X) (hy : a.eval y = .int .i64 Y)
    (hn : (if Y < X then Y else X) = n) (h : wpList P ops Q rest (a.put o.dst (.int .i64 n)) w) : wpList P ops Q (o :: rest) a w := by
  refine wpList_plain hgd fun K hK => ?_
  unfold Oper.wp execOp
  simp only [ho, resolve, invoke, builtin, Sem.run_bind, Sem.run_pure, Result.andThen_ok, List.map_toArray, List.map_cons, List.map_nil, hx, hy, run_min_int2, hn]
  exact hK _ _ h
def GivesMd (w : World) (e : Ending) (w' : World) : Prop := ∃ (c n l : Int) (v : Value) (xs : List Sub), e = .returned (.agg (stC c n l v).toArray) ∧ RS w' v xs ∧ Below w.heap.size w w' ∧ MadeS c n l xs ∧ xs.length ≤ 6
theorem made_acks {c n l : Int} {xs : List Sub} (h : MadeS c n l xs) : ∀ x ∈ xs, ∀ m ∈ x.acks, 0 < m := fun x hx m hm => by
  have hg := (h.ok x hx).1
  simp only [goodB, Bool.and_eq_true] at hg
  have hf := hg.1.1
  simp only [fieldsB, Bool.and_eq_true, decide_eq_true_eq] at hf
  have := ack_all hg.1.2 m hm
  have h0 : 0 ≤ x.floor := hf.1.1.1.1.2
  omega
set_option maxRecDepth 100000 in
set_option maxHeartbeats 8000000 in
theorem state_any (cv : Value) (l : List UInt8) (w : World) (hcv : RB w cv l) (hlm : l.length ≤ 140737488351232) :
    Calls Tryz.prog 14 #[cv] w (GivesMd w) := by
  have HV := Lib.hid hcv
  have G0 := gN_lt l 0
  have G1 := gN_lt l 1
  have G2 := gN_lt l 2
  have HG := Lib.hid (fun i W (h : Below w.heap.size w W) => gN_any i (hcv.below h))
  obtain ⟨Ac, cc, rfl, hcc, hccm, hcell⟩ := hcv
  unfold maxLen at hccm
  have HCE := Lib.hid hcell
  clear hcell
  have hb0 := (Below.refl w.heap.size w).alloc (Nat.le_refl _) (.cells #[.int .i64 0, .int .i64 0, .int .i64 0, .slice none 0 0] 25)
  have HB0 := Lib.hid hb0
  clear hb0
  obtain ⟨g0, e0⟩ : ∃ g, g = gN l 0 := ⟨_, rfl⟩
  obtain ⟨g1, e1⟩ : ∃ g, g = gN l 1 := ⟨_, rfl⟩
  obtain ⟨g2, e2⟩ : ∃ g, g = gN l 2 := ⟨_, rfl⟩
  have HG0 := Lib.hid (fun W (h : Below w.heap.size w W) => HG.out 0 W h)
  have HG1 := Lib.hid (fun W (h : Below w.heap.size w W) => HG.out 1 W h)
  have HG2 := Lib.hid (fun W (h : Below w.heap.size w W) => HG.out 2 W h)
  rw [← e0] at G0 HG0
  rw [← e1] at G1 HG1
  rw [← e2] at G2 HG2
  clear e0 e1 e2 HG
  have q1 : (g2 : Int).tmod 8 = (g2 : Int) % 8 := Int.tmod_eq_emod_of_nonneg (by omega)
  go_enter Tryz.func14, Tryz.ntmps14
  go_wp2_with fail
  refine (HG0.out _ HB0.out).mono ?_
  rintro e w5 ⟨rfl, hw5⟩
  subst w5
  go_wp2_with fail
  refine (HG1.out _ HB0.out).mono ?_
  rintro e w5 ⟨rfl, hw5⟩
  subst w5
  go_wp2_with fail
  refine (HG2.out _ HB0.out).mono ?_
  rintro e w5 ⟨rfl, hw5⟩
  subst w5
  go_wp2_with fail
  go_loopw [4] (fun iv wr => ∃ (i : Nat) (c n la : Int) (sv : Value) (xs : List Sub), i ≤ 6 ∧ iv = .int .i64 i ∧ Wh wr (w.heap.size + 1) (stC c n la sv) 25 ∧ RS wr sv xs ∧ MadeS c n la xs ∧ xs.length ≤ i ∧ Wh wr w.heap.size (stC 0 0 0 (.slice none 0 0)) 25 ∧ Below w.heap.size w wr) (fun iv _ => 6 - (intOf iv).toNat)
  case atStart =>
    refine ⟨0, (g0 : Int) * 7, 1 + (g1 : Int) / 4, (g2 : Int) % 8, .slice none 0 0, [], by omega, rfl, ?_, RL.nil_ _ _ _ (Nat.zero_le _), ⟨by omega, by omega, by omega, by omega, by omega, by omega, List.Pairwise.nil, fun x hx => by cases hx⟩, Nat.le_refl _, ?_, ?_⟩
    · have := Wh.new (w.alloc (.cells (stC 0 0 0 (.slice none 0 0)).toArray 25)) (stC ((g0 : Int) * 7) (1 + (g1 : Int) / 4) ((g2 : Int) % 8) (.slice none 0 0)) 25
      rw [World.size_alloc] at this
      exact this
    · exact (Wh.new w (stC 0 0 0 (.slice none 0 0)) 25).alloc _
    · exact below_two w _ _ _ _
  case round =>
    clear HG0 HG1 HG2 HB0 q1
    obtain ⟨i, c, n, la, sv, xs, hi, rfl, hwt, hrs, hms, hxl, hwr, hbw⟩ := hrel
    have HWT := Lib.hid hwt
    have HRS := Lib.hid hrs
    have HMS := Lib.hid hms
    have HWR := Lib.hid hwr
    have HBW := Lib.hid hbw
    have c2 := hwt.bx.cell (i := 2) (by simp [stC])
    simp only [stC, List.getElem_cons_succ, List.getElem_cons_zero] at c2
    have hl0 := hms.l0
    have hl1 := hms.l1
    clear hwt hrs hms hwr hbw
    by_cases h6 : i < 6
    case neg =>
      have q1 : ¬ (i : Int) < 6 := by omega
      have c3r := HWT.out.range
      have HR9 := Lib.hid c3r
      clear c3r
      go_wp2_with (first
        | (refine wpList_load_midG (by rfl) 25 (.tmp 3) rfl (w.heap.size + 1) 0 rfl _ _ HR9.out Tryz.underlying25 rfl size24 ?_)
        | (refine wpList_store_row rfl 25 (.tmp 2) (.tmp 64) rfl w.heap.size (stC c n la sv).toArray rfl rfl 25 (stC 0 0 0 (.slice none 0 0)).toArray HWR.out size24 rfl (st_all c n la (rl_one HRS.out)) ?_))
      refine bodyPost_ret (results_cell_row rfl _ _ w.heap.size 25 (stC c n la sv).toArray (0, 0) _ rfl (HWR.out.set (stC c n la sv)) Tryz.underlying25 rfl size24) rfl ?_
      exact ⟨c, n, la, sv, xs, rfl, rs_zero HWR.out HRS.out (fun x hx m hm => by have := made_acks HMS.out x hx m hm; omega) _, below_setRow HBW.out (Nat.le_refl _) (stC c n la sv).toArray, HMS.out, by omega⟩
    have q1 : (i : Int) < 6 := by omega
    by_cases hla : 0 < la
    case neg =>
      have c3r := HWT.out.range
      have HR9 := Lib.hid c3r
      clear c3r
      go_wp2_with (first
        | (refine wpList_load_midG (by rfl) 25 (.tmp 3) rfl (w.heap.size + 1) 0 rfl _ _ HR9.out Tryz.underlying25 rfl size24 ?_)
        | (refine wpList_store_row rfl 25 (.tmp 2) (.tmp 64) rfl w.heap.size (stC c n la sv).toArray rfl rfl 25 (stC 0 0 0 (.slice none 0 0)).toArray HWR.out size24 rfl (st_all c n la (rl_one HRS.out)) ?_))
      refine bodyPost_ret (results_cell_row rfl _ _ w.heap.size 25 (stC c n la sv).toArray (0, 0) _ rfl (HWR.out.set (stC c n la sv)) Tryz.underlying25 rfl size24) rfl ?_
      exact ⟨c, n, la, sv, xs, rfl, rs_zero HWR.out HRS.out (fun x hx m hm => by have := made_acks HMS.out x hx m hm; omega) _, below_setRow HBW.out (Nat.le_refl _) (stC c n la sv).toArray, HMS.out, by omega⟩
    obtain ⟨f, hf⟩ : ∃ f, f = min l.length (3 + 24 * i) := ⟨_, rfl⟩
    obtain ⟨t, ht⟩ : ∃ t, t = min l.length (27 + 24 * i) := ⟨_, rfl⟩
    have HMF := Lib.hid (show (if (3 + 24 * (i : Int)) < (l.length : Int) then (3 + 24 * (i : Int)) else (l.length : Int)) = (f : Int) by split <;> omega)
    have HMT := Lib.hid (show (if (27 + 24 * (i : Int)) < (l.length : Int) then (27 + 24 * (i : Int)) else (l.length : Int)) = (t : Int) by split <;> omega)
    have hft : f ≤ t := by omega
    have htl : t ≤ l.length := by omega
    clear hf ht
    by_cases hne : f = t
    · have q3 : ((f : Int) == (t : Int)) = true := by rw [hne]; simp
      have HNE := Lib.hid hne
      clear hne
      have c3r := HWT.out.range
      have HR9 := Lib.hid c3r
      clear c3r
      go_wp2_with (first
        | (refine wpList_min4 rfl (.tmp 29) (.tmp 32) _ rfl rfl rfl (n := (f : Int)) HMF.out ?_)
        | (refine wpList_min4 rfl (.tmp 35) (.tmp 38) _ rfl rfl rfl (n := (t : Int)) HMT.out ?_)
        | (refine wpList_load_midG (by rfl) 25 (.tmp 3) rfl (w.heap.size + 1) 0 rfl _ _ HR9.out Tryz.underlying25 rfl size24 ?_)
        | (refine wpList_store_row rfl 25 (.tmp 2) (.tmp 64) rfl w.heap.size (stC c n la sv).toArray rfl rfl 25 (stC 0 0 0 (.slice none 0 0)).toArray HWR.out size24 rfl (st_all c n la (rl_one HRS.out)) ?_))
      refine bodyPost_ret (results_cell_row rfl _ _ w.heap.size 25 (stC c n la sv).toArray (0, 0) _ rfl (HWR.out.set (stC c n la sv)) Tryz.underlying25 rfl size24) rfl ?_
      exact ⟨c, n, la, sv, xs, rfl, rs_zero HWR.out HRS.out (fun x hx m hm => by have := made_acks HMS.out x hx m hm; omega) _, below_setRow HBW.out (Nat.le_refl _) (stC c n la sv).toArray, HMS.out, by omega⟩
    have q3 : ((f : Int) == (t : Int)) = false := by simp; omega
    have hfl : f < l.length := by omega
    obtain ⟨bb, off, rfl, hbb, hce⟩ : ∃ bb off, Ac = some ⟨bb, off, none⟩ ∧ bb < w.heap.size ∧ ∀ j (h : j < l.length), w.cell? ⟨bb, off + j, none⟩ = some (bv l[j]) := by
      rcases HCE.out with h | h
      · rw [h] at hfl; simp at hfl
      · exact h
    have hbl : bb < wr.heap.size := Nat.lt_of_lt_of_le hbb HBW.out.size
    have hcz := (HBW.out.cell (p := ⟨bb, off + f, none⟩) hbb).trans (hce f hfl)
    obtain ⟨z, hz⟩ : ∃ z, z = (l[f]).toNat := ⟨_, rfl⟩
    unfold bv at hcz
    rw [← hz] at hcz
    have hz2 : z < 256 := by rw [hz]; exact UInt8.toNat_lt _
    have HRB := Lib.hid (RB.cut (q := f) (n := t - f) (HV.out.below HBW.out) (by omega))
    have HCE2 := Lib.hid hce
    clear hz hce
    obtain ⟨dd, hdd⟩ : ∃ dd, dd = (z : Int) % la := ⟨_, rfl⟩
    have hd0 : 0 ≤ dd := by rw [hdd]; exact Int.emod_nonneg _ (by omega)
    have hd1 : dd < la := by rw [hdd]; exact Int.emod_lt_of_pos _ hla
    have hd2 : (z : Int).tmod la = dd := by rw [Int.tmod_eq_emod_of_nonneg (by omega), hdd]
    have HDD := Lib.hid hdd
    have hlt := HWT.out.lt
    clear hdd
    go_wp2_with (first | (refine wpList_min4 rfl (.tmp 29) (.tmp 32) _ rfl rfl rfl (n := (f : Int)) HMF.out ?_) | (refine wpList_min4 rfl (.tmp 35) (.tmp 38) _ rfl rfl rfl (n := (t : Int)) HMT.out ?_))
    refine wp_region_held_drew (S := SB [wr]) (by kernel_rfl) (SB.start _) (fun hHeld => ?_)
    refine tkC 0 ?_
    refine tkC 1 ?_
    refine tkA 2 (v := .pointer (some ⟨bb, off + f, none⟩)) ?_ ?_
    · intro W hSw; go_simp; try (with_reducible rfl)
    try simp only [Act.put, zA, zB, zC]
    refine tkA 3 (v := .int .u8 (z : Nat)) ?_ ?_
    · intro W hSw; have hq := (SB.b0 hSw).cell (p := ⟨bb, off + f, none⟩) hbl |>.trans hcz; go_simp; try (with_reducible rfl)
    try simp only [Act.put, zA, zB, zC]
    refine tkA 4 (v := .int .i64 (z : Nat)) ?_ ?_
    · intro W hSw; go_simp; try (first | done | go_num | (rw [IntKind.wrap_i64]; omega))
    try simp only [Act.put, zA, zB, zC]
    refine tkC 5 ?_
    refine tkA 6 (v := .int .i64 la) ?_ ?_
    · intro W hSw; have hq := (SB.b0 hSw).cell (p := ⟨w.heap.size + 1, 2, none⟩) hlt |>.trans c2; go_simp; try (with_reducible rfl)
    try simp only [Act.put, zA, zB, zC]
    refine tkA 7 (v := .int .i64 dd) ?_ ?_
    · intro W hSw; go_simp; try (first | done | go_num | (rw [if_neg (by omega), hd2]))
    try simp only [Act.put, zA, zB, zC]
    refine tkA 8 (v := .int .i64 (1 + dd)) ?_ ?_
    · intro W hSw; go_simp; try (first | done | go_num | (rw [IntKind.wrap_i64]; omega))
    try simp only [Act.put, zA, zB, zC]
    refine tkC 9 ?_
    refine wpAnyH_done (by kernel_rfl) ?_ _
    clear hHeld
    have hdr : Below wr.heap.size wr wr.drew := (Below.refl _ _).drew
    obtain ⟨wd, hwd⟩ : ∃ wd, wd = wr.drew := ⟨_, rfl⟩
    rw [← hwd] at hdr ⊢
    have HDR := Lib.hid hdr
    have HDS := Lib.hid (show wd.heap.size = wr.heap.size by rw [hwd]; rfl)
    clear hwd hdr c2 hcz
    go_wp2_with fail
    have hms := HMS.out
    refine R9_r (bb := bb) (off := off) (n := l.length) (cc := cc) (f := f) (t := t) (id := 1 + dd) (c := c) (nx := n) (la := la) (b := w.heap.size + 1) (sv := sv) (xs := xs) rfl rfl rfl rfl rfl rfl (by omega) htl hcc (by omega) hms.c0 hms.c1 hms.n0 hms.n1 (by omega) (by omega) (HWT.out.below HDR.out) (HRS.out.below stays_cs HDR.out) (by omega) (HRB.out.below HDR.out) ?_
    intro y52 y53 y54 y55 y56 y57 y58 y59 y60 y61 y62 y63 x u W hbW hru hmx
    obtain ⟨A3, k3, rfl, _⟩ := hru.shape
    have hbt := HBW.out.trans ((HDR.out.mono HBW.out.size).trans (hbW.mono (by have := HDS.out; have := HBW.out.size; omega)))
    have hwtW := (HWT.out.below HDR.out).below hbW
    obtain ⟨A4, k4, hsv, _⟩ := HRS.out.shape
    have hws := hwtW.set (stC c n la (.slice A3 (putS xs x).length k3))
    have hrsn := rs_state (u := .slice A3 (putS xs x).length k3) (by rw [hsv] at hwtW; exact hwtW) hru
    have hwrn := ((HWR.out.below HDR.out).below hbW).setOther (k := w.heap.size + 1) (by omega) (stC c n la (.slice A3 (putS xs x).length k3)).toArray
    have hbn : Below w.heap.size w (W.setRow (w.heap.size + 1) (stC c n la (.slice A3 (putS xs x).length k3)).toArray) := below_setRow hbt (by omega) _
    have hmn := HMS.out.put hmx.2.1 (by rw [hmx.1]; omega) (by rw [hmx.1]; omega) hmx.2.2
    have hpl := put_len xs x
    have HWS := Lib.hid hws
    have HRSN := Lib.hid hrsn
    have HWRN := Lib.hid hwrn
    have HBN := Lib.hid hbn
    have HMN := Lib.hid hmn
    clear hws hrsn hwrn hbn hmn hwtW hbt hbW hru hmx hms
    simp only [zA, zB, zC]
    go_wp2
    go_roundw
    case rel => exact ⟨i + 1, c, n, la, _, putS xs x, by omega, by go_num, HWS.out, HRSN.out, HMN.out, by omega, HWRN.out, HBN.out⟩
    case measure => simp [intOf]; omega
end Go.Proofs.YtodckdkbheapfaaGreat
