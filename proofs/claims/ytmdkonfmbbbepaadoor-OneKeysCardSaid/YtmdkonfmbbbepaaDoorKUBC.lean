/-
  The contracts of the program's digits, Key and Parts (layer state), at keys.; The contract of the program's Parts at keys (layer state).
-/
import Derived.Handy
import Derived.Test.YtmdkonfmbbbepaaDoorKUE
import Derived.Test.YtmdkonfmbbbepaaDoorKUBB
set_option linter.unusedVariables false
set_option linter.unusedVariables false
namespace Go.Tk
open Go
theorem nd_le : ∀ k u, u < 10 ^ (k + 1) → Lib.nDigits u ≤ k + 1
  | 0, u, h => by rw [Lib.nDigits_small (by simpa using h)]; exact Nat.le_refl _
  | k + 1, u, h => by
    by_cases hu : u < 10
    · rw [Lib.nDigits_small hu]; omega
    · have := nd_le k (u / 10) (by rw [Nat.div_lt_iff_lt_mul (by decide)]; rw [Nat.pow_succ] at h; exact h)
      rw [Lib.nDigits_big hu]; omega
theorem dl_le {u : Nat} (h : u ≤ 9999999999) : (Lib.decDigits u).length ≤ 10 ∧ 1 ≤ (Lib.decDigits u).length := by
  rw [Lib.decDigits_length]
  exact ⟨nd_le 9 u (by omega), Lib.nDigits_pos u⟩
end Go.Tk
namespace Go.Proofs.YtmdkonfmbbbepaaDoor
open Go.RowKit Go.Rst Go.Tp Go.Ts Go.Tk
theorem Pow.below {w w' : World} (h : Pow w) (hb : Below w.heap.size w w') : Pow w' := Lib.tabBelow_of_tabIs h _ hb
theorem wpList_min3 {P : Program} {w : World} {ops : Array Oper} {rest : List Oper} {o : Oper} {a : Act} {Q : Exit → Act → World → Prop} (hgd : o.guard = none) (x y : Operand) (ts : Array TypeId)
    (ho : o.op = .call { callee := .builtin .min, args := #[x, y], argTypes := ts }) {X Y n : Int} (hx : a.eval x = .int .i64 X) (hy : a.eval y = .int .i64 Y)
    (hn : (if Y < X then Y else X) = n) (h : wpList P ops Q rest (a.put o.dst (.int .i64 n)) w) : wpList P ops Q (o :: rest) a w := by
  refine wpList_plain hgd fun K hK => ?_
  unfold Oper.wp execOp
  simp only [ho, resolve, invoke, builtin, Sem.run_bind, Sem.run_pure, Result.andThen_ok, List.map_toArray, List.map_cons, List.map_nil, hx, hy, run_min_int2, hn]
  exact hK _ _ h
set_option maxRecDepth 100000 in
set_option maxHeartbeats 2000000 in
theorem digits_any (n : Nat) (hn : n ≤ 9999999999) (w : World) (ht : Pow w) : Calls Tryd.prog 58 #[.int .i64 n] w fun e w' => e = .returned (sv (pad 10 n)) ∧ Below w.heap.size w w' := by
  have HIT := Lib.hid (itoa_any n hn w ht)
  obtain ⟨h1, h2⟩ := dl_le hn
  have hdp := dec_pad 9 n (by omega)
  obtain ⟨L, hL⟩ : ∃ L, L = Lib.decDigits n := ⟨_, rfl⟩
  rw [← hL] at h1 h2 hdp HIT
  have HDP := Lib.hid hdp
  obtain ⟨c, hc⟩ : ∃ c : Nat, 10 - L.length = c := ⟨_, rfl⟩
  have hcI : (10 : Int) - (L.length : Int) = (c : Int) := by omega
  have hc9 : c ≤ 9 := by omega
  have hrl : (List.replicate c (48 : UInt8)).length = c := by simp
  have HCC := Lib.hid hc
  obtain ⟨R, hR⟩ : ∃ R, R = List.replicate c (48 : UInt8) := ⟨_, rfl⟩
  have HRE := Lib.hid (fun W => rep_any c hc9 W)
  rw [← hR] at HRE hrl
  have hcat := ext_cat R L
  have HRR := Lib.hid hR
  clear hdp hL hc hR ht
  go_enter Tryd.func58, Tryd.ntmps58
  go_wp2_with (first
    | (refine wpList_max3 rfl (.tmp 4) (.const (.int .i64 0)) _ rfl rfl rfl (n := (n : Int)) (by rw [if_neg (by omega)]) ?_)
    | (refine wpList_min3 rfl (.tmp 5) (.const (.int .i64 9999999999)) _ rfl rfl rfl (n := (n : Int)) (by rw [if_neg (by omega)]) ?_))
  refine HIT.out.mono ?_
  rintro e w1 ⟨rfl, hb1⟩
  have HB1 := Lib.hid hb1
  clear hb1
  go_wp2_with fail
  refine (HRE.out _).mono ?_
  rintro e w2 ⟨rfl, hb2⟩
  have HB2 := Lib.hid (HB1.out.trans (hb2.mono HB1.out.size))
  clear hb2
  go_wp2
  go_ret
  refine ⟨?_, HB2.out⟩
  rw [← HDP.out, HRR.out, ← HCC.out]
  rfl
set_option maxRecDepth 100000 in
set_option maxHeartbeats 4000000 in
theorem key_any (v : Nat) (t : UInt8) (id seq : Nat) (hv : v < 10) (hi : id ≤ 9999999999) (hs : seq ≤ 9999999999) (w : World) (ht : Pow w) : Calls Tryd.prog 43 #[.int .i64 v, .int .u8 t.toNat, .int .i64 id, .int .i64 seq] w fun e w' => e = .returned (sv (keyL v t id seq)) ∧ Below w.heap.size w w' := by
  have HP := Lib.hid ht
  have e1 : (v : Int).tmod 10 = (v : Int) := by rw [Int.tmod_eq_emod_of_nonneg (by omega)]; omega
  have e2 : (v : Int) % 10 = (v : Int) := by omega
  have e3 : ¬ ((v : Int) < 0) := by omega
  obtain ⟨z, hz⟩ : ∃ z, z = UInt8.ofNat (48 + v) := ⟨_, rfl⟩
  have hzn : z.toNat = 48 + v := by rw [hz]; exact dig_nat hv
  have e4 : IntKind.u8.wrap (v : Int) = (v : Int) := by rw [IntKind.wrap_u8]; omega
  have e5 : IntKind.u8.wrap (48 + (v : Int)) = (z.toNat : Int) := by rw [hzn, IntKind.wrap_u8]; omega
  have HKL := Lib.hid (show keyL v t id seq = [z, t] ++ (pad 10 id ++ pad 10 seq) by rw [hz]; rfl)
  obtain ⟨A, hA⟩ : ∃ A, A = pad 10 id := ⟨_, rfl⟩
  obtain ⟨B, hB⟩ : ∃ B, B = pad 10 seq := ⟨_, rfl⟩
  have hal : A.length = 10 := by rw [hA, pad_len]
  have hbl : B.length = 10 := by rw [hB, pad_len]
  have HDA := Lib.hid (fun W hW => digits_any id hi W hW)
  have HDB := Lib.hid (fun W hW => digits_any seq hs W hW)
  rw [← hA] at HDA HKL
  rw [← hB] at HDB HKL
  have hc1 := ext_cat [z, t] A
  have hc2 := ext_cat ([z, t] ++ A) B
  have hcl : ([z, t] ++ A).length = 12 := by simp [hal]
  obtain ⟨M, hM⟩ : ∃ M, M = [z, t] ++ A := ⟨_, rfl⟩
  rw [← hM] at hc1 hc2 hcl
  have HKM := Lib.hid (show keyL v t id seq = M ++ B by rw [HKL.out, hM, List.append_assoc])
  clear hA hB hM hz ht HKL hzn
  go_enter Tryd.func43, Tryd.ntmps43
  go_wp2_with fail
  refine wp_region_held_drew (S := SB [w]) (by kernel_rfl) (SB.start _) (fun hHeld => ?_)
  refine tkC 0 ?_
  refine tkA 1 (v := .int .u8 v) ?_ ?_
  · intro W hSw; go_simp; try simp only [e4]; try (with_reducible rfl)
  try simp only [Act.put, zA, zB, zC]
  refine tkA 2 (v := .int .u8 z.toNat) ?_ ?_
  · intro W hSw; go_simp; try simp only [e5]; try (with_reducible rfl)
  try simp only [Act.put, zA, zB, zC]
  refine tkC 3 ?_
  refine tkC 6 ?_
  refine tkC 9 ?_
  have HPc := Lib.hid (HP.out.below (Below.refl _ w).drew)
  refine rdA (rs := [4, 7]) (arC2 (i := 4) (j := 7) (fun K hK => ?_) (fun K hK => ?_))
  · have hal4 : Below w.drew.heap.size w.drew (w.drew.alloc (.cells #[.int .u8 z.toNat, .int .u8 t.toNat] 5)) := (Below.refl _ _).alloc (Nat.le_refl _) _
    have HPn := Lib.hid (HPc.out.below hal4)
    have HRB := Lib.hid (RB.lit w.drew 5 (0, 0) [z, t] #[.int .u8 z.toNat, .int .u8 t.toNat] rfl 2 rfl (by decide))
    have hHeld4 := SB.step hHeld hal4
    go_simp
    refine hK.out _ _ ?_ (fun _ => ?_)
    · exact hHeld4
    clear hK K hal4 HPc
    have HPc := HPn
    clear HPn hHeld
    obtain ⟨W4, hW4⟩ : ∃ W4, W4 = (w.alloc (.cells #[.int .u8 z.toNat, .int .u8 t.toNat] 5)).drew := ⟨_, rfl⟩
    obtain ⟨g4, hg4⟩ : ∃ g4, g4 = w.drew.heap.size := ⟨_, rfl⟩
    try simp only [Act.put, zA, zB, zC]
    rw [show w.drew.alloc (.cells #[.int .u8 z.toNat, .int .u8 t.toNat] 5) = W4 from hW4.symm] at HPc HRB hHeld4
    rw [← hW4]
    rw [← hg4] at HRB
    rw [show w.heap.size = g4 from hg4.symm]
    refine wpAnyH_more (S' := SB [W4, w]) (fun W h => SB.less W h) _ _ _ _ ?_
    have hHeld : SB [W4, w] W4 := fun x hx => by
      rcases List.mem_cons.1 hx with rfl | hx
      · exact Below.refl _ _
      · exact hHeld4 x hx
    clear hW4 hg4 hHeld4
    refine tkA 5 (v := .string ⟨[z, t].toArray⟩) ?_ ?_
    · intro W hSw; have hq := str22 (HRB.out.below (SB.b0 hSw)); go_simp; try (with_reducible rfl)
    try simp only [Act.put, zA, zB, zC]
    refine rdA (rs := [7]) (arC (i := 7) fun K hK => ?_)
    have hP7 := HPc.out
    go_simp
    refine (HDA.out _ hP7).mono ?_
    rintro e W7 ⟨rfl, hb7⟩
    try (go_wp2_with fail)
    have hHeld7 := SB.step hHeld hb7
    have HPn := Lib.hid (hP7.below hb7)
    refine hK.out _ _ ?_ (fun _ => ?_)
    · exact hHeld7
    clear hK K hHeld HPc hP7
    have hHeld := hHeld7
    have HPc := HPn
    clear HPn hHeld7 hb7
    try simp only [Act.put, zA, zB, zC]
    refine tkA 8 (v := .string ⟨M.toArray⟩) ?_ ?_
    · intro W hSw; go_simp; try simp [hc1]; try (with_reducible rfl)
    try simp only [Act.put, zA, zB, zC]
    refine rdA (rs := [10]) (arC (i := 10) fun K hK => ?_)
    have hP10 := HPc.out
    go_simp
    refine (HDB.out _ hP10).mono ?_
    rintro e W10 ⟨rfl, hb10⟩
    try (go_wp2_with fail)
    have hHeld10 := SB.step hHeld hb10
    have HPn := Lib.hid (hP10.below hb10)
    refine hK.out _ _ ?_ (fun _ => ?_)
    · exact hHeld10
    clear hK K hHeld HPc hP10
    have hHeld := hHeld10
    have HPc := HPn
    clear HPn hHeld10 hb10
    try simp only [Act.put, zA, zB, zC]
    refine tkA 11 (v := .string ⟨(M ++ B).toArray⟩) ?_ ?_
    · intro W hSw; go_simp; try simp [hc2]; try (with_reducible rfl)
    try simp only [Act.put, zA, zB, zC]
    refine tkC 12 ?_
    refine wpAnyH_done (by kernel_rfl) ?_ _
    have HBE := Lib.hid (SB.b1 hHeld)
    clear hHeld
    go_wp2
    go_ret
    exact ⟨by rw [HKM.out] <;> rfl, HBE.out⟩
  · have hP7 := HPc.out
    go_simp
    refine (HDA.out _ hP7).mono ?_
    rintro e W7 ⟨rfl, hb7⟩
    try (go_wp2_with fail)
    have hHeld7 := SB.step hHeld hb7
    have HPn := Lib.hid (hP7.below hb7)
    refine hK.out _ _ ?_ (fun _ => ?_)
    · exact hHeld7
    clear hK K hHeld HPc hP7
    have hHeld := hHeld7
    have HPc := HPn
    clear HPn hHeld7 hb7
    try simp only [Act.put, zA, zB, zC]
    refine rdA (rs := [4, 10]) (arC2 (i := 4) (j := 10) (fun K hK => ?_) (fun K hK => ?_))
    · have hal4 : Below W7.heap.size W7 (W7.alloc (.cells #[.int .u8 z.toNat, .int .u8 t.toNat] 5)) := (Below.refl _ _).alloc (Nat.le_refl _) _
      have HPn := Lib.hid (HPc.out.below hal4)
      have HRB := Lib.hid (RB.lit W7 5 (0, 0) [z, t] #[.int .u8 z.toNat, .int .u8 t.toNat] rfl 2 rfl (by decide))
      have hHeld4 := SB.step hHeld hal4
      go_simp
      refine hK.out _ _ ?_ (fun _ => ?_)
      · exact hHeld4
      clear hK K hal4 HPc
      have HPc := HPn
      clear HPn hHeld
      obtain ⟨W4, hW4⟩ : ∃ W4, W4 = W7.alloc (.cells #[.int .u8 z.toNat, .int .u8 t.toNat] 5) := ⟨_, rfl⟩
      obtain ⟨g4, hg4⟩ : ∃ g4, g4 = W7.heap.size := ⟨_, rfl⟩
      try simp only [Act.put, zA, zB, zC]
      rw [show W7.alloc (.cells #[.int .u8 z.toNat, .int .u8 t.toNat] 5) = W4 from hW4.symm] at HPc HRB hHeld4
      rw [← hW4]
      rw [← hg4] at HRB
      rw [show W7.heap.size = g4 from hg4.symm]
      refine wpAnyH_more (S' := SB [W4, w]) (fun W h => SB.less W h) _ _ _ _ ?_
      have hHeld : SB [W4, w] W4 := fun x hx => by
        rcases List.mem_cons.1 hx with rfl | hx
        · exact Below.refl _ _
        · exact hHeld4 x hx
      clear hW4 hg4 hHeld4
      refine tkA 5 (v := .string ⟨[z, t].toArray⟩) ?_ ?_
      · intro W hSw; have hq := str22 (HRB.out.below (SB.b0 hSw)); go_simp; try (with_reducible rfl)
      try simp only [Act.put, zA, zB, zC]
      refine tkA 8 (v := .string ⟨M.toArray⟩) ?_ ?_
      · intro W hSw; go_simp; try simp [hc1]; try (with_reducible rfl)
      try simp only [Act.put, zA, zB, zC]
      refine rdA (rs := [10]) (arC (i := 10) fun K hK => ?_)
      have hP10 := HPc.out
      go_simp
      refine (HDB.out _ hP10).mono ?_
      rintro e W10 ⟨rfl, hb10⟩
      try (go_wp2_with fail)
      have hHeld10 := SB.step hHeld hb10
      have HPn := Lib.hid (hP10.below hb10)
      refine hK.out _ _ ?_ (fun _ => ?_)
      · exact hHeld10
      clear hK K hHeld HPc hP10
      have hHeld := hHeld10
      have HPc := HPn
      clear HPn hHeld10 hb10
      try simp only [Act.put, zA, zB, zC]
      refine tkA 11 (v := .string ⟨(M ++ B).toArray⟩) ?_ ?_
      · intro W hSw; go_simp; try simp [hc2]; try (with_reducible rfl)
      try simp only [Act.put, zA, zB, zC]
      refine tkC 12 ?_
      refine wpAnyH_done (by kernel_rfl) ?_ _
      have HBE := Lib.hid (SB.b1 hHeld)
      clear hHeld
      go_wp2
      go_ret
      exact ⟨by rw [HKM.out] <;> rfl, HBE.out⟩
    · have hP10 := HPc.out
      go_simp
      refine (HDB.out _ hP10).mono ?_
      rintro e W10 ⟨rfl, hb10⟩
      try (go_wp2_with fail)
      have hHeld10 := SB.step hHeld hb10
      have HPn := Lib.hid (hP10.below hb10)
      refine hK.out _ _ ?_ (fun _ => ?_)
      · exact hHeld10
      clear hK K hHeld HPc hP10
      have hHeld := hHeld10
      have HPc := HPn
      clear HPn hHeld10 hb10
      try simp only [Act.put, zA, zB, zC]
      refine rdA (rs := [4]) (arC (i := 4) fun K hK => ?_)
      have hal4 : Below W10.heap.size W10 (W10.alloc (.cells #[.int .u8 z.toNat, .int .u8 t.toNat] 5)) := (Below.refl _ _).alloc (Nat.le_refl _) _
      have HPn := Lib.hid (HPc.out.below hal4)
      have HRB := Lib.hid (RB.lit W10 5 (0, 0) [z, t] #[.int .u8 z.toNat, .int .u8 t.toNat] rfl 2 rfl (by decide))
      have hHeld4 := SB.step hHeld hal4
      go_simp
      refine hK.out _ _ ?_ (fun _ => ?_)
      · exact hHeld4
      clear hK K hal4 HPc
      have HPc := HPn
      clear HPn hHeld
      obtain ⟨W4, hW4⟩ : ∃ W4, W4 = W10.alloc (.cells #[.int .u8 z.toNat, .int .u8 t.toNat] 5) := ⟨_, rfl⟩
      obtain ⟨g4, hg4⟩ : ∃ g4, g4 = W10.heap.size := ⟨_, rfl⟩
      try simp only [Act.put, zA, zB, zC]
      rw [show W10.alloc (.cells #[.int .u8 z.toNat, .int .u8 t.toNat] 5) = W4 from hW4.symm] at HPc HRB hHeld4
      rw [← hW4]
      rw [← hg4] at HRB
      rw [show W10.heap.size = g4 from hg4.symm]
      refine wpAnyH_more (S' := SB [W4, w]) (fun W h => SB.less W h) _ _ _ _ ?_
      have hHeld : SB [W4, w] W4 := fun x hx => by
        rcases List.mem_cons.1 hx with rfl | hx
        · exact Below.refl _ _
        · exact hHeld4 x hx
      clear hW4 hg4 hHeld4
      refine tkA 5 (v := .string ⟨[z, t].toArray⟩) ?_ ?_
      · intro W hSw; have hq := str22 (HRB.out.below (SB.b0 hSw)); go_simp; try (with_reducible rfl)
      try simp only [Act.put, zA, zB, zC]
      refine tkA 8 (v := .string ⟨M.toArray⟩) ?_ ?_
      · intro W hSw; go_simp; try simp [hc1]; try (with_reducible rfl)
      try simp only [Act.put, zA, zB, zC]
      refine tkA 11 (v := .string ⟨(M ++ B).toArray⟩) ?_ ?_
      · intro W hSw; go_simp; try simp [hc2]; try (with_reducible rfl)
      try simp only [Act.put, zA, zB, zC]
      refine tkC 12 ?_
      refine wpAnyH_done (by kernel_rfl) ?_ _
      have HBE := Lib.hid (SB.b1 hHeld)
      clear hHeld
      go_wp2
      go_ret
      exact ⟨by rw [HKM.out] <;> rfl, HBE.out⟩
end Go.Proofs.YtmdkonfmbbbepaaDoor
set_option linter.unusedVariables false
namespace Go.Proofs.YtmdkonfmbbbepaaDoor
open Go.RowKit Go.Rst Go.Tp Go.Ts Go.Tk
set_option maxRecDepth 100000 in
set_option maxHeartbeats 4000000 in
theorem parts_any (v : Nat) (t : UInt8) (id seq : Nat) (hv : v < 10) (ht1 : 97 ≤ t.toNat) (ht2 : t.toNat ≤ 122) (hi : id ≤ 9999999999) (hs : seq ≤ 9999999999) (w : World) (ht : Pow w) :
    Calls Tryd.prog 24 #[sv (keyL v t id seq)] w fun e w' => e = .returned (.tuple #[.int .i64 v, .int .u8 t.toNat, .int .i64 id, .int .i64 seq, .bool true]) ∧ Below w.heap.size w w' := by
  have HP := Lib.hid ht
  have hl := key_len v t id seq
  have hd0 : (keyL v t id seq) = [UInt8.ofNat (48 + v), t] ++ (pad 10 id ++ pad 10 seq) := rfl
  have hx0 : (⟨(keyL v t id seq).toArray⟩ : ByteArray).extract 0 1 = ⟨(pad 1 v).toArray⟩ := by
    rw [ext_str, hd0]
    show _ = (⟨([] ++ [UInt8.ofNat (48 + v % 10)]).toArray⟩ : ByteArray)
    rw [Nat.mod_eq_of_lt hv]
    rfl
  have hx1 : (⟨(keyL v t id seq).toArray⟩ : ByteArray).extract 2 12 = ⟨(pad 10 id).toArray⟩ := by
    rw [ext_str, hd0, show ([UInt8.ofNat (48 + v), t] ++ (pad 10 id ++ pad 10 seq)).drop 2 = pad 10 id ++ pad 10 seq from rfl, List.take_left' (by rw [pad_len])]
  have hx2 : (⟨(keyL v t id seq).toArray⟩ : ByteArray).extract 12 22 = ⟨(pad 10 seq).toArray⟩ := by
    rw [ext_str, hd0, ← List.append_assoc, List.drop_left' (by simp [pad_len]), List.take_of_length_le (by rw [pad_len]; omega)]
  have hix : ∀ h, (⟨(keyL v t id seq).toArray⟩ : ByteArray)[1]'h = t := fun h => rfl
  have HA0 := Lib.hid (fun W => atoi_any 0 v (by omega) (by simpa using hv) W)
  have HA1 := Lib.hid (fun W => atoi_any 9 id (by omega) (by omega) W)
  have HA2 := Lib.hid (fun W => atoi_any 9 seq (by omega) (by omega) W)
  have HKY := Lib.hid (fun W hW => key_any v t id seq hv hi hs W hW)
  simp only [Nat.zero_add, Nat.reduceAdd] at HA0 HA1 HA2
  obtain ⟨K, hK0⟩ : ∃ K, K = keyL v t id seq := ⟨_, rfl⟩
  rw [← hK0] at hl hx0 hx1 hx2 hix HKY ⊢
  obtain ⟨P0, hP0⟩ : ∃ P, P = pad 1 v := ⟨_, rfl⟩
  obtain ⟨P1, hP1⟩ : ∃ P, P = pad 10 id := ⟨_, rfl⟩
  obtain ⟨P2, hP2⟩ : ∃ P, P = pad 10 seq := ⟨_, rfl⟩
  rw [← hP0] at hx0 HA0
  rw [← hP1] at hx1 HA1
  rw [← hP2] at hx2 HA2
  have q1 : ¬ ((t.toNat : Int) < 97) := by omega
  have q2 : ¬ ((122 : Int) < (t.toNat : Int)) := by omega
  clear hK0 hP0 hP1 hP2 ht hd0 ht1 ht2
  go_enter Tryd.func24, Tryd.ntmps24
  go_wp2_with fail
  try rw [hx0]
  refine (HA0.out _).mono ?_
  rintro e w1 ⟨rfl, hb1⟩
  have HB1 := Lib.hid hb1
  clear hb1
  go_wp2_with fail
  try rw [hx1]
  refine (HA1.out _).mono ?_
  rintro e w2 ⟨rfl, hb2⟩
  have HB2 := Lib.hid (HB1.out.trans (hb2.mono HB1.out.size))
  clear hb2 HB1
  go_wp2_with fail
  try rw [hx2]
  refine (HA2.out _).mono ?_
  rintro e w3 ⟨rfl, hb3⟩
  have HB3 := Lib.hid (HB2.out.trans (hb3.mono HB2.out.size))
  clear hb3 HB2
  go_wp2_with fail
  refine (HKY.out _ (HP.out.below HB3.out)).mono ?_
  rintro e w4 ⟨rfl, hb4⟩
  have HB4 := Lib.hid (HB3.out.trans (hb4.mono HB3.out.size))
  clear hb4 HB3
  go_wp2_with fail
  refine wp_region_held_drew (S := SB [w4]) (by kernel_rfl) (SB.start _) (fun hHeld => ?_)
  refine tkC 0 ?_
  refine tkC 1 ?_
  refine tkC 2 ?_
  refine tkC 3 ?_
  refine tkC 4 ?_
  refine tkC 5 ?_
  refine tkC 6 ?_
  refine tkC 7 ?_
  refine tkC 8 ?_
  refine tkC 9 ?_
  refine wpAnyH_done (by kernel_rfl) ?_ _
  clear hHeld
  go_wp2
  refine bodyPost_ret (v := .tuple #[.int .i64 v, .int .u8 t.toNat, .int .i64 id, .int .i64 seq, .bool true]) (by simp [results, Tryd.results24, go_sem]) rfl ?_
  exact ⟨rfl, HB4.out.drew⟩
end Go.Proofs.YtmdkonfmbbbepaaDoor
