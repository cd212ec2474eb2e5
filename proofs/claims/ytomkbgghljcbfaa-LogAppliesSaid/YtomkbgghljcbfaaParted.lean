/-
  The walk of LogParted: it answers true of any choices and number.
-/
import Derived.Test.YtomkbgghljcbfaaGKnown
import Derived.Test.YtomkbgghljcbfaaGRis
import Derived.Test.YtomkbgghljcbfaaGCl
import Derived.Test.YtomkbgghljcbfaaGWords
import Derived.Test.YtomkbgghljcbfaaPartsW
import Derived.Test.YtomkbgghljcbfaaGPg
namespace Go.Proofs.Ytomkbgghljcbfaa
open Go.RowKit Go.Rst Go.Pg Go.Crc
theorem applyL_val {B : Nat} : ∀ (cs : List Chg) (rs : List Rw), (∀ r ∈ rs, r.2.length ≤ B) → (∀ c ∈ cs, c.2.1.length ≤ B) → ∀ r ∈ applyL rs cs, r.2.length ≤ B
  | [], rs, h, _ => h
  | c :: cs, rs, h, hc => by
    show ∀ r ∈ applyL (stepL rs c) cs, r.2.length ≤ B
    refine applyL_val cs _ (fun r hr => ?_) (fun d hd => hc d (by simp [hd]))
    unfold stepL at hr
    split at hr
    · unfold outL at hr; exact h r (List.mem_filter.1 hr).1
    · rcases layF_mem hr with rfl | hr
      · exact hc c (by simp)
      · exact h r hr
theorem rlenL_le (x y : UInt8) : rlen x y ≤ 150 := by
  unfold rlen
  split <;> omega
theorem rows_few (l : List UInt8) (n : Nat) : (∀ r ∈ rowsAt l (nrows l n), r.2.length ≤ 150) ∧ (rowsAt l (nrows l n)).length ≤ n := by
  refine ⟨fun r hr => ?_, by unfold rowsAt nrows; simp; omega⟩
  unfold rowsAt at hr
  obtain ⟨j, _, rfl⟩ := List.mem_map.1 hr
  unfold rowOf
  rw [fill_length]
  exact rlenL_le _ _
theorem ris_few (l : List UInt8) (n : Nat) : (∀ r ∈ risL (rowsAt l (nrows l n)), r.2.length ≤ 150) ∧ Sorted (risL (rowsAt l (nrows l n))) ∧ (risL (rowsAt l (nrows l n))).length ≤ n := by
  obtain ⟨h1, h2, h3⟩ := risL_good (p := fun r => r.2.length ≤ 150) (l := rowsAt l (nrows l n)) (rows_few l n).1
  exact ⟨h1, h2, Nat.le_trans h3 (rows_few l n).2⟩
theorem chg_few (l : List UInt8) (n : Nat) : (∀ c ∈ (rowsAt l (nrows l n)).map chgOf, c.2.1.length ≤ 150) ∧ ((rowsAt l (nrows l n)).map chgOf).length ≤ n := by
  refine ⟨fun c hc => ?_, by rw [List.length_map]; exact (rows_few l n).2⟩
  obtain ⟨r, hr, rfl⟩ := List.mem_map.1 hc
  have := (rows_few l n).1 r hr
  unfold chgOf
  split
  · simp
  · exact this
theorem rc_take {w : World} {A : Option Addr} {m c : Nat} {ps : List Chg} (h : RC w (.slice A m c) ps) {n : Nat} (hn : n ≤ ps.length) : RC w (.slice A n c) (ps.take n) := by
  obtain ⟨A', c', he, h1, h2, h3⟩ := h
  injection he with e1 _ e3
  subst e1
  subst e3
  have hl : (ps.take n).length = n := by rw [List.length_take]; omega
  refine ⟨A, c, by rw [hl], by omega, h2, ?_⟩
  rcases h3 with rfl | ⟨b, off, rfl, hb, hc⟩
  · exact .inl (by simp)
  · refine .inr ⟨b, off, rfl, hb, fun j hj => ?_⟩
    have := hc j (by omega)
    rw [List.getElem_take]
    exact this
theorem rc_cut {X : World} {A : Option Addr} {n c : Nat} {ps : List Chg} (h : RC X (.slice A n c) ps) {K : Nat} (hK : K ≤ n) :
    RC X (.slice (if c = K then A else Option.map (fun x => x.add (K * 3)) A) (n - K) (c - K)) (ps.drop K) := by
  obtain ⟨A', c', he, h1, h2, h3⟩ := h
  injection he with e1 e2 e3
  subst e1
  subst e3
  subst e2
  have hl : (ps.drop K).length = ps.length - K := List.length_drop
  by_cases hd : ps.length ≤ K
  · rw [List.drop_eq_nil_of_le hd]
    exact ⟨_, _, by rw [show ps.length - K = 0 from by omega]; rfl, Nat.zero_le _, by omega, .inl rfl⟩
  · have hck : ¬ c = K := by omega
    rw [if_neg hck]
    rcases h3 with rfl | ⟨b, off, rfl, hb, hc⟩
    · simp at hd
    · refine ⟨some ⟨b, off + K * 3, none⟩, c - K, by rw [hl]; simp only [Option.map_some, Addr.add_lit], by rw [hl]; omega, by omega, .inr ⟨b, off + K * 3, rfl, hb, fun j hj => ?_⟩⟩
      rw [hl] at hj
      obtain ⟨h4, ⟨u, h5, h6⟩, h7⟩ := hc (K + j) (by omega)
      have e : off + K * 3 + j * 3 = off + (K + j) * 3 := by omega
      rw [e, List.getElem_drop]
      exact ⟨h4, ⟨u, h5, h6⟩, h7⟩

set_option maxRecDepth 100000 in
set_option maxHeartbeats 3000000 in
theorem parted_walk (vc : Value) (l1 : List UInt8) (vd : Value) (l2 : List UInt8) (k : Nat) (w : World) (hc : RB w vc l1) (hl1 : l1.length ≤ 140737488351232) (hd : RB w vd l2) (hl2 : l2.length ≤ 140737488351232) (hk : k ≤ 255) :
    Calls Try.prog 8 #[vc, vd, .int .u8 k] w fun e w' => e = .returned (.bool true) ∧ Below w.heap.size w w' := by
  have HD := Lib.hid hd
  obtain ⟨hr1, hr2, hr3⟩ := ris_few l1 20
  obtain ⟨hx1, hx2⟩ := chg_few l2 20
  have K1 := Lib.hid (risT_any vc l1 20 (by decide) w hc hl1)
  have K2 := Lib.hid (fun W (h : RB W vd l2) => changeList_any vd l2 20 (by decide) W h hl2)
  obtain ⟨Ac, cc, rfl, hlc, hcc, _⟩ := hc
  obtain ⟨Ad, cd, rfl, hld, hcd, _⟩ := hd
  unfold maxLen at hcc hcd
  generalize risL (rowsAt l1 (nrows l1 20)) = rs at *
  generalize (rowsAt l2 (nrows l2 20)).map chgOf = xs at *
  have HAP := Lib.hid (fun (v u : Value) (a : List Rw) (ys : List Chg) (W : World) (hv : RR W v a) (hs : Sorted a) (hu : RC W u ys) (hl : a.length + ys.length ≤ 100) (h1 : ∀ r ∈ a, r.2.length ≤ 150) (h2 : ∀ c ∈ ys, c.2.1.length ≤ 150) =>
    apply_any v u a ys W hv hs hu (by omega) (fun r h => by have := h1 r h; omega) (fun c h => by have := h2 c h; omega))
  have HR1 := Lib.hid hr1
  have HR2 := Lib.hid hr2
  have HX1 := Lib.hid hx1
  have hs4 := applyL_sorted (cs := xs) hr2
  have hlen4 := applyL_len rs xs
  have hv4 := applyL_val xs rs hr1 hx1
  clear hr1 hr2 hx1
  go_enter Try.func8, Try.ntmps8
  go_wp2_with fail
  refine K1.out.mono ?_
  rintro e w1 ⟨v1, rfl, ho1, hb1⟩
  have HO1 := Lib.hid ho1
  have HB1 := Lib.hid hb1
  have H2 := Lib.hid (K2.out w1 (HD.out.below hb1))
  obtain ⟨A1, c1, rfl, hlc1, hc163⟩ := rr_shape ho1.rr
  clear ho1 hb1 K1 K2
  go_wp2_with fail
  refine H2.out.mono ?_
  rintro e w2 ⟨v2, rfl, ho2, hb2⟩
  have HB2 := Lib.hid (HB1.out.trans (hb2.mono HB1.out.size))
  have HO2 := Lib.hid ho2
  have HO1' := Lib.hid (HO1.out.below hb2)
  have H3 := Lib.hid (HAP.out _ _ _ _ w2 HO1'.out.rr HR2.out ho2.rc (by omega) HR1.out HX1.out)
  obtain ⟨A2, c2, rfl, hlc2, hm2, _⟩ := ho2.rc
  unfold maxLen at hm2
  obtain ⟨I, hIe, hIn⟩ : ∃ I : Nat, (k : Int) % ((xs.length : Int) + 1) = (I : Int) ∧ I ≤ xs.length := ⟨k % (xs.length + 1), by rw [Int.natCast_emod]; rfl, by have := Nat.mod_lt k (show 0 < xs.length + 1 by omega); omega⟩
  have hnz : (((xs.length : Int) + 1) == 0) = false := by rw [beq_eq_false_iff_ne]; omega
  clear ho2 hb2 H2 HO1 HD
  go_wp2_with fail
  simp only [hIe]
  refine H3.out.mono ?_
  rintro e w3 ⟨v3, rfl, ho3, hb3⟩
  have HRS := Lib.hid (HO1'.out.below hb3).rr
  have HXS := Lib.hid (HO2.out.below hb3).rc
  have HB3 := Lib.hid (HB2.out.trans (hb3.mono HB2.out.size))
  obtain ⟨a, ha⟩ : ∃ a, a = applyL rs xs := ⟨_, rfl⟩
  obtain ⟨y, hy⟩ : ∃ y, y = applyL rs (xs.take I) := ⟨_, rfl⟩
  have hya : applyL y (xs.drop I) = a := by rw [hy, ← applyL_append, List.take_append_drop, ha]
  have haa : applyL a xs = a := by rw [ha]; exact apply_twice HR2.out xs
  have hxt : ∀ c ∈ xs.take I, c.2.1.length ≤ 150 := fun c hc => HX1.out c (List.mem_of_mem_take hc)
  have hxd : ∀ c ∈ xs.drop I, c.2.1.length ≤ 150 := fun c hc => HX1.out c (List.mem_of_mem_drop hc)
  have hylen := applyL_len rs (xs.take I)
  have hyv := applyL_val (xs.take I) rs HR1.out hxt
  have hys := applyL_sorted (cs := xs.take I) HR2.out
  rw [← hy] at hylen hyv hys
  rw [← ha] at hs4 hlen4 hv4 ho3
  rw [List.length_take] at hylen
  have HP1 := Lib.hid (fun W (h1 : RR W (.slice A1 rs.length c1) rs) (h2 : RC W (.slice A2 xs.length c2) xs) => HAP.out _ _ _ _ W h1 HR2.out (rc_take h2 hIn) (by rw [List.length_take]; omega) HR1.out hxt)
  rw [← hy] at HP1
  have HP2 := Lib.hid (fun W v (h1 : RR W v y) (h2 : RC W (.slice A2 xs.length c2) xs) => HAP.out _ _ _ _ W h1 hys (rc_cut h2 hIn) (by rw [List.length_drop]; omega) hyv hxd)
  rw [hya] at HP2
  have HP3 := Lib.hid (fun W (h1 : RR W v3 a) (h2 : RC W (.slice A2 xs.length c2) xs) => HAP.out _ _ _ _ W h1 hs4 h2 (by omega) hv4 HX1.out)
  rw [haa] at HP3
  have HAA := Lib.hid ho3.rr
  obtain ⟨A3, c3, rfl, hlc3, hc363⟩ := rr_shape ho3.rr
  have hI0 : (0 : Int) ≤ (I : Int) := by omega
  have hI1 : (I : Int) ≤ (xs.length : Int) := by omega
  have hI2 : (xs.length : Int) ≤ (c2 : Int) := by omega
  clear hxt hxd hyv hys hs4 hv4 ho3 hb3 H3 HO1' HO2 HAP HR1 HR2 HX1 hy hya haa ha
  go_wp2
  refine wp_region_held_drew (S := SB [w3]) (by kernel_rfl) (SB.start _) (fun hHeld => ?_)
  refine wpAnyH_ready (rs := [0]) (by kernel_rfl) (by simp) ?_
  refine AllReadyH.cons (o := { dst := some 24, op := Op.call { callee := Callee.value (Operand.func 11), args := #[], argTypes := #[] }, type := 4, pos := "more.go:17", after := #[], guard := none }) rfl (fun K hK => ?_) AllReadyH.nil
  go_simp
  refine (known_any _).mono ?_
  rintro e w4 ⟨rfl, hbw4⟩
  try (go_wp2_with fail)
  have hHeld' := SB.step hHeld hbw4
  refine hK.out _ _ ?_ (fun _ => ?_)
  · exact hHeld'
  clear hK K
  try simp only [Act.put, List.setIfInBounds_toArray, List.set_cons_zero, List.set_cons_succ]
  have hHeld := SB.more hHeld'
  clear hHeld'
  refine wpAnyH_more (S' := SB [w4, w3]) (fun W h => SB.less W h) _ _ _ _ ?_
  refine wpAnyH_take (i := 1) (oi := { dst := some 25, op := Op.move (Operand.tmp 24), type := 4, pos := "more.go:17", after := #[{ on := 0, ground := Ground.data }, { on := 0, ground := Ground.chain }], guard := none }) (v := ?_) rfl (by kernel_rfl) (by kernel_rfl) (by kernel_rfl) (fun _ _ _ h => h) (Or.inl ⟨by rfl, ?_⟩) (by assumption) ?_
  rotate_left
  · intro W hSw; go_simp; first | (with_reducible rfl) | (rw [if_pos (show I ≤ c2 by omega)]) | (rw [if_pos (show I ≤ xs.length by omega)]) | skip
  try simp only [Act.put, List.setIfInBounds_toArray, List.set_cons_zero, List.set_cons_succ]
  refine wpAnyH_take (i := 2) (oi := { dst := some 26, op := Op.move (Operand.tmp 10), type := 34, pos := "more.go:17", after := #[{ on := 1, ground := Ground.guard }], guard := some (1, true) }) (v := ?_) rfl (by kernel_rfl) (by kernel_rfl) (by kernel_rfl) (fun _ _ _ h => h) (Or.inl ⟨by rfl, ?_⟩) (by assumption) ?_
  rotate_left
  · intro W hSw; go_simp; first | (with_reducible rfl) | (rw [if_pos (show I ≤ c2 by omega)]) | (rw [if_pos (show I ≤ xs.length by omega)]) | skip
  try simp only [Act.put, List.setIfInBounds_toArray, List.set_cons_zero, List.set_cons_succ]
  refine wpAnyH_take (i := 3) (oi := { dst := some 27, op := Op.move (Operand.tmp 7), type := 34, pos := "more.go:17", after := #[{ on := 1, ground := Ground.guard }], guard := some (1, true) }) (v := ?_) rfl (by kernel_rfl) (by kernel_rfl) (by kernel_rfl) (fun _ _ _ h => h) (Or.inl ⟨by rfl, ?_⟩) (by assumption) ?_
  rotate_left
  · intro W hSw; go_simp; first | (with_reducible rfl) | (rw [if_pos (show I ≤ c2 by omega)]) | (rw [if_pos (show I ≤ xs.length by omega)]) | skip
  try simp only [Act.put, List.setIfInBounds_toArray, List.set_cons_zero, List.set_cons_succ]
  refine wpAnyH_take (i := 4) (oi := { dst := some 28, op := Op.move (Operand.tmp 8), type := 22, pos := "more.go:17", after := #[{ on := 1, ground := Ground.guard }], guard := some (1, true) }) (v := ?_) rfl (by kernel_rfl) (by kernel_rfl) (by kernel_rfl) (fun _ _ _ h => h) (Or.inl ⟨by rfl, ?_⟩) (by assumption) ?_
  rotate_left
  · intro W hSw; go_simp; first | (with_reducible rfl) | (rw [if_pos (show I ≤ c2 by omega)]) | (rw [if_pos (show I ≤ xs.length by omega)]) | skip
  try simp only [Act.put, List.setIfInBounds_toArray, List.set_cons_zero, List.set_cons_succ]
  refine wpAnyH_take (i := 5) (oi := { dst := some 29, op := Op.move (Operand.tmp 9), type := 3, pos := "more.go:17", after := #[{ on := 1, ground := Ground.guard }], guard := some (1, true) }) (v := ?_) rfl (by kernel_rfl) (by kernel_rfl) (by kernel_rfl) (fun _ _ _ h => h) (Or.inl ⟨by rfl, ?_⟩) (by assumption) ?_
  rotate_left
  · intro W hSw; go_simp; first | (with_reducible rfl) | (rw [if_pos (show I ≤ c2 by omega)]) | (rw [if_pos (show I ≤ xs.length by omega)]) | skip
  try simp only [Act.put, List.setIfInBounds_toArray, List.set_cons_zero, List.set_cons_succ]
  refine wpAnyH_take (i := 6) (oi := { dst := some 30, op := Op.slice 22 (Operand.tmp 28) none (some (Operand.tmp 29)) none, type := 22, pos := "more.go:17", after := #[{ on := 4, ground := Ground.data }, { on := 5, ground := Ground.data }, { on := 1, ground := Ground.guard }], guard := some (1, true) }) (v := ?_) rfl (by kernel_rfl) (by kernel_rfl) (by kernel_rfl) (fun _ _ _ h => h) (Or.inl ⟨by rfl, ?_⟩) (by assumption) ?_
  rotate_left
  · intro W hSw; go_simp; first | (with_reducible rfl) | (rw [if_pos (show I ≤ c2 by omega)]) | (rw [if_pos (show I ≤ xs.length by omega)]) | skip
  try simp only [Act.put, List.setIfInBounds_toArray, List.set_cons_zero, List.set_cons_succ]
  refine wpAnyH_take (i := 8) (oi := { dst := some 32, op := Op.move (Operand.tmp 8), type := 22, pos := "more.go:17", after := #[{ on := 1, ground := Ground.guard }], guard := some (1, true) }) (v := ?_) rfl (by kernel_rfl) (by kernel_rfl) (by kernel_rfl) (fun _ _ _ h => h) (Or.inl ⟨by rfl, ?_⟩) (by assumption) ?_
  rotate_left
  · intro W hSw; go_simp; first | (with_reducible rfl) | (rw [if_pos (show I ≤ c2 by omega)]) | (rw [if_pos (show I ≤ xs.length by omega)]) | skip
  try simp only [Act.put, List.setIfInBounds_toArray, List.set_cons_zero, List.set_cons_succ]
  refine wpAnyH_take (i := 9) (oi := { dst := some 33, op := Op.move (Operand.tmp 9), type := 3, pos := "more.go:17", after := #[{ on := 1, ground := Ground.guard }], guard := some (1, true) }) (v := ?_) rfl (by kernel_rfl) (by kernel_rfl) (by kernel_rfl) (fun _ _ _ h => h) (Or.inl ⟨by rfl, ?_⟩) (by assumption) ?_
  rotate_left
  · intro W hSw; go_simp; first | (with_reducible rfl) | (rw [if_pos (show I ≤ c2 by omega)]) | (rw [if_pos (show I ≤ xs.length by omega)]) | skip
  try simp only [Act.put, List.setIfInBounds_toArray, List.set_cons_zero, List.set_cons_succ]
  refine wpAnyH_take (i := 10) (oi := { dst := some 34, op := Op.slice 22 (Operand.tmp 32) (some (Operand.tmp 33)) none none, type := 22, pos := "more.go:17", after := #[{ on := 8, ground := Ground.data }, { on := 9, ground := Ground.data }, { on := 1, ground := Ground.guard }], guard := some (1, true) }) (v := ?_) rfl (by kernel_rfl) (by kernel_rfl) (by kernel_rfl) (fun _ _ _ h => h) (Or.inl ⟨by rfl, ?_⟩) (by assumption) ?_
  rotate_left
  · intro W hSw; go_simp; first | (with_reducible rfl) | (rw [if_pos (show I ≤ c2 by omega)]) | (rw [if_pos (show I ≤ xs.length by omega)]) | skip
  try simp only [Act.put, List.setIfInBounds_toArray, List.set_cons_zero, List.set_cons_succ]
  generalize (if c2 = I then A2 else Option.map (fun x => x.add (I * 3)) A2) = A10 at *
  refine wpAnyH_ready (rs := [7]) (by kernel_rfl) (by simp) ?_
  refine AllReadyH.cons (o := { dst := some 31, op := Op.call { callee := Callee.value (Operand.func 18), args := #[Operand.tmp 27, Operand.tmp 30], argTypes := #[34, 22] }, type := 34, pos := "more.go:17", after := #[{ on := 3, ground := Ground.data }, { on := 6, ground := Ground.data }, { on := 1, ground := Ground.chain }, { on := 1, ground := Ground.guard }], guard := some (1, true) }) rfl (fun K hK => ?_) AllReadyH.nil
  go_simp
  refine (HP1.out _ (rr_below HRS.out (SB.b1 hHeld) (Nat.le_refl _)) (rc_below HXS.out (SB.b1 hHeld) (Nat.le_refl _))).mono ?_
  rintro e w5 ⟨v5, rfl, ho5, hbw5⟩
  have HY := Lib.hid ho5.rr
  obtain ⟨A5, c5, rfl, _, _⟩ := rr_shape ho5.rr
  clear ho5
  try (go_wp2_with fail)
  have hHeld' := SB.step hHeld hbw5
  refine hK.out _ _ ?_ (fun _ => ?_)
  · exact hHeld'
  clear hK K
  try simp only [Act.put, List.setIfInBounds_toArray, List.set_cons_zero, List.set_cons_succ]
  have hHeld := SB.more hHeld'
  clear hHeld'
  refine wpAnyH_more (S' := SB [w5, w4, w3]) (fun W h => SB.less W h) _ _ _ _ ?_
  refine wpAnyH_ready (rs := [11]) (by kernel_rfl) (by simp) ?_
  refine AllReadyH.cons (o := { dst := some 35, op := Op.call { callee := Callee.value (Operand.func 18), args := #[Operand.tmp 31, Operand.tmp 34], argTypes := #[34, 22] }, type := 34, pos := "more.go:17", after := #[{ on := 7, ground := Ground.data }, { on := 10, ground := Ground.data }, { on := 7, ground := Ground.chain }, { on := 1, ground := Ground.guard }], guard := some (1, true) }) rfl (fun K hK => ?_) AllReadyH.nil
  go_simp
  refine (HP2.out _ _ (rr_below HY.out (SB.b0 hHeld) (Nat.le_refl _)) (rc_below HXS.out (SB.b2 hHeld) (Nat.le_refl _))).mono ?_
  rintro e w6 ⟨v6, rfl, ho6, hbw6⟩
  have HZ := Lib.hid ho6.rr
  obtain ⟨A6, c6, rfl, _, _⟩ := rr_shape ho6.rr
  clear ho6
  try (go_wp2_with fail)
  have hHeld' := SB.step hHeld hbw6
  refine hK.out _ _ ?_ (fun _ => ?_)
  · exact hHeld'
  clear hK K
  try simp only [Act.put, List.setIfInBounds_toArray, List.set_cons_zero, List.set_cons_succ]
  have hHeld := SB.more hHeld'
  clear hHeld'
  refine wpAnyH_more (S' := SB [w6, w5, w4, w3]) (fun W h => SB.less W h) _ _ _ _ ?_
  refine wpAnyH_ready (rs := [12]) (by kernel_rfl) (by simp) ?_
  refine AllReadyH.cons (o := { dst := some 36, op := Op.call { callee := Callee.value (Operand.func 17), args := #[Operand.tmp 26, Operand.tmp 35], argTypes := #[34, 34] }, type := 4, pos := "more.go:17", after := #[{ on := 2, ground := Ground.data }, { on := 11, ground := Ground.data }, { on := 11, ground := Ground.chain }, { on := 1, ground := Ground.guard }], guard := some (1, true) }) rfl (fun K hK => ?_) AllReadyH.nil
  go_simp
  refine (sameRows_any _ _ a _ (rr_below HAA.out (SB.b3 hHeld) (Nat.le_refl _)) (rr_below HZ.out (SB.b0 hHeld) (Nat.le_refl _))).mono ?_
  rintro e w7 ⟨rfl, m7, hm7⟩
  have hbw7 := bel_drewN w6 m7
  rw [← hm7] at hbw7
  clear hm7
  try (go_wp2_with fail)
  have hHeld' := SB.step hHeld hbw7
  refine hK.out _ _ ?_ (fun _ => ?_)
  · exact hHeld'
  clear hK K
  try simp only [Act.put, List.setIfInBounds_toArray, List.set_cons_zero, List.set_cons_succ]
  have hHeld := SB.more hHeld'
  clear hHeld'
  refine wpAnyH_more (S' := SB [w7, w6, w5, w4, w3]) (fun W h => SB.less W h) _ _ _ _ ?_
  refine wpAnyH_take (i := 13) (oi := { dst := some 37, op := Op.pick (Operand.tmp 25) (Operand.tmp 36) (Operand.const (Value.bool false)), type := 4, pos := "more.go:17", after := #[{ on := 1, ground := Ground.data }, { on := 12, ground := Ground.data }], guard := none }) (v := ?_) rfl (by kernel_rfl) (by kernel_rfl) (by kernel_rfl) (fun _ _ _ h => h) (Or.inl ⟨by rfl, ?_⟩) (by assumption) ?_
  rotate_left
  · intro W hSw; go_simp; first | (with_reducible rfl) | (rw [if_pos (show I ≤ c2 by omega)]) | (rw [if_pos (show I ≤ xs.length by omega)]) | skip
  try simp only [Act.put, List.setIfInBounds_toArray, List.set_cons_zero, List.set_cons_succ]
  refine wpAnyH_take (i := 14) (oi := { dst := some 38, op := Op.move (Operand.tmp 37), type := 4, pos := "more.go:17", after := #[{ on := 13, ground := Ground.data }, { on := 12, ground := Ground.chain }], guard := none }) (v := ?_) rfl (by kernel_rfl) (by kernel_rfl) (by kernel_rfl) (fun _ _ _ h => h) (Or.inl ⟨by rfl, ?_⟩) (by assumption) ?_
  rotate_left
  · intro W hSw; go_simp; first | (with_reducible rfl) | (rw [if_pos (show I ≤ c2 by omega)]) | (rw [if_pos (show I ≤ xs.length by omega)]) | skip
  try simp only [Act.put, List.setIfInBounds_toArray, List.set_cons_zero, List.set_cons_succ]
  refine wpAnyH_take (i := 15) (oi := { dst := some 39, op := Op.move (Operand.tmp 10), type := 34, pos := "more.go:17", after := #[{ on := 14, ground := Ground.guard }], guard := some (14, true) }) (v := ?_) rfl (by kernel_rfl) (by kernel_rfl) (by kernel_rfl) (fun _ _ _ h => h) (Or.inl ⟨by rfl, ?_⟩) (by assumption) ?_
  rotate_left
  · intro W hSw; go_simp; first | (with_reducible rfl) | (rw [if_pos (show I ≤ c2 by omega)]) | (rw [if_pos (show I ≤ xs.length by omega)]) | skip
  try simp only [Act.put, List.setIfInBounds_toArray, List.set_cons_zero, List.set_cons_succ]
  refine wpAnyH_take (i := 16) (oi := { dst := some 40, op := Op.move (Operand.tmp 10), type := 34, pos := "more.go:17", after := #[{ on := 14, ground := Ground.guard }], guard := some (14, true) }) (v := ?_) rfl (by kernel_rfl) (by kernel_rfl) (by kernel_rfl) (fun _ _ _ h => h) (Or.inl ⟨by rfl, ?_⟩) (by assumption) ?_
  rotate_left
  · intro W hSw; go_simp; first | (with_reducible rfl) | (rw [if_pos (show I ≤ c2 by omega)]) | (rw [if_pos (show I ≤ xs.length by omega)]) | skip
  try simp only [Act.put, List.setIfInBounds_toArray, List.set_cons_zero, List.set_cons_succ]
  refine wpAnyH_take (i := 17) (oi := { dst := some 41, op := Op.move (Operand.tmp 8), type := 22, pos := "more.go:17", after := #[{ on := 14, ground := Ground.guard }], guard := some (14, true) }) (v := ?_) rfl (by kernel_rfl) (by kernel_rfl) (by kernel_rfl) (fun _ _ _ h => h) (Or.inl ⟨by rfl, ?_⟩) (by assumption) ?_
  rotate_left
  · intro W hSw; go_simp; first | (with_reducible rfl) | (rw [if_pos (show I ≤ c2 by omega)]) | (rw [if_pos (show I ≤ xs.length by omega)]) | skip
  try simp only [Act.put, List.setIfInBounds_toArray, List.set_cons_zero, List.set_cons_succ]
  refine wpAnyH_ready (rs := [18]) (by kernel_rfl) (by simp) ?_
  refine AllReadyH.cons (o := { dst := some 42, op := Op.call { callee := Callee.value (Operand.func 18), args := #[Operand.tmp 40, Operand.tmp 41], argTypes := #[34, 22] }, type := 34, pos := "more.go:17", after := #[{ on := 16, ground := Ground.data }, { on := 17, ground := Ground.data }, { on := 14, ground := Ground.chain }, { on := 14, ground := Ground.guard }], guard := some (14, true) }) rfl (fun K hK => ?_) AllReadyH.nil
  go_simp
  refine (HP3.out _ (rr_below HAA.out (SB.b4 hHeld) (Nat.le_refl _)) (rc_below HXS.out (SB.b4 hHeld) (Nat.le_refl _))).mono ?_
  rintro e w8 ⟨v8, rfl, ho8, hbw8⟩
  have HV := Lib.hid ho8.rr
  obtain ⟨A8, c8, rfl, _, _⟩ := rr_shape ho8.rr
  clear ho8
  try (go_wp2_with fail)
  have hHeld' := SB.step hHeld hbw8
  refine hK.out _ _ ?_ (fun _ => ?_)
  · exact hHeld'
  clear hK K
  try simp only [Act.put, List.setIfInBounds_toArray, List.set_cons_zero, List.set_cons_succ]
  have hHeld := SB.more hHeld'
  clear hHeld'
  refine wpAnyH_more (S' := SB [w8, w7, w6, w5, w4, w3]) (fun W h => SB.less W h) _ _ _ _ ?_
  refine wpAnyH_ready (rs := [19]) (by kernel_rfl) (by simp) ?_
  refine AllReadyH.cons (o := { dst := some 43, op := Op.call { callee := Callee.value (Operand.func 17), args := #[Operand.tmp 39, Operand.tmp 42], argTypes := #[34, 34] }, type := 4, pos := "more.go:17", after := #[{ on := 15, ground := Ground.data }, { on := 18, ground := Ground.data }, { on := 18, ground := Ground.chain }, { on := 14, ground := Ground.guard }], guard := some (14, true) }) rfl (fun K hK => ?_) AllReadyH.nil
  go_simp
  refine (sameRows_any _ _ a _ (rr_below HAA.out (SB.b5 hHeld) (Nat.le_refl _)) (rr_below HV.out (SB.b0 hHeld) (Nat.le_refl _))).mono ?_
  rintro e w9 ⟨rfl, m9, hm9⟩
  have hbw9 := bel_drewN w8 m9
  rw [← hm9] at hbw9
  clear hm9
  try (go_wp2_with fail)
  have hHeld' := SB.step hHeld hbw9
  refine hK.out _ _ ?_ (fun _ => ?_)
  · exact hHeld'
  clear hK K
  try simp only [Act.put, List.setIfInBounds_toArray, List.set_cons_zero, List.set_cons_succ]
  have hHeld := SB.more hHeld'
  clear hHeld'
  refine wpAnyH_more (S' := SB [w9, w8, w7, w6, w5, w4, w3]) (fun W h => SB.less W h) _ _ _ _ ?_
  refine wpAnyH_take (i := 20) (oi := { dst := some 44, op := Op.pick (Operand.tmp 38) (Operand.tmp 43) (Operand.const (Value.bool false)), type := 4, pos := "more.go:17", after := #[{ on := 14, ground := Ground.data }, { on := 19, ground := Ground.data }], guard := none }) (v := ?_) rfl (by kernel_rfl) (by kernel_rfl) (by kernel_rfl) (fun _ _ _ h => h) (Or.inl ⟨by rfl, ?_⟩) (by assumption) ?_
  rotate_left
  · intro W hSw; go_simp; first | (with_reducible rfl) | (rw [if_pos (show I ≤ c2 by omega)]) | (rw [if_pos (show I ≤ xs.length by omega)]) | skip
  try simp only [Act.put, List.setIfInBounds_toArray, List.set_cons_zero, List.set_cons_succ]
  refine wpAnyH_take (i := 21) (oi := { dst := some 6, op := Op.assign (Operand.tmp 44), type := 4, pos := "more.go:17", after := #[{ on := 20, ground := Ground.data }, { on := 19, ground := Ground.chain }, { on := 0, ground := Ground.phase }, { on := 1, ground := Ground.phase }, { on := 2, ground := Ground.phase }, { on := 3, ground := Ground.phase }, { on := 4, ground := Ground.phase }, { on := 5, ground := Ground.phase }, { on := 6, ground := Ground.phase }, { on := 7, ground := Ground.phase }, { on := 8, ground := Ground.phase }, { on := 9, ground := Ground.phase }, { on := 10, ground := Ground.phase }, { on := 11, ground := Ground.phase }, { on := 12, ground := Ground.phase }, { on := 13, ground := Ground.phase }, { on := 14, ground := Ground.phase }, { on := 15, ground := Ground.phase }, { on := 16, ground := Ground.phase }, { on := 17, ground := Ground.phase }, { on := 18, ground := Ground.phase }, { on := 19, ground := Ground.phase }, { on := 20, ground := Ground.phase }], guard := none }) (v := ?_) rfl (by kernel_rfl) (by kernel_rfl) (by kernel_rfl) (fun _ _ _ h => h) (Or.inl ⟨by rfl, ?_⟩) (by assumption) ?_
  rotate_left
  · intro W hSw; go_simp; first | (with_reducible rfl) | (rw [if_pos (show I ≤ c2 by omega)]) | (rw [if_pos (show I ≤ xs.length by omega)]) | skip
  try simp only [Act.put, List.setIfInBounds_toArray, List.set_cons_zero, List.set_cons_succ]
  refine wpAnyH_done (by kernel_rfl) ?_ _
  have HB9 := Lib.hid (HB3.out.trans ((SB.b6 hHeld).mono HB3.out.size))
  clear hHeld
  go_wp2
  go_ret
  exact ⟨rfl, HB9.out⟩
end Go.Proofs.Ytomkbgghljcbfaa
