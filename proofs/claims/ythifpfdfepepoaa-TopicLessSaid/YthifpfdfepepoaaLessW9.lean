/-
  TopicLess: its walk.
-/
import Derived.Test.YthifpfdfepepoaaWantsW9
import Derived.Test.YthifpfdfepepoaaTpLessM
set_option linter.unusedVariables false
namespace Go.Tp
open Go
theorem pr_less {l : List UInt8} (h5 : l.length ≤ 5) (h : attrsB (prF (l.take 5)).1 = true) : wantB (prF ((l.take (l.length - 1)).take 5)).1 (prF (l.take 5)).1 = true := by
  rw [List.take_of_length_le (show (l.take (l.length - 1)).length ≤ 5 by rw [List.length_take]; omega)]
  rw [List.take_of_length_le (show l.length ≤ 5 by omega)] at h ⊢
  by_cases h0 : l.length - 1 = 0
  · rw [h0, List.take_zero, show (prF []).1 = [] from rfl, want_none, h]
  · have hl : l = l.take (l.length - 1) ++ [l[l.length - 1]'(by omega)] := by
      rw [← List.take_succ_eq_append_getElem (by omega), List.take_of_length_le (by omega)]
    have hq : (prF (l.take (l.length - 1))).1 ≠ [] := prF_ne (List.ne_nil_of_length_pos (by rw [List.length_take]; omega))
    generalize l[l.length - 1] = b at *
    generalize l.take (l.length - 1) = m at *
    rw [hl, prF_snoc] at h ⊢
    simp only [prS, if_neg hq, List.append_assoc, List.singleton_append] at h ⊢
    exact want_less hq h
theorem want_not_self {p : List UInt8} (h : attrsB p = false) : wantB p p = false := by rw [want_self, h]
theorem want_not_none {p : List UInt8} (h : attrsB p = false) : wantB [] p = false := by rw [want_none, h]
end Go.Tp
namespace Go.Proofs.Ythifpfdfepepoaa
open Go.RowKit Go.Rst Go.Tp
theorem wpList_max2 {P : Program} {w : World} {ops : Array Oper} {rest : List Oper} {o : Oper} {a : Act} {Q : Exit → Act → World → Prop} (hgd : o.guard = none) (x y : Operand) (ts : Array TypeId)
    (ho : o.op = .call { callee := .builtin .max, args := #[x, y], argTypes := ts }) {X Y n : Int} (hx : a.eval x = .int .i64 X) (hy : a.eval y = .int .i64 Y)
    (hn : (if Y > X then Y else X) = n) (h : wpList P ops Q rest (a.put o.dst (.int .i64 n)) w) : wpList P ops Q (o :: rest) a w := by
  refine wpList_plain hgd fun K hK => ?_
  unfold Oper.wp execOp
  simp only [ho, resolve, invoke, builtin, Sem.run_bind, Sem.run_pure, Result.andThen_ok, List.map_toArray, List.map_cons, List.map_nil, hx, hy, run_max_int2, hn]
  exact hK _ _ h
theorem rb_front {w : World} {A : Option Addr} {c : Nat} {l : List UInt8} (h : RB w (.slice A l.length c) l) {m : Nat} (hm : m ≤ l.length) : RB w (.slice A m c) (l.take m) := by
  obtain ⟨A', c', he, h1, h2, h3⟩ := h
  injection he with e1 _ e3
  subst e1
  subst e3
  have hml : (l.take m).length = m := by rw [List.length_take]; omega
  refine ⟨A, c, by rw [hml], by omega, h2, ?_⟩
  rcases h3 with h3 | ⟨b, off, h4, h5, h6⟩
  · exact .inl (by rw [h3]; simp)
  · exact .inr ⟨b, off, h4, h5, fun j hj => by rw [hml] at hj; rw [h6 j (by omega)]; simp⟩
set_option maxRecDepth 100000 in
set_option maxHeartbeats 3000000 in
theorem walk_less (cv : Value) (lc : List UInt8) (a : List UInt8) (W : World) (hc : RB W cv lc) (hlc : lc.length ≤ 140737488351232) (ha : a.length ≤ reachBytes) :
    Calls Try.prog 7 #[cv, sv a] W fun e w' => e = .returned (.bool true) ∧ Below W.heap.size W w' := by
  have hw : GB W W := GB.refl W
  obtain ⟨A, c, rfl, hcl, hc63, h3⟩ := id hc
  clear h3
  have hC := g_pairs hc
  have hC2 := g_pairs (rb_front hc (m := lc.length - 1) (by omega))
  have HLE := Lib.hid (fun h5 => @pr_less lc h5)
  obtain ⟨p, hp⟩ : ∃ p, p = (prF (lc.take 5)).1 := ⟨_, rfl⟩
  obtain ⟨q, hq⟩ : ∃ q, q = (prF ((lc.take (lc.length - 1)).take 5)).1 := ⟨_, rfl⟩
  rw [← hp] at hC HLE
  rw [← hq] at hC2 HLE
  have HC := Lib.hid hC
  obtain ⟨m, hm⟩ : ∃ m, m = lc.length - 1 := ⟨_, rfl⟩
  rw [← hm] at hC2
  have HC2 := Lib.hid hC2
  have HMX := Lib.hid (show (if (0 : Int) > (lc.length : Int) - 1 then (0 : Int) else (lc.length : Int) - 1) = (m : Int) by split <;> omega)
  have hml : (m : Int) ≤ (lc.length : Int) := by omega
  have hmc : (m : Int) ≤ (c : Int) := by omega
  have hwr : IntKind.i64.wrap ((lc.length : Int) - 1) = (lc.length : Int) - 1 := by rw [IntKind.wrap_i64]; omega
  clear hC hC2 hp hq hc hm
  have hk := known_any W
  go_enter Try.func7, Try.ntmps7
  go_wp2_with fail
  go_at_call 17
  refine (HC.out _ hw).mono ?_
  rintro e w1 ⟨rfl, hb1⟩
  cases hr : attrsB p with
  | false =>
    have c1 : GivesB W 12 #[sv p] false := hr ▸ g_attrs W p
    have c2 : GivesB W 18 #[sv p, sv p] false := want_not_self hr ▸ g_want W p p
    have c3 : GivesB W 18 #[sv [], sv p] false := want_not_none hr ▸ g_want W [] p
    clear hr
    go_wp2_with fail
    go_at_call 12
    refine (c1 _ hb1).mono ?_
    rintro e w2 ⟨rfl, hb2⟩
    clear hb1
    go_wp2_with fail
    go_at_call 9
    refine (hk _ hb2).mono ?_
    rintro e w3 ⟨rfl, hb3⟩
    clear hb2
    go_wp2_with fail
    go_at_call 18
    refine (c2 _ hb3).mono ?_
    rintro e w4 ⟨rfl, hb4⟩
    clear hb3
    go_wp2_with fail
    go_at_call 18
    refine (c3 _ hb4).mono ?_
    rintro e w5 ⟨rfl, hb5⟩
    clear hb4
    go_wp2
    go_ret
    exact ⟨rfl, hb5⟩
  | true =>
    have c1 : GivesB W 12 #[sv p] true := hr ▸ g_attrs W p
    have c2 : GivesB W 18 #[sv p, sv p] true := (show wantB p p = true by rw [want_self, hr]) ▸ g_want W p p
    have c3 : GivesB W 18 #[sv [], sv p] true := (show wantB [] p = true by rw [want_none, hr]) ▸ g_want W [] p
    have c5 : GivesB W 18 #[sv [], sv a] (attrsB a) := want_none a ▸ g_want W [] a
    have c6 := g_attrs W a
    generalize attrsB a = x at *
    by_cases h5 : lc.length ≤ 5
    · have i5 : ¬ (5 : Int) < (lc.length : Int) := by omega
      have c4 : GivesB W 18 #[sv q, sv p] true := HLE.out h5 hr ▸ g_want W q p
      clear hr
      go_wp2_with fail
      go_at_call 12
      refine (c1 _ hb1).mono ?_
      rintro e w2 ⟨rfl, hb2⟩
      clear hb1
      go_wp2_with (refine wpList_max2 rfl (.tmp 27) (.const (.int .i64 0)) _ rfl rfl rfl HMX.out ?_)
      go_at_call 17
      refine (HC2.out _ hb2).mono ?_
      rintro e w3 ⟨rfl, hb3⟩
      clear hb2
      go_wp2_with fail
      go_at_call 9
      refine (hk _ hb3).mono ?_
      rintro e w4 ⟨rfl, hb4⟩
      clear hb3
      go_wp2_with fail
      go_at_call 18
      refine (c2 _ hb4).mono ?_
      rintro e w5 ⟨rfl, hb5⟩
      clear hb4
      go_wp2_with fail
      go_at_call 18
      refine (c3 _ hb5).mono ?_
      rintro e w6 ⟨rfl, hb6⟩
      clear hb5
      go_wp2_with fail
      go_at_call 18
      refine (c4 _ hb6).mono ?_
      rintro e w7 ⟨rfl, hb7⟩
      clear hb6
      go_wp2_with fail
      go_at_call 18
      refine (c5 _ hb7).mono ?_
      rintro e w8 ⟨rfl, hb8⟩
      clear hb7
      go_wp2_with fail
      go_at_call 12
      refine (c6 _ hb8).mono ?_
      rintro e w9 ⟨rfl, hb9⟩
      clear hb8
      go_wp2
      go_ret
      exact ⟨rfl, hb9⟩
    · have i5 : (5 : Int) < (lc.length : Int) := by omega
      clear hr
      go_wp2_with fail
      go_at_call 12
      refine (c1 _ hb1).mono ?_
      rintro e w2 ⟨rfl, hb2⟩
      clear hb1
      go_wp2_with (refine wpList_max2 rfl (.tmp 27) (.const (.int .i64 0)) _ rfl rfl rfl HMX.out ?_)
      go_at_call 17
      refine (HC2.out _ hb2).mono ?_
      rintro e w3 ⟨rfl, hb3⟩
      clear hb2
      go_wp2_with fail
      go_at_call 9
      refine (hk _ hb3).mono ?_
      rintro e w4 ⟨rfl, hb4⟩
      clear hb3
      go_wp2_with fail
      go_at_call 18
      refine (c2 _ hb4).mono ?_
      rintro e w5 ⟨rfl, hb5⟩
      clear hb4
      go_wp2_with fail
      go_at_call 18
      refine (c3 _ hb5).mono ?_
      rintro e w6 ⟨rfl, hb6⟩
      clear hb5
      go_wp2_with fail
      go_at_call 18
      refine (c5 _ hb6).mono ?_
      rintro e w7 ⟨rfl, hb7⟩
      clear hb6
      go_wp2_with fail
      go_at_call 12
      refine (c6 _ hb7).mono ?_
      rintro e w8 ⟨rfl, hb8⟩
      clear hb7
      go_wp2
      go_ret
      exact ⟨rfl, hb8⟩
end Go.Proofs.Ythifpfdfepepoaa
