/-
  TopicOwn: its walk.
-/
import Derived.Test.YthifpfdfepepoaaMatchesW9
import Derived.Test.YthifpfdfepepoaaTpOwnM
set_option linter.unusedVariables false
namespace Go.Proofs.Ythifpfdfepepoaa
open Go.RowKit Go.Rst Go.Tp
theorem cat_str (a b : List UInt8) : (⟨a.toArray⟩ : ByteArray) ++ ⟨b.toArray⟩ = ⟨(a ++ b).toArray⟩ := by
  apply ByteArray.ext
  simp [ByteArray.data_append]
set_option maxRecDepth 100000 in
set_option maxHeartbeats 3000000 in
theorem walk_own (cv : Value) (lc : List UInt8) (s : List UInt8) (W : World) (hc : RB W cv lc) (hlc : lc.length ≤ 140737488351232) (hs : s.length ≤ reachBytes) :
    Calls Try.prog 6 #[cv, sv s] W fun e w' => e = .returned (.bool true) ∧ Below W.heap.size W w' := by
  have hw : GB W W := GB.refl W
  have HC := Lib.hid hc
  obtain ⟨Ac, cc, rfl, _⟩ := id hc
  clear hc hs
  have hk := known_any W
  go_enter Try.func6, Try.ntmps6
  go_wp2_with fail
  go_at_call 14
  refine (g_name false HC.out _ hw).mono ?_
  rintro e w1 ⟨t, ht, rfl, hb1⟩
  cases hr : rightB t with
  | false =>
    have c1 : GivesB W 11 #[sv t] false := hr ▸ g_right W t
    have c2 : GivesB W 10 #[sv t, sv t] false := not_right hr t ▸ g_match W t t (by omega) (by omega)
    have c3 : GivesB W 10 #[sv [35], sv t] false := not_right hr [35] ▸ g_match W [35] t (by decide) (by omega)
    clear hr
    go_wp2_with fail
    go_at_call 11
    refine (c1 _ hb1).mono ?_
    rintro e w2 ⟨rfl, hb2⟩
    clear hb1
    go_wp2_with fail
    go_at_call 9
    refine (hk _ hb2).mono ?_
    rintro e w3 ⟨rfl, hb3⟩
    clear hb2
    go_wp2_with fail
    go_at_call 10
    refine (c2 _ hb3).mono ?_
    rintro e w4 ⟨rfl, hb4⟩
    clear hb3
    go_wp2_with fail
    go_at_call 10
    refine (c3 _ hb4).mono ?_
    rintro e w5 ⟨rfl, hb5⟩
    clear hb4
    go_wp2
    go_ret
    exact ⟨rfl, hb5⟩
  | true =>
    have hcat := cat_str t [47, 97]
    obtain ⟨m, hm⟩ : ∃ m, m = t ++ [47, 97] := ⟨_, rfl⟩
    rw [← hm] at hcat
    have hml : m.length ≤ 102 := by rw [hm]; simp; omega
    have c1 : GivesB W 11 #[sv t] true := hr ▸ g_right W t
    have c2 : GivesB W 10 #[sv t, sv t] true := right_self hr ▸ g_match W t t (by omega) (by omega)
    have c3 : GivesB W 10 #[sv [35], sv t] true := right_hash hr ▸ g_match W [35] t (by decide) (by omega)
    cases hrm : rightB m with
    | false =>
      have c4 : GivesB W 11 #[sv m] false := hrm ▸ g_right W m
      have c5 : GivesB W 13 #[sv t] true := right_pat hr ▸ g_pat W t
      clear hr hrm hm
      go_wp2_with fail
      go_at_call 11
      refine (c1 _ hb1).mono ?_
      rintro e w2 ⟨rfl, hb2⟩
      clear hb1
      go_wp2_with fail
      go_at_call 11
      refine (c4 _ hb2).mono ?_
      rintro e w3 ⟨rfl, hb3⟩
      clear hb2
      go_wp2_with fail
      go_at_call 9
      refine (hk _ hb3).mono ?_
      rintro e w4 ⟨rfl, hb4⟩
      clear hb3
      go_wp2_with fail
      go_at_call 13
      refine (c5 _ hb4).mono ?_
      rintro e w5 ⟨rfl, hb5⟩
      clear hb4
      go_wp2_with fail
      go_at_call 10
      refine (c2 _ hb5).mono ?_
      rintro e w6 ⟨rfl, hb6⟩
      clear hb5
      go_wp2_with fail
      go_at_call 10
      refine (c3 _ hb6).mono ?_
      rintro e w7 ⟨rfl, hb7⟩
      clear hb6
      go_wp2
      go_ret
      exact ⟨rfl, hb7⟩
    | true =>
      have hcp := cat_str t [47, 43]
      have hch := cat_str t [47, 35]
      obtain ⟨p, hp⟩ : ∃ p, p = t ++ [47, 43] := ⟨_, rfl⟩
      obtain ⟨q, hq⟩ : ∃ q, q = t ++ [47, 35] := ⟨_, rfl⟩
      obtain ⟨o1, o2, o3, o4, o5⟩ := own_more hr (by rw [← hm]; exact hrm)
      rw [← hm] at o1 o2 o3 o4
      rw [← hp] at hcp o3
      rw [← hq] at hch o4 o5
      have hpl : p.length ≤ 102 := by rw [hp]; simp; omega
      have hql : q.length ≤ 102 := by rw [hq]; simp; omega
      have c4 : GivesB W 11 #[sv m] true := hrm ▸ g_right W m
      have c5 : GivesB W 10 #[sv t, sv m] false := o1 ▸ g_match W t m (by omega) (by omega)
      have c6 : GivesB W 10 #[sv m, sv t] false := o2 ▸ g_match W m t (by omega) (by omega)
      have c7 : GivesB W 10 #[sv p, sv m] true := o3 ▸ g_match W p m (by omega) (by omega)
      have c8 : GivesB W 10 #[sv q, sv m] true := o4 ▸ g_match W q m (by omega) (by omega)
      have c9 : GivesB W 10 #[sv q, sv t] false := o5 ▸ g_match W q t (by omega) (by omega)
      clear hr hrm hm hp hq o1 o2 o3 o4 o5
      go_wp2_with fail
      go_at_call 11
      refine (c1 _ hb1).mono ?_
      rintro e w2 ⟨rfl, hb2⟩
      clear hb1
      go_wp2_with fail
      go_at_call 11
      refine (c4 _ hb2).mono ?_
      rintro e w3 ⟨rfl, hb3⟩
      clear hb2
      go_wp2_with fail
      go_at_call 9
      refine (hk _ hb3).mono ?_
      rintro e w4 ⟨rfl, hb4⟩
      clear hb3
      go_wp2_with fail
      go_at_call 10
      refine (c2 _ hb4).mono ?_
      rintro e w5 ⟨rfl, hb5⟩
      clear hb4
      go_wp2_with fail
      go_at_call 10
      refine (c3 _ hb5).mono ?_
      rintro e w6 ⟨rfl, hb6⟩
      clear hb5
      go_wp2_with fail
      go_at_call 10
      refine (c5 _ hb6).mono ?_
      rintro e w7 ⟨rfl, hb7⟩
      clear hb6
      go_wp2_with fail
      go_at_call 10
      refine (c6 _ hb7).mono ?_
      rintro e w8 ⟨rfl, hb8⟩
      clear hb7
      go_wp2_with fail
      go_at_call 10
      refine (c7 _ hb8).mono ?_
      rintro e w9 ⟨rfl, hb9⟩
      clear hb8
      go_wp2_with fail
      go_at_call 10
      refine (c8 _ hb9).mono ?_
      rintro e w10 ⟨rfl, hb10⟩
      clear hb9
      go_wp2_with fail
      go_at_call 10
      refine (c9 _ hb10).mono ?_
      rintro e w11 ⟨rfl, hb11⟩
      clear hb10
      go_wp2
      go_ret
      exact ⟨rfl, hb11⟩
end Go.Proofs.Ythifpfdfepepoaa
