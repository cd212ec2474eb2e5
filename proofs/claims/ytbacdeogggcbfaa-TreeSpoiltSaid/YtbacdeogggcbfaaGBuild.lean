/-
  A region that draws its order, in a round of a range over a function: what holds of it elsewhere holds in a round. No program, no condition.
-/
import Derived.Test.YtbacdeogggcbfaaReg
import Derived.OrdersIn
import Derived.RangeFuncCalls
import Derived.TacticsIn
import Derived.RangeFuncNested
import Derived.RangeFuncBound
import Derived.RangeFuncLeaves
import Derived.RangeFuncBox
import Derived.Shelf.Abstract
import Derived.Shelf.RegionOpen
import Derived.WalkKit
import Derived.OwnWalkIn
import Derived.TacticsInMore
import Derived.LoopNIn
import Derived.LoopIn
import Derived.Test.YtbacdeogggcbfaaTMath2
import Derived.Test.YtbacdeogggcbfaaFit
import Derived.Test.YtbacdeogggcbfaaEncW
import Derived.Test.YtbacdeogggcbfaaNum
import Derived.Maps.AppendAt
import Derived.OrdersHeld
import Derived.Test.YtbacdeogggcbfaaRise

namespace Go.Rst
open Go.RowKit
variable {P : Program} {ops : Array Oper} {Q : Exit → Act → World → Prop} {md : Region.Mode} {l n : Nat}
theorem op_round {o : Oper} {a : Act} {w : World} {K : Act → World → Prop} (hd : ∀ c, o.op ≠ .defer c) (h : o.wp P a w K Q) : o.wpIn (Fence.wide.inRound l) n P a w K Q := by
  refine ⟨fun _ _ => trivial, ?_⟩
  show o.uponIn _ n P a K Q ((o.semAt (some l) a.eval).run P w)
  rw [Oper.semAt_some l _ _ hd]
  unfold Oper.wp at h
  generalize (execOp a.eval o).run P w = r at h
  cases r with
  | ok x w' =>
    cases x with
    | value v => exact h
    | skip => exact h
    | defer d => exact h
    | enter f args => exact ⟨fun h => by simp [Fence.inRound, Fence.wide] at h, CallsIn.inRound l (callsIn_wide.2 h)⟩
    | row r args => exact ⟨fun h => by simp [Fence.inRound, Fence.wide] at h, fun c cs _ => let ⟨v, w', hr, hs⟩ := h c cs; ⟨v, w', hr, stepsIn_wide.2 hs⟩⟩
    | _ => exact h.elim
  | halt x w' =>
    cases x with
    | panic v => exact h
    | _ => exact h.elim
def noDefer (ops : Array Oper) : Bool := ops.all fun o => match o.op with | .defer _ => false | _ => true
theorem noDefer_spec (h : noDefer ops = true) (i : Nat) (o : Oper) (ho : ops[i]? = some o) (c : Call) : o.op ≠ .defer c := by
  intro he
  obtain ⟨hi, rfl⟩ := Array.getElem?_eq_some_iff.1 ho
  have := Array.all_eq_true.1 h i hi
  rw [he] at this
  cases this
theorem anyIn_of_any (hnd : noDefer ops = true) (hQ : ∀ a w, ¬ Q .outgrown a w) : ∀ (fuel : Nat) (listed : Array Bool) (a : Act) (w : World), wpAny P md ops Q fuel listed a w → wpAnyIn (Fence.wide.inRound l) n P md ops Q fuel listed a w
  | 0, _, _, _, h => h
  | fuel + 1, listed, a, w, h => ⟨h.1, fun i hi => by
      have hop := h.2 i hi
      unfold wpOp at hop
      unfold wpOpIn
      cases ho : ops[i]? with
      | none => rw [ho] at hop; exact anyIn_of_any hnd hQ fuel _ a w hop
      | some o =>
        rw [ho] at hop
        simp only at hop ⊢
        split
        · rename_i hw
          rw [if_pos hw] at hop
          rcases hop with hop | ⟨_, a', w', hx⟩
          · exact Oper.wpIn_mono (fun a' w' h' => anyIn_of_any hnd hQ fuel _ a' w' h') (op_round (noDefer_spec hnd i o ho) hop)
          · exact (hQ _ _ hx).elim
        · rename_i hw
          rw [if_neg hw] at hop
          exact ⟨fun _ _ => trivial, anyIn_of_any hnd hQ fuel _ _ _ hop⟩⟩
theorem wpIn_region_round {S : World → Prop} {id : Nat} {a : Act} {w : World} (hm : P.follows .mixedOrders = true) (hnd : noDefer ops = true) (hQ : ∀ a w, ¬ Q .outgrown a w) (hS : S w.drew)
    (h : S w.drew → wpAnyH P .any ops Q S ops.size (Array.replicate ops.size false) a w.drew) : (Code.region id ops true).wpIn (Fence.wide.inRound l) n P Q a w :=
  wpIn_region_any hm (anyIn_of_any hnd hQ _ _ _ _ (wpAny_of_held _ _ _ _ (h hS)))
end Go.Rst

/-
  The contracts of the program's groups: a function that tells rows by the pages that they have room in.
-/
namespace Go.Proofs.Ytbacdeogggcbfaa
open Go.RowKit Go.Rst Go.Pg Go.Crc Go.Shelf
attribute [local go_sem] Oper.semAt_some

/-- A group of rows that are told: part of those that lie there, whatever else does. -/
abbrev Grp (lv : Value) (rest : List Rw) : Type := { x : Value × List Rw // ∀ W, RR W lv rest → RR W x.1 x.2 }
def KeepsR (lv : Value) (rest : List Rw) (A B : World) : Prop := RR A lv rest → RR B lv rest

theorem grown_none {w w' : World} (h : Below w.heap.size w w') : w.grownBy w' none := ⟨h.os, h.tape, h.output, h.size, fun k hk _ => h.block k hk⟩

theorem rr_cut {X : World} {A : Option Addr} {c : Nat} {rs : List Rw} (h : RR X (.slice A rs.length c) rs) {K : Nat} (hK : K ≤ rs.length) :
    RR X (.slice (if c = K then A else Option.map (fun x => x.add (K * 2)) A) (rs.length - K) (c - K)) (rs.drop K) := by
  have hh := h
  obtain ⟨A', c', he, h1, h2, h3⟩ := h
  injection he with e1 _ e3
  subst e1
  subst e3
  by_cases hd : rs.length ≤ K
  · rw [List.drop_eq_nil_of_le hd, show rs.length - K = 0 from by omega]
    exact rr_empty _ _ (by omega)
  · have hck : ¬ c = K := by omega
    rw [if_neg hck]
    rcases h3 with rfl | ⟨b, off, rfl, hb, hc⟩
    · simp at hd
    · have := rr_drop hh hK
      simp only [Option.map_some, Addr.add_lit]
      exact this

set_option maxHeartbeats 1000000 in
theorem groups_in (n : Nat) (A : Option Addr) (m c : Nat) (w : World) :
    CallsIn Fence.wide n Try.prog 24 #[.slice A m c] w fun e w' => e = .returned (.func (.func 33) #[] #[.pointer (some ⟨w.heap.size, 0, none⟩)]) ∧ w' = w.alloc (.cells #[.slice A m c] 22) := by
  refine callsIn_of_wp Try.func24 rfl trivial ?_ rfl
  simp only [Try.ntmps24, List.size_toArray, List.length_cons, List.length_nil, Nat.reduceAdd, Nat.reduceSub, Array.replicate_succ, Array.replicate_zero, List.push_toArray, List.append_toArray, List.nil_append, List.cons_append]
  gi_wp2
  go_ret
  exact ⟨rfl, rfl⟩

set_option maxRecDepth 100000 in
set_option maxHeartbeats 4000000 in
theorem groups_stops (n Bs : Nat) (lv : Value) (rest : List Rw) (w : World) (hBs : Bs < w.heap.size) (hc : w.cell? ⟨Bs, 0, none⟩ = some lv) (hR : RR w lv rest) :
    SeqStopsK Fence.wide n Try.prog 33 #[.pointer (some ⟨Bs, 0, none⟩)] (fun x : Grp lv rest => #[x.1.1]) (KeepsR lv rest) (fun ys => ys.map (·.1.2) = groupsL rest) (fun pre => pre.map (·.1.2) <+: groupsL rest) (rest.length + 1) w :=
  fun l J Jx W hW hJ hJx hY h0 => by
  have hc' := (hW.cell (p := ⟨Bs, 0, none⟩) hBs).trans hc
  have hRW := rr_below hR hW (Nat.le_refl _)
  obtain ⟨A0, c0, hlv, hc0, hc063⟩ := rr_shape hRW
  rw [hlv] at hc'
  refine callsIn_of_wp Try.func33 rfl trivial ?_ rfl
  simp only [Try.ntmps33, List.size_toArray, List.length_cons, List.length_nil, Nat.reduceAdd, Nat.reduceSub, Array.replicate_succ, Array.replicate_zero, List.push_toArray, List.append_toArray, List.nil_append, List.cons_append]
  have HJ := Lib.hid hJ
  have HY := Lib.hid hY
  have HRW := Lib.hid hRW
  have HLV := Lib.hid hlv
  clear hJ hJx hY hRW hlv hc hR hBs
  gi_wp2
  gi_loopw [3] (fun lw wr => ∃ (pre : List (Grp lv rest)) (rs : List Rw), (∀ X, RR X lv rest → RR X lw rs) ∧ RR wr lv rest ∧ J pre wr ∧ pre.map (·.1.2) ++ groupsL rs = groupsL rest ∧ pre.length + rs.length ≤ rest.length) (fun lw _ => vlen lw)
  case atStart => exact ⟨[], rest, fun X h => by rw [← HLV.out]; exact h, HRW.out, h0, rfl, by simp⟩
  case round =>
    obtain ⟨pre, rs, hsub, hRwr, hJs, hpr, hlen⟩ := hrel
    obtain ⟨A1, c1, rfl, hlc, hc63⟩ := rr_shape (hsub wr hRwr)
    have hfit := fit_any _ rs wr (hsub wr hRwr)
    have hfl := fitN_le rs
    have hgl := gsize_le rs
    have hg : gsize rs = min (max (fitN rs) 1) rs.length := rfl
    obtain ⟨F, hF⟩ : ∃ F, F = fitN rs := ⟨_, rfl⟩
    rw [← hF] at hfit hfl hg
    obtain ⟨K, hK⟩ : ∃ K, K = gsize rs := ⟨_, rfl⟩
    rw [← hK] at hgl hg
    have HS := Lib.hid hsub
    have HK := Lib.hid hK
    have HP := Lib.hid hpr
    have HFIT := Lib.hid hfit
    have HR := Lib.hid hRwr
    have HJs := Lib.hid hJs
    clear hsub hK hpr hfit hRwr hJs hF
    by_cases hr0 : 1 ≤ F
    · obtain rfl : K = F := by omega
      clear hg
      by_cases hend : rs.length ≤ K
      · have HG := Lib.hid (show groupsL rs = [rs.take K] by rw [HK.out]; exact groupsL_end (by rw [← HK.out]; exact hend))
        have hz : rs.length - K = 0 := by omega
        clear HK
        gi_wp2_with (refine ⟨trivial, fun h => (by simp [Fence.wide] at h), ?_⟩; gi_at_call 34; refine (callsIn_wide.2 HFIT.out).mono ?_; rintro e w1 ⟨rfl, hb1⟩; have hJ1 := HJ.out pre wr w1 none HJs.out (grown_none hb1) (fun r h => by cases h); have hR1 := rr_below HR.out hb1 (Nat.le_refl _); obtain ⟨fn, tmps, assign, body, hy, hRd⟩ := HY.out pre ⟨(.slice A1 K c1, rs.take K), fun X h => rr_take (HS.out X h) (by omega)⟩ w1 hJ1 (by omega); dsimp only at hy; have HRD := Lib.hid hRd; have HR1 := Lib.hid hR1; clear hRd hR1 hJ1 hb1)
        refine ⟨fun h => (by simp [Fence.wide] at h), HRD.out.mono ?_⟩
        rintro e W3 (⟨rfl, hJ3, hk3⟩ | ⟨rfl, hJx3⟩)
        · have HJ3 := Lib.hid hJ3
          have HR3 := Lib.hid (hk3 HR1.out)
          clear hJ3 hk3
          gi_wp2
          all_goals
            refine bodyPost_ret (results_none rfl _ _ _) rfl ?_
            exact ⟨⟨_, rfl⟩, .inl ⟨_, by rw [List.map_append, ← HP.out, HG.out]; rfl, HJ3.out⟩⟩
        · have HJX := Lib.hid hJx3
          clear hJx3
          gi_wp2
          refine bodyPost_ret (results_none rfl _ _ _) rfl ?_
          exact ⟨⟨_, rfl⟩, .inr ⟨_, by rw [List.map_append, ← HP.out, HG.out]; exact List.prefix_rfl, HJX.out⟩⟩
      · have HG := Lib.hid (show groupsL rs = rs.take K :: groupsL (rs.drop K) by rw [HK.out]; exact groupsL_more (by rw [← HK.out]; exact hend))
        have hz : ((rs.length - K : Nat) == 0) = false := by rw [beq_eq_false_iff_ne]; omega
        have hz' : (((rs.length - K : Nat) : Int) == 0) = false := by rw [beq_eq_false_iff_ne]; omega
        clear HK
        gi_wp2_with (refine ⟨trivial, fun h => (by simp [Fence.wide] at h), ?_⟩; gi_at_call 34; refine (callsIn_wide.2 HFIT.out).mono ?_; rintro e w1 ⟨rfl, hb1⟩; have hJ1 := HJ.out pre wr w1 none HJs.out (grown_none hb1) (fun r h => by cases h); have hR1 := rr_below HR.out hb1 (Nat.le_refl _); obtain ⟨fn, tmps, assign, body, hy, hRd⟩ := HY.out pre ⟨(.slice A1 K c1, rs.take K), fun X h => rr_take (HS.out X h) (by omega)⟩ w1 hJ1 (by omega); dsimp only at hy; have HRD := Lib.hid hRd; have HR1 := Lib.hid hR1; clear hRd hR1 hJ1 hb1)
        refine ⟨fun h => (by simp [Fence.wide] at h), HRD.out.mono ?_⟩
        rintro e W3 (⟨rfl, hJ3, hk3⟩ | ⟨rfl, hJx3⟩)
        · have HJ3 := Lib.hid hJ3
          have HR3 := Lib.hid (hk3 HR1.out)
          clear hJ3 hk3
          gi_wp2
          go_roundw
          case rel => exact ⟨_, rs.drop K, fun X h => by
            have h5 := rr_cut (HS.out X h) (K := K) (by omega)
            rw [if_neg (show ¬ c1 = K by omega)] at h5
            first | exact h5 | (rw [if_neg (show ¬ c1 = K by omega)]; exact h5), HR3.out, HJ3.out, by rw [List.map_append, ← HP.out, HG.out, List.append_assoc]; rfl, by rw [List.length_append, List.length_drop]; simp; omega⟩
          case measure => simp [vlen]; omega
        · have HJX := Lib.hid hJx3
          clear hJx3
          gi_wp2
          refine bodyPost_ret (results_none rfl _ _ _) rfl ?_
          exact ⟨⟨_, rfl⟩, .inr ⟨_, by rw [List.map_append, ← HP.out, HG.out]; exact List.prefix_append_right_inj _ |>.2 ⟨_, rfl⟩, HJX.out⟩⟩
    · obtain rfl : F = 0 := by omega
      by_cases hl0 : rs.length = 0
      · obtain rfl : K = 0 := by omega
        have HG := Lib.hid (show groupsL rs = [rs.take 0] by rw [HK.out]; exact groupsL_end (by rw [← HK.out]; omega))
        clear HK hg
        obtain rfl : rs = [] := List.eq_nil_of_length_eq_zero hl0
        have HFIT0 := Lib.hid (show Calls Try.prog 34 #[.slice A1 0 c1] wr fun e w' => e = .returned (.int .i64 0) ∧ Below wr.heap.size wr w' from HFIT.out)
        clear HFIT hl0 hfl hgl
        rw [List.length_nil] at hlen hlc ⊢
        gi_wp2_with (refine ⟨trivial, fun h => (by simp [Fence.wide] at h), ?_⟩; gi_at_call 34; refine (callsIn_wide.2 HFIT0.out).mono ?_; rintro e w1 ⟨rfl, hb1⟩; have hJ1 := HJ.out pre wr w1 none HJs.out (grown_none hb1) (fun r h => by cases h); have hR1 := rr_below HR.out hb1 (Nat.le_refl _); obtain ⟨fn, tmps, assign, body, hy, hRd⟩ := HY.out pre ⟨(.slice A1 0 c1, ([] : List Rw).take 0), fun X h => rr_take (HS.out X h) (Nat.le_refl _)⟩ w1 hJ1 (by omega); dsimp only at hy; have HRD := Lib.hid hRd; have HR1 := Lib.hid hR1; clear hRd hR1 hJ1 hb1)
        refine ⟨fun h => (by simp [Fence.wide] at h), HRD.out.mono ?_⟩
        rintro e W3 (⟨rfl, hJ3, hk3⟩ | ⟨rfl, hJx3⟩)
        · have HJ3 := Lib.hid hJ3
          have HR3 := Lib.hid (hk3 HR1.out)
          clear hJ3 hk3
          gi_wp2
          all_goals
            refine bodyPost_ret (results_none rfl _ _ _) rfl ?_
            exact ⟨⟨_, rfl⟩, .inl ⟨_, by rw [List.map_append, ← HP.out, HG.out]; rfl, HJ3.out⟩⟩
        · have HJX := Lib.hid hJx3
          clear hJx3
          gi_wp2
          refine bodyPost_ret (results_none rfl _ _ _) rfl ?_
          exact ⟨⟨_, rfl⟩, .inr ⟨_, by rw [List.map_append, ← HP.out, HG.out]; exact List.prefix_rfl, HJX.out⟩⟩
      · obtain rfl : K = 1 := by omega
        have hl1 : 1 ≤ rs.length := by omega
        have hc1 : 1 ≤ c1 := by omega
        clear hg
        by_cases hend : rs.length ≤ 1
        · have HG := Lib.hid (show groupsL rs = [rs.take 1] by rw [HK.out]; exact groupsL_end (by rw [← HK.out]; exact hend))
          have hz : rs.length - 1 = 0 := by omega
          clear HK
          gi_wp2_with (refine ⟨trivial, fun h => (by simp [Fence.wide] at h), ?_⟩; gi_at_call 34; refine (callsIn_wide.2 HFIT.out).mono ?_; rintro e w1 ⟨rfl, hb1⟩; have hJ1 := HJ.out pre wr w1 none HJs.out (grown_none hb1) (fun r h => by cases h); have hR1 := rr_below HR.out hb1 (Nat.le_refl _); obtain ⟨fn, tmps, assign, body, hy, hRd⟩ := HY.out pre ⟨(.slice A1 1 c1, rs.take 1), fun X h => rr_take (HS.out X h) (by omega)⟩ w1 hJ1 (by omega); dsimp only at hy; have HRD := Lib.hid hRd; have HR1 := Lib.hid hR1; clear hRd hR1 hJ1 hb1)
          refine ⟨fun h => (by simp [Fence.wide] at h), HRD.out.mono ?_⟩
          rintro e W3 (⟨rfl, hJ3, hk3⟩ | ⟨rfl, hJx3⟩)
          · have HJ3 := Lib.hid hJ3
            have HR3 := Lib.hid (hk3 HR1.out)
            clear hJ3 hk3
            gi_wp2
            all_goals
              refine bodyPost_ret (results_none rfl _ _ _) rfl ?_
              exact ⟨⟨_, rfl⟩, .inl ⟨_, by rw [List.map_append, ← HP.out, HG.out]; rfl, HJ3.out⟩⟩
          · have HJX := Lib.hid hJx3
            clear hJx3
            gi_wp2
            refine bodyPost_ret (results_none rfl _ _ _) rfl ?_
            exact ⟨⟨_, rfl⟩, .inr ⟨_, by rw [List.map_append, ← HP.out, HG.out]; exact List.prefix_rfl, HJX.out⟩⟩
        · have HG := Lib.hid (show groupsL rs = rs.take 1 :: groupsL (rs.drop 1) by rw [HK.out]; exact groupsL_more (by rw [← HK.out]; exact hend))
          have hz' : (((rs.length - 1 : Nat) : Int) == 0) = false := by rw [beq_eq_false_iff_ne]; omega
          clear HK
          gi_wp2_with (refine ⟨trivial, fun h => (by simp [Fence.wide] at h), ?_⟩; gi_at_call 34; refine (callsIn_wide.2 HFIT.out).mono ?_; rintro e w1 ⟨rfl, hb1⟩; have hJ1 := HJ.out pre wr w1 none HJs.out (grown_none hb1) (fun r h => by cases h); have hR1 := rr_below HR.out hb1 (Nat.le_refl _); obtain ⟨fn, tmps, assign, body, hy, hRd⟩ := HY.out pre ⟨(.slice A1 1 c1, rs.take 1), fun X h => rr_take (HS.out X h) (by omega)⟩ w1 hJ1 (by omega); dsimp only at hy; have HRD := Lib.hid hRd; have HR1 := Lib.hid hR1; clear hRd hR1 hJ1 hb1)
          refine ⟨fun h => (by simp [Fence.wide] at h), HRD.out.mono ?_⟩
          rintro e W3 (⟨rfl, hJ3, hk3⟩ | ⟨rfl, hJx3⟩)
          · have HJ3 := Lib.hid hJ3
            have HR3 := Lib.hid (hk3 HR1.out)
            clear hJ3 hk3
            gi_wp2
            go_roundw
            case rel => exact ⟨_, rs.drop 1, fun X h => by
            have h5 := rr_cut (HS.out X h) (K := 1) (by omega)
            rw [if_neg (show ¬ c1 = 1 by omega)] at h5
            first | exact h5 | (rw [if_neg (show ¬ c1 = 1 by omega)]; exact h5), HR3.out, HJ3.out, by rw [List.map_append, ← HP.out, HG.out, List.append_assoc]; rfl, by rw [List.length_append, List.length_drop]; simp; omega⟩
            case measure => simp [vlen]; omega
          · have HJX := Lib.hid hJx3
            clear hJx3
            gi_wp2
            refine bodyPost_ret (results_none rfl _ _ _) rfl ?_
            exact ⟨⟨_, rfl⟩, .inr ⟨_, by rw [List.map_append, ← HP.out, HG.out]; exact List.prefix_append_right_inj _ |>.2 ⟨_, rfl⟩, HJX.out⟩⟩
end Go.Proofs.Ytbacdeogggcbfaa

/-
  What the program's Build holds while it goes from level to level; the marks of its loops over a function.
-/
namespace Go.Pg
/-- The rows above pages: of those that have rows. -/
def abovP (from_ : Nat) (cs : List (List Rw)) : List Rw := (cs.zipIdx.filter fun x => !x.1.isEmpty).map fun x => (headKey x.1, Go.Rst.numL (from_ + x.2))
theorem abovP_snoc (from_ : Nat) (cs : List (List Rw)) (c : List Rw) : abovP from_ (cs ++ [c]) = abovP from_ cs ++ (if c = [] then [] else [(headKey c, Go.Rst.numL (from_ + cs.length))]) := by
  unfold abovP
  rw [List.zipIdx_append, List.filter_append, List.map_append]
  cases c <;> simp
theorem abovP_full {from_ : Nat} {cs : List (List Rw)} (h : ∀ c ∈ cs, c ≠ []) : abovP from_ cs = aboveF from_ cs := by
  unfold abovP aboveF
  rw [List.filter_eq_self.2]
  intro x hx
  have := h x.1 (by
    obtain ⟨i, j⟩ := x
    exact List.fst_mem_of_mem_zipIdx hx)
  cases hc : x.1 with
  | nil => exact (this hc).elim
  | cons a b => rfl
theorem abovP_len (from_ : Nat) (cs : List (List Rw)) : (abovP from_ cs).length ≤ cs.length := by
  unfold abovP
  rw [List.length_map]
  exact Nat.le_trans (List.length_filter_le _ _) (by simp)
theorem abovP_one (from_ : Nat) (l : List Rw) : (abovP from_ (groupsL l)).length ≤ 1 ↔ (groupsL l).length = 1 := by
  have h1 := groups_pos l
  by_cases hl : l = []
  · subst hl
    rw [groups_nil]
    exact ⟨fun _ => rfl, fun _ => abovP_len _ _⟩
  · rw [abovP_full (groups_ne hl), above_len]
    omega
theorem abovP_more {from_ : Nat} {l : List Rw} (h : ¬ (groupsL l).length = 1) : abovP from_ (groupsL l) = aboveF from_ (groupsL l) :=
  abovP_full (groups_ne (fun e => h (by subst e; rfl)))
end Go.Pg
namespace Go.Proofs.Ytbacdeogggcbfaa
open Go.RowKit Go.Rst Go.Pg Go.Crc Go.Shelf

/-- Cells of which p holds lie as they lay. -/
structure KX (p : Nat → TypeId → Prop) (w w' : World) : Prop where
  size : w.heap.size ≤ w'.heap.size
  same : ∀ (k : Nat) (cs : Array Value) (t : TypeId) (f : Nat × Nat), p k t → w.heap[k]? = some (.cells cs t f) → w'.heap[k]? = some (.cells cs t f)
theorem KX.of_grown {p : Nat → TypeId → Prop} {w w' : World} {row : Option Nat} (hg : w.grownBy w' row) (hr : ∀ r, row = some r → ∃ o : Obj, w.heap[r]? = some o ∧ o.isCells = false) : KX p w w' := by
  refine ⟨hg.size, fun k cs t f _ hk => (hg.block k (Array.getElem?_eq_some_iff.1 hk).1 (fun he => ?_)).trans hk⟩
  obtain ⟨o, ho, hc⟩ := hr k he.symm
  rw [hk] at ho
  cases ho
  cases hc
theorem KX.below {p : Nat → TypeId → Prop} {w w' : World} (h : Below w.heap.size w w') : KX p w w' := ⟨h.size, fun k _ _ _ _ hk => (h.block k (Array.getElem?_eq_some_iff.1 hk).1).trans hk⟩
theorem KX.own {p : Nat → TypeId → Prop} {w w' : World} (h : KX p w w') {base size n : Nat} {e : TypeId} {v : Value} {xs : List Value} (ho : w.ownsRow base e size v n xs) (hp : ∀ g, v.ownBlock = some g → p g e) : w'.ownsRow base e size v n xs := by
  refine ⟨ho.1, ?_⟩
  rcases ho.2 with h0 | ⟨g, cap, cur, rfl, hb, hg, rest⟩
  · exact .inl h0
  · exact .inr ⟨g, cap, cur, rfl, hb, h.same _ _ _ _ (hp g rfl) hg, rest⟩
theorem KX.fb {p : Nat → TypeId → Prop} {w w' : World} (h : KX p w w') {base : Nat} {e : TypeId} {v : Value} {l : List UInt8} (hp : ∀ g, p g e) (hf : FB e w base v l) : FB e w' base v l :=
  hf.block_ fun _ _ _ hg => h.same _ _ _ _ (hp _) hg
theorem KX.boxed {p : Nat → TypeId → Prop} {w w' : World} (h : KX p w w') {B : Nat} {t : TypeId} {v : Value} (hp : p B t) (hb : Boxed w B t v) : Boxed w' B t v := h.same _ _ _ _ hp hb
theorem KX.op {p : Nat → TypeId → Prop} {w w' : World} (h : KX p w w') {base : Nat} {e eP : TypeId} {v : Value} {ps : List (List UInt8)} (h5 : ∀ g, p g e) (hp : ∀ g, p g eP) (ho : OP e eP w base v ps) : OP e eP w' base v ps := by
  obtain ⟨us, hu, ho, hf⟩ := ho
  exact ⟨us, hu, h.own ho (fun g _ => hp g), fun x hx => h.fb h5 (hf x hx)⟩
theorem KX.or_ {p : Nat → TypeId → Prop} {w w' : World} (h : KX p w w') {base : Nat} {e eR : TypeId} {v : Value} {rs : List Rw} (h5 : ∀ g, p g e) (hp : ∀ g, v.ownBlock = some g → p g eR) (ho : OR e eR w base v rs) : OR e eR w' base v rs := by
  obtain ⟨us, hu, ho, hf⟩ := ho
  exact ⟨us, hu, h.own ho hp, fun x hx => h.fb h5 (hf x hx)⟩
/-- An append onto a row in a box, and the store into it. -/
theorem appended_kx {W w1 : World} {n₀ B : Nat} {t e : TypeId} {size : Nat} {v v' : Value} {k m : Nat} {xs ys : List Value} {tmp : Obj}
    (hv : Boxed W B t v) (hte : t ≠ e) (hrow : W.ownsRow n₀ e size v k xs) (hn₀ : n₀ ≤ W.heap.size) (hB : n₀ ≤ B)
    (hown' : w1.ownsRow n₀ e size v' m ys) (hgrow : (W.alloc tmp).grownBy w1 v.ownBlock) : KX (fun k t' => (t' ≠ e ∧ t' ≠ t) ∨ k < n₀) W (w1.setCell ⟨B, 0, none⟩ v') := by
  obtain ⟨hb1, _, _, _, hbel⟩ := hv.appended hte hrow hn₀ hB hown' hgrow
  refine ⟨hbel.size, fun k cs t' f hp hk => ?_⟩
  rcases hp with ⟨h1, h2⟩ | hlt
  · have hk1 : w1.heap[k]? = some (.cells cs t' f) := by
      have hka : (W.alloc tmp).heap[k]? = some (.cells cs t' f) := (Below.heap_alloc W tmp k (Array.getElem?_eq_some_iff.1 hk).1).trans hk
      refine (hgrow.block k (Array.getElem?_eq_some_iff.1 hka).1 (fun he => ?_)).trans hka
      rcases hrow.2 with ⟨rfl, _⟩ | ⟨g, cap, cur, rfl, _, hgb, _⟩
      · simp [Value.ownBlock] at he
      · obtain rfl : k = g := by simpa [Value.ownBlock] using he
        rw [hk] at hgb
        injection hgb with hgb
        injection hgb with _ h3 _
        exact h1 h3
    refine (Below.heap_setCell w1 _ v' k (fun he => ?_)).trans hk1
    have he' : k = B := he
    subst he'
    have := (show w1.heap[k]? = _ from hb1).symm.trans hk1
    injection this with this
    injection this with _ h3 _
    exact h2 h3.symm
  · exact (hbel.block k hlt).trans hk

theorem appended_kx1 {W w1 : World} {n₀ : Nat} {e : TypeId} {size : Nat} {v : Value} {k : Nat} {xs : List Value} {tmp : Obj}
    (hrow : W.ownsRow n₀ e size v k xs) (hgrow : (W.alloc tmp).grownBy w1 v.ownBlock) : KX (fun k t' => t' ≠ e ∨ k < n₀) W w1 := by
  refine ⟨Nat.le_trans (by simp) hgrow.size, fun k cs t' f hp hk => ?_⟩
  have hka : (W.alloc tmp).heap[k]? = some (.cells cs t' f) := (Below.heap_alloc W tmp k (Array.getElem?_eq_some_iff.1 hk).1).trans hk
  refine (hgrow.block k (Array.getElem?_eq_some_iff.1 hka).1 (fun he => ?_)).trans hka
  rcases hrow.2 with ⟨rfl, _⟩ | ⟨g, cap, cur, rfl, hbg, hgb, _⟩
  · simp [Value.ownBlock] at he
  · obtain rfl : k = g := by simpa [Value.ownBlock] using he
    rcases hp with h1 | h1
    · rw [hk] at hgb
      injection hgb with hgb
      injection hgb with _ h3 _
      exact h1 h3
    · omega
/-- What a region of a round reads: the rows that are being laid, and the pages. -/
def SR (lv : Value) (rest : List Rw) (B : Nat) (pv : Value) (X : World) : Prop := RR X lv rest ∧ Boxed X B 33 pv
theorem SR.below {lv : Value} {rest : List Rw} {B : Nat} {pv : Value} {X Y : World} (h : SR lv rest B pv X) (hb : Below X.heap.size X Y) : SR lv rest B pv Y := ⟨rr_below h.1 hb (Nat.le_refl _), (KX.below (p := fun _ _ => True) hb).boxed trivial h.2⟩
/-- The state of Build: the pages so far, the rows above, the rows that are being laid. -/
structure St (w0 : World) (B Bl Ba lev base : Nat) (lv : Value) (rest : List Rw) (all : List (List UInt8)) (ab : List Rw) (pv av : Value) (W : World) : Prop where
  bp : Boxed W B 33 pv
  bl : Boxed W Bl 3 (.int .i64 lev)
  ba : Boxed W Ba 22 av
  op : OP 5 23 W w0.heap.size pv all
  oa : OR 5 25 W base av ab
  ei : RR w0 lv rest ∨ (OR 5 25 W w0.heap.size lv rest ∧ ∀ g, lv.ownBlock = some g → g < base)
  be : Below w0.heap.size w0 W
  hB : w0.heap.size ≤ B
  hA : base ≤ Ba
  hb : w0.heap.size ≤ base
  hs : base ≤ W.heap.size
section
variable {w0 : World} {B Bl Ba lev base : Nat} {lv : Value} {rest : List Rw} {all : List (List UInt8)} {ab : List Rw} {pv av : Value} {W W' : World}
theorem St.keep (h : St w0 B Bl Ba lev base lv rest all ab pv av W) (hk : KX (fun _ _ => True) W W') (hb : Below w0.heap.size w0 W') : St w0 B Bl Ba lev base lv rest all ab pv av W' where
  bp := hk.boxed trivial h.bp
  bl := hk.boxed trivial h.bl
  ba := hk.boxed trivial h.ba
  op := hk.op (fun _ => trivial) (fun _ => trivial) h.op
  oa := hk.or_ (fun _ => trivial) (fun _ _ => trivial) h.oa
  ei := h.ei.imp id fun h => ⟨hk.or_ (fun _ => trivial) (fun _ _ => trivial) h.1, h.2⟩
  be := hb
  hB := h.hB
  hA := h.hA
  hb := h.hb
  hs := Nat.le_trans h.hs hk.size
theorem St.below (h : St w0 B Bl Ba lev base lv rest all ab pv av W) (hb : Below W.heap.size W W') : St w0 B Bl Ba lev base lv rest all ab pv av W' := h.keep (KX.below hb) (h.be.trans (hb.mono h.be.size))
theorem St.rr (h : St w0 B Bl Ba lev base lv rest all ab pv av W) : RR W lv rest := by
  rcases h.ei with h1 | ⟨h1, _⟩
  · exact rr_below h1 h.be (Nat.le_refl _)
  · exact h1.rr
theorem St.pushA (h : St w0 B Bl Ba lev base lv rest all ab pv av W) {us : List (ByteArray × List UInt8 × Value)} (hus : us.map (fun x => (x.1, x.2.1)) = ab) (ho : W.ownsRow base 25 2 av us.length (rowCells us)) (hf : ∀ x ∈ us, FB 5 W base x.2.2 x.2.1)
    {tmp : Obj} {w1 : World} {v' u : Value} {k : ByteArray} {l : List UInt8} (hu : FB 5 W base u l) (ho' : w1.ownsRow base 25 2 v' (us.length + 1) (rowCells us ++ [.string k, u])) (hg : (W.alloc tmp).grownBy w1 av.ownBlock) :
    Boxed w1 Ba 22 av ∧ SR lv rest B pv w1 ∧ St w0 B Bl Ba lev base lv rest all (ab ++ [(k, l)]) pv v' (w1.setCell ⟨Ba, 0, none⟩ v') ∧ KeepsOthers W (w1.setCell ⟨Ba, 0, none⟩ v') ∧ Below w0.heap.size W (w1.setCell ⟨Ba, 0, none⟩ v') := by
  obtain ⟨hb1, hb2, hr, hko, hbel⟩ := h.ba.appended (by decide) ho h.hs h.hA ho' hg
  have hkx := appended_kx h.ba (by decide) ho h.hs h.hA ho' hg
  have h5 : ∀ g : Nat, ((5 : TypeId) ≠ 25 ∧ (5 : TypeId) ≠ 22) ∨ g < base := fun _ => .inl (by decide)
  have hk1 := appended_kx1 ho hg
  have h51 : ∀ g : Nat, ((5 : TypeId) ≠ 25) ∨ g < base := fun _ => .inl (by decide)
  refine ⟨hb1, ⟨?_, hk1.boxed (.inl (by decide)) h.bp⟩, ⟨hkx.boxed (.inl (by decide)) h.bp, hkx.boxed (.inl (by decide)) h.bl, hb2, hkx.op h5 (fun _ => .inl (by decide)) h.op, ⟨us ++ [(k, l, u)], by rw [List.map_append, hus]; rfl, ?_, fun x hx => ?_⟩,
    h.ei.imp id fun h6 => ⟨hkx.or_ h5 (fun g hg => .inr (h6.2 g hg)) h6.1, h6.2⟩, h.be.trans (hbel.mono h.hb), h.hB, h.hA, h.hb, Nat.le_trans h.hs hbel.size⟩, hko, hbel.mono h.hb⟩
  · rcases h.ei with h6 | h6
    · have hbw : Below base W w1 := ((Below.refl base W).alloc h.hs tmp).grown hg (Nat.le_trans h.hs (by simp)) (fun k hk => by
        rcases ho.2 with ⟨rfl, _⟩ | ⟨g, cap, cur, rfl, hbg, _⟩
        · simp [Value.ownBlock] at hk
        · obtain rfl : g = k := by simpa [Value.ownBlock] using hk
          exact hbg)
      exact rr_below h6 (h.be.trans (hbw.mono h.hb)) (Nat.le_refl _)
    · exact (hk1.or_ h51 (fun g hg => .inr (h6.2 g hg)) h6.1).rr
  · unfold rowCells at hr ⊢
    rw [List.length_append, List.flatMap_append]
    exact hr
  · rcases List.mem_append.1 hx with hx | hx
    · exact hkx.fb h5 (hf x hx)
    · simp at hx
      subst hx
      exact hkx.fb h5 hu
theorem St.pushP (h : St w0 B Bl Ba lev base lv rest all ab pv av W) {us : List (List UInt8 × Value)} (hus : us.map (·.1) = all) (ho : W.ownsRow w0.heap.size 23 1 pv us.length (us.map (·.2))) (hf : ∀ x ∈ us, FB 5 W w0.heap.size x.2 x.1)
    {tmp : Obj} {w1 : World} {v' u : Value} {l : List UInt8} (hu : FB 5 W w0.heap.size u l) (ho' : w1.ownsRow w0.heap.size 23 1 v' (us.length + 1) (us.map (·.2) ++ [u])) (hg : (W.alloc tmp).grownBy w1 pv.ownBlock) :
    Boxed w1 B 33 pv ∧ St w0 B Bl Ba lev base lv rest (all ++ [l]) ab v' av (w1.setCell ⟨B, 0, none⟩ v') ∧ KeepsOthers W (w1.setCell ⟨B, 0, none⟩ v') ∧ Below w0.heap.size W (w1.setCell ⟨B, 0, none⟩ v') := by
  obtain ⟨hb1, hb2, hr, hko, hbel⟩ := h.bp.appended (by decide) ho h.be.size h.hB ho' hg
  have hkx := appended_kx h.bp (by decide) ho h.be.size h.hB ho' hg
  have h5 : ∀ g : Nat, ((5 : TypeId) ≠ 23 ∧ (5 : TypeId) ≠ 33) ∨ g < w0.heap.size := fun _ => .inl (by decide)
  refine ⟨hb1, ⟨hb2, hkx.boxed (.inl (by decide)) h.bl, hkx.boxed (.inl (by decide)) h.ba, ⟨us ++ [(l, u)], by rw [List.map_append, hus]; rfl, ?_, fun x hx => ?_⟩, hkx.or_ h5 (fun _ _ => .inl (by decide)) h.oa,
    h.ei.imp id fun h6 => ⟨hkx.or_ h5 (fun _ _ => .inl (by decide)) h6.1, h6.2⟩, h.be.trans hbel, h.hB, h.hA, h.hb, Nat.le_trans h.hs hbel.size⟩, hko, hbel⟩
  · rw [List.map_append, List.length_append]
    exact hr
  · rcases List.mem_append.1 hx with hx | hx
    · exact hkx.fb h5 (hf x hx)
    · simp at hx
      subst hx
      exact hkx.fb h5 hu
end

/-- The marks of loops that have been gone through. -/
def Marks (base hi : Nat) (W : World) : List Deferred → Prop
  | [] => True
  | d :: ds => (∃ D, d = { target := .collected D, args := #[] } ∧ base ≤ D ∧ D < hi ∧ W.heap[D]? = some (.deferred (some [])) ∧ ∀ d' ∈ ds, d' ≠ d) ∧ Marks base hi W ds
theorem Marks.keep {base hi : Nat} {W W' : World} : ∀ {ds : List Deferred}, Marks base hi W ds → (∀ D, D < hi → W.heap[D]? = some (.deferred (some [])) → W'.heap[D]? = some (.deferred (some []))) → Marks base hi W' ds
  | [], _, _ => trivial
  | _ :: _, ⟨⟨D, h1, h2, h3, h4, h5⟩, hr⟩, hk => ⟨⟨D, h1, h2, h3, hk D h3 h4, h5⟩, hr.keep hk⟩
theorem Marks.wide {base hi hi' : Nat} {W : World} (hh : hi ≤ hi') : ∀ {ds : List Deferred}, Marks base hi W ds → Marks base hi' W ds
  | [], _ => trivial
  | _ :: _, ⟨⟨D, h1, h2, h3, h4, h5⟩, hr⟩ => ⟨⟨D, h1, h2, by omega, h4, h5⟩, hr.wide hh⟩
theorem Marks.ne {base hi : Nat} {W : World} {D : Nat} (hD : hi ≤ D) : ∀ {ds : List Deferred}, Marks base hi W ds → ∀ d ∈ ds, d ≠ { target := .collected D, args := #[] }
  | [], _, _, h => by cases h
  | _ :: ds, ⟨⟨D', h1, h2, h3, h4, h5⟩, hr⟩, d, hd => by
    rcases List.mem_cons.1 hd with rfl | hd
    · rw [h1]
      intro e
      injection e with e _
      injection e with e
      omega
    · exact hr.ne hD d hd
theorem Marks.far {base hi : Nat} {W : World} {D : Nat} (o : Obj) : ∀ {ds : List Deferred}, Marks base hi W ds → (∀ d ∈ ds, d ≠ { target := .collected D, args := #[] }) → Marks base hi (W.putObj D o) ds
  | [], _, _ => trivial
  | _ :: _, ⟨⟨D', h1, h2, h3, h4, h5⟩, hr⟩, hn => by
    refine ⟨⟨D', h1, h2, h3, (World.putObj_heap_other (fun e => ?_)).trans h4, h5⟩, hr.far o (fun d hd => hn d (List.mem_cons_of_mem _ hd))⟩
    exact hn _ (List.mem_cons_self) (by rw [h1]; subst e; rfl)
theorem KX.trans {p : Nat → TypeId → Prop} {A B C : World} (h : KX p A B) (k : KX p B C) : KX p A C := ⟨Nat.le_trans h.size k.size, fun i cs t f hp hi => k.same i cs t f hp (h.same i cs t f hp hi)⟩
theorem leaves_marks {F : Fence} {n : Nat} {P : Program} {fn : Func} {tmps : Array Value} {R : Ending → World → Prop} {base hi : Nat} : ∀ {ds : List Deferred} {W : World}, Marks base hi W ds →
    (∀ W', KX (fun _ _ => True) W W' → Below base W W' → ∃ v, (results fn tmps).run P W' = .ok v W' ∧ R (.returned v) W') → LeavesInM F n P fn tmps R ds .returning W
  | [], W, _, h => h W (KX.below (Below.refl _ _)) (Below.refl _ _)
  | _ :: ds, W, ⟨⟨D, rfl, h2, h3, h4, h5⟩, hr⟩, h => by
    refine ⟨by simp, .inl ⟨D, _, rfl, run_takeDeferred h4, ?_⟩⟩
    refine leaves_marks (base := base) (hi := hi) (hr.far _ h5) (fun W' hk hb => h W' (KX.trans (KX.of_grown (grownBy_putObj' W D _) (fun r e => by cases e; exact ⟨_, h4, rfl⟩)) hk) (Below.trans ?_ hb))
    exact ⟨rfl, rfl, rfl, by simp, fun k hk => World.putObj_heap_other (by omega)⟩
end Go.Proofs.Ytbacdeogggcbfaa

/-
  One round of the program's loop over groups of rows.
-/
namespace Go.Proofs.Ytbacdeogggcbfaa
open Go.RowKit Go.Rst Go.Pg Go.Crc Go.Shelf
attribute [local go_sem] Oper.semAt_some

def lvBody : Code := (Code.block 3 ((Code.region 10 #[{ dst := some 25, op := Op.load 3 (Operand.tmp 5), type := 3, pos := "tree.go:22", after := #[], guard := none }, { dst := some 26, op := Op.move (Operand.tmp 7), type := 22, pos := "tree.go:22", after := #[], guard := none }, { dst := some 27, op := Op.call { callee := Callee.value (Operand.func 25), args := #[Operand.tmp 25, Operand.tmp 26], argTypes := #[3, 22] }, type := 52, pos := "tree.go:22", after := #[{ on := 0, ground := Ground.data }, { on := 1, ground := Ground.data }], guard := none }, { dst := some 24, op := Op.move (Operand.tmp 27), type := 52, pos := "tree.go:22", after := #[{ on := 2, ground := Ground.data }], guard := none }, { dst := some 28, op := Op.extract (Operand.tmp 24) 0, type := 23, pos := "tree.go:22", after := #[{ on := 3, ground := Ground.data }], guard := none }, { dst := some 29, op := Op.extract (Operand.tmp 24) 1, type := 4, pos := "tree.go:22", after := #[{ on := 3, ground := Ground.data }, { on := 6, ground := Ground.gcOnly Departure.lateStores }], guard := none }, { dst := some 8, op := Op.assign (Operand.tmp 28), type := 23, pos := "tree.go:22", after := #[{ on := 4, ground := Ground.data }, { on := 2, ground := Ground.chain }, { on := 0, ground := Ground.phase }, { on := 1, ground := Ground.phase }, { on := 2, ground := Ground.phase }, { on := 3, ground := Ground.phase }, { on := 4, ground := Ground.phase }, { on := 5, ground := Ground.textOnly Departure.lateStores }], guard := none }, { dst := some 9, op := Op.assign (Operand.tmp 29), type := 4, pos := "tree.go:22", after := #[{ on := 5, ground := Ground.data }, { on := 6, ground := Ground.chain }, { on := 0, ground := Ground.phase }, { on := 1, ground := Ground.phase }, { on := 2, ground := Ground.phase }, { on := 3, ground := Ground.phase }, { on := 4, ground := Ground.phase }, { on := 5, ground := Ground.phase }, { on := 6, ground := Ground.phase }], guard := none }] false).seq (((Code.region 11 #[{ dst := some 30, op := Op.move (Operand.tmp 9), type := 4, pos := "tree.go:23", after := #[], guard := none }, { dst := some 31, op := Op.unOp UnOp.not 4 (Operand.tmp 30), type := 4, pos := "tree.go:23", after := #[{ on := 0, ground := Ground.data }], guard := none }] false).seq (Code.cond (Operand.tmp 31) (Code.exit 0) Code.skip)).seq (((Code.region 12 #[{ dst := some 32, op := Op.move (Operand.tmp 7), type := 22, pos := "tree.go:26", after := #[], guard := none }, { dst := some 33, op := Op.call { callee := Callee.builtin Builtin.len, args := #[Operand.tmp 32], argTypes := #[22] }, type := 3, pos := "tree.go:26", after := #[{ on := 0, ground := Ground.data }], guard := none }, { dst := some 34, op := Op.binOp BinOp.gtr 3 (Operand.tmp 33) (Operand.const (Value.int IntKind.i64 0)) 3, type := 4, pos := "tree.go:26", after := #[{ on := 1, ground := Ground.data }], guard := none }] false).seq (Code.cond (Operand.tmp 34) (Code.region 13 #[{ dst := some 35, op := Op.load 22 (Operand.tmp 6), type := 22, pos := "tree.go:27", after := #[], guard := none }, { dst := some 36, op := Op.move (Operand.tmp 7), type := 22, pos := "tree.go:27", after := #[], guard := none }, { dst := some 37, op := Op.indexAddr 22 (Operand.tmp 36) (Operand.const (Value.int IntKind.i64 0)), type := 0, pos := "tree.go:27", after := #[{ on := 1, ground := Ground.data }], guard := none }, { dst := some 38, op := Op.fieldAddr 25 (Operand.tmp 37) 0, type := 0, pos := "tree.go:27", after := #[{ on := 2, ground := Ground.data }], guard := none }, { dst := some 39, op := Op.load 9 (Operand.tmp 38), type := 9, pos := "tree.go:27", after := #[{ on := 3, ground := Ground.data }], guard := none }, { dst := some 40, op := Op.load 33 (Operand.tmp 4), type := 33, pos := "tree.go:27", after := #[], guard := none }, { dst := some 41, op := Op.call { callee := Callee.builtin Builtin.len, args := #[Operand.tmp 40], argTypes := #[33] }, type := 3, pos := "tree.go:27", after := #[{ on := 5, ground := Ground.data }], guard := none }, { dst := some 42, op := Op.call { callee := Callee.value (Operand.func 26), args := #[Operand.tmp 41], argTypes := #[3] }, type := 23, pos := "tree.go:27", after := #[{ on := 6, ground := Ground.data }], guard := none }, { dst := some 43, op := Op.build 25 #[(0, Operand.tmp 39), (1, Operand.tmp 42)], type := 25, pos := "tree.go:27", after := #[{ on := 4, ground := Ground.data }, { on := 7, ground := Ground.data }], guard := none }, { dst := some 44, op := Op.buildSlice 22 1 #[(0, Operand.tmp 43)], type := 22, pos := "tree.go:27", after := #[{ on := 8, ground := Ground.data }], guard := none }, { dst := some 45, op := Op.call { callee := Callee.builtin Builtin.append, args := #[Operand.tmp 35, Operand.tmp 44], argTypes := #[22, 22] }, type := 22, pos := "tree.go:27", after := #[{ on := 0, ground := Ground.data }, { on := 9, ground := Ground.data }, { on := 7, ground := Ground.chain }], guard := none }, { dst := none, op := Op.store 22 (Operand.tmp 6) (Operand.tmp 45), type := 0, pos := "tree.go:27", after := #[{ on := 10, ground := Ground.data }, { on := 10, ground := Ground.chain }, { on := 0, ground := Ground.phase }, { on := 1, ground := Ground.phase }, { on := 2, ground := Ground.phase }, { on := 3, ground := Ground.phase }, { on := 4, ground := Ground.phase }, { on := 5, ground := Ground.phase }, { on := 6, ground := Ground.phase }, { on := 7, ground := Ground.phase }, { on := 8, ground := Ground.phase }, { on := 9, ground := Ground.phase }, { on := 10, ground := Ground.phase }], guard := none }] true) Code.skip)).seq (Code.region 14 #[{ dst := some 46, op := Op.load 33 (Operand.tmp 4), type := 33, pos := "tree.go:29", after := #[], guard := none }, { dst := some 47, op := Op.move (Operand.tmp 8), type := 23, pos := "tree.go:29", after := #[], guard := none }, { dst := some 48, op := Op.buildSlice 33 1 #[(0, Operand.tmp 47)], type := 33, pos := "tree.go:29", after := #[{ on := 1, ground := Ground.data }], guard := none }, { dst := some 49, op := Op.call { callee := Callee.builtin Builtin.append, args := #[Operand.tmp 46, Operand.tmp 48], argTypes := #[33, 33] }, type := 33, pos := "tree.go:29", after := #[{ on := 0, ground := Ground.data }, { on := 2, ground := Ground.data }], guard := none }, { dst := none, op := Op.store 33 (Operand.tmp 4) (Operand.tmp 49), type := 0, pos := "tree.go:29", after := #[{ on := 3, ground := Ground.data }, { on := 3, ground := Ground.chain }, { on := 0, ground := Ground.phase }, { on := 1, ground := Ground.phase }, { on := 2, ground := Ground.phase }, { on := 3, ground := Ground.phase }], guard := none }] false)))))

set_option maxRecDepth 100000 in
set_option maxHeartbeats 4000000 in
theorem round_body {l n : Nat} {w0 : World} {B Bl Ba k base : Nat} {lv : Value} {rest : List Rw} {all0 : List (List UInt8)} {cs : List (List Rw)} {Ax : Option Addr} {cx : Nat} {xr : List Rw} {pv av : Value} {W : World} {u0 u1 u2 u3 u8 u9 u10 u11 u12 u13 u14 u15 u16 u17 u18 u19 u20 u21 u22 u23 u24 u25 u26 u27 u28 u29 u30 u31 u32 u33 u34 u35 u36 u37 u38 u39 u40 u41 u42 u43 u44 u45 u46 u47 u48 u49 u50 u51 u52 u53 u54 u55 : Value}
    (_hk : k ≤ 4) (hst : St w0 B Bl Ba k base lv rest (all0 ++ pagesF k cs) (abovP all0.length cs) pv av W) (hx : ∀ X, RR X lv rest → RR X (.slice Ax xr.length cx) xr) (hlen : all0.length + cs.length ≤ 1000000)
    {Q : Exit → Act → World → Prop} (hQo : ∀ a w, ¬ Q .outgrown a w) (hQp : ∀ c a w, ¬ Q (.panic c) a w)
    (hgo : pageOk k xr = true → ∀ W' pv' av' a, St w0 B Bl Ba k base lv rest (all0 ++ pagesF k (cs ++ [xr])) (abovP all0.length (cs ++ [xr])) pv' av' W' → KeepsOthers W W' → Below w0.heap.size W W' → Q .normal a W')
    (hstop : pageOk k xr = false → ∀ W' a, St w0 B Bl Ba k base lv rest (all0 ++ pagesF k cs) (abovP all0.length cs) pv av W' → KeepsOthers W W' → Below w0.heap.size W W' → Q (.exit 0) a W') :
    lvBody.wpIn (Fence.wide.inRound l) n Try.prog Q { tmps := #[u0, u1, u2, u3, .pointer (some ⟨B, 0, none⟩), .pointer (some ⟨Bl, 0, none⟩), .pointer (some ⟨Ba, 0, none⟩), .slice Ax xr.length cx, u8, u9, u10, u11, u12, u13, u14, u15, u16, u17, u18, u19, u20, u21, u22, u23, u24, u25, u26, u27, u28, u29, u30, u31, u32, u33, u34, u35, u36, u37, u38, u39, u40, u41, u42, u43, u44, u45, u46, u47, u48, u49, u50, u51, u52, u53, u54, u55], defers := [] } W := by
  have HST := Lib.hid hst
  have HX := Lib.hid hx
  have HGO := Lib.hid hgo
  have HSTOP := Lib.hid hstop
  have henc := enc_any (k : Int) _ xr W (hx W hst.rr)
  have hcl := hst.bl.cell
  clear hst hx hgo hstop
  unfold GivesEnc at henc
  unfold lvBody
  cases hok : pageOk (k : Int) xr with
  | false =>
    rw [hok] at henc
    have HENC := Lib.hid henc
    have HOK := Lib.hid hok
    clear henc hok
    gi_wp2_with (first | (gi_at_call 25; refine (CallsIn.inRound l (callsIn_wide.2 HENC.out)).mono ?_; rintro e w1 ⟨v1, rfl, ho1, hb1⟩; obtain ⟨A1, c1, rfl, _⟩ := own_shape ho1; have HB1 := Lib.hid hb1; clear ho1 hb1) | (refine ⟨fun h => (by simp [Fence.wide] at h), ?_⟩) | (refine ⟨(show Fence.wide.fn _ from trivial), ?_⟩))
    exact HSTOP.out HOK.out _ _ (HST.out.below HB1.out) (KeepsOthers.of_grownBy (grown_none HB1.out) (fun _ _ h => by cases h)) (HB1.out.mono HST.out.be.size)
  | true =>
    rw [hok] at henc
    have hpl := encL_length hok
    rw [hpl] at henc
    obtain ⟨pg, hpg⟩ : ∃ pg, pg = encL (k : Int) xr := ⟨_, rfl⟩
    have hnew := pages_snoc (k : Int) cs xr
    have hnewa := abovP_snoc all0.length cs xr
    rw [← hpg] at henc hnew hpl
    have HENC := Lib.hid henc
    have HOK := Lib.hid hok
    have HPL := Lib.hid hpl
    have HNEW := Lib.hid hnew
    have HNEWA := Lib.hid hnewa
    clear henc hok hpl hnew hnewa hpg
    obtain ⟨Ap, cp, hpv, hp63, hpc⟩ := HST.out.op.shape
    rw [List.length_append, pages_len] at hpv hpc
    obtain ⟨n0, hn0⟩ : ∃ n0, n0 = all0.length + cs.length := ⟨_, rfl⟩
    rw [← hn0] at hpv hpc hlen HNEWA
    subst hpv
    have HN0 := Lib.hid hn0
    clear hn0
    obtain ⟨i23, hi, hz0, hz1, hz2⟩ := info_parts info23
    by_cases hx0 : xr = []
    · subst hx0
      rw [if_pos rfl, List.append_nil] at HNEWA
      have HENC0 := Lib.hid (show Calls Try.prog 25 #[.int .i64 (k : Int), .slice Ax 0 cx] W _ from HENC.out)
      rw [List.length_nil]
      gi_wp2_with (first | (gi_at_call 25; refine (CallsIn.inRound l (callsIn_wide.2 HENC0.out)).mono ?_; rintro e w1 ⟨v1, rfl, ho1, hb1⟩; have HFB1 := Lib.hid (FB.own (show w1.ownsRow W.heap.size 5 1 v1 pg.length (bvs pg) by rw [HPL.out]; exact ho1)); obtain ⟨A1, c1, rfl, _⟩ := own_shape ho1; have HB1 := Lib.hid hb1; have HST1 := Lib.hid (HST.out.below hb1); obtain ⟨up, hup, hpo, hpf⟩ := HST1.out.op; have HUL := Lib.hid (show up.length = n0 by have h := congrArg List.length hup; rw [List.length_map, List.length_append, pages_len] at h; rw [HN0.out]; exact h); have HUP := Lib.hid hup; have HPO := Lib.hid hpo; have HPF := Lib.hid hpf; have hP := HST1.out.bp.cell; clear hup hpo hpf; clear ho1 hb1) | (gi_at_builtin; refine wpListIn_append_own _ rfl _ _ 33 rfl w0.heap.size 23 i23 (.slice none 0 0) 1 24 Try.underlying33 hi hz0 hz1 hz2 rfl (by decide) _ _ _ rfl (HPO.out.alloc _) ⟨(w1).heap.size, 0, none⟩ 1 1 [.slice A1 256 c1] rfl rfl (cell_one_new _ _ _) (by simp [Value.oneCell']) (by have := HUL.out; unfold maxLen; omega) (by have := HUL.out; omega) (by have := HST1.out.be.size; simp; omega) ?_; intro v8 w8 ho8 hg8 _; obtain ⟨hbx8, hst8, hko8, hbe8⟩ := HST1.out.pushP HUP.out HPO.out HPF.out ((HFB1.out).base_ (base' := w0.heap.size) HST.out.be.size) ho8 hg8; obtain ⟨g8, c8, rfl⟩ := ownsRow_succ ho8; have hc8 := hbx8.cell; have hf8 := hbx8.frozen; have HST8 := Lib.hid hst8; have HKO8 := Lib.hid hko8; have HBE8 := Lib.hid hbe8; clear hst8 hko8 hbe8 ho8 hg8 hbx8) | (refine ⟨fun h => (by simp [Fence.wide] at h), ?_⟩) | (refine ⟨(show Fence.wide.fn _ from trivial), ?_⟩))
      exact HGO.out HOK.out _ _ _ _ (by rw [HNEW.out, HNEWA.out, ← List.append_assoc]; exact HST8.out) ((KeepsOthers.of_grownBy (grown_none HB1.out) (fun _ _ h => by cases h)).trans HKO8.out) ((HB1.out.mono HST.out.be.size).trans HBE8.out)
    · rw [if_neg hx0] at HNEWA
      have hxl : 0 < xr.length := List.length_pos_iff.2 hx0
      obtain ⟨b, off, u, rfl, _, _, _⟩ := rr_at (HX.out W HST.out.rr) hxl
      obtain ⟨ky, hky⟩ : ∃ ky, ky = (xr[0]'hxl).1 := ⟨_, rfl⟩
      have HKEY := Lib.hid (show headKey xr = ky by
        rw [hky]
        cases xr with
        | nil => simp at hxl
        | cons r t => rfl)
      have HXK := Lib.hid (show ∀ X, RR X lv rest → X.cell? ⟨b, off, none⟩ = some (.string ky) by
        intro X hX
        obtain ⟨b', off', u', he, h1, _, _⟩ := rr_at (HX.out X hX) hxl
        injection he with he
        injection he with e1 e2 _
        subst e1
        subst e2
        rw [hky]
        simpa using h1)
      obtain ⟨m0, hm0⟩ : ∃ m0, (abovP all0.length cs).length = m0 := ⟨_, rfl⟩
      have hm1 : m0 ≤ cs.length := by rw [← hm0]; exact abovP_len _ _
      have hm2 : cs.length ≤ 1000000 := by have := HN0.out; omega
      have HAB := Lib.hid hm0
      have HCLIP := Lib.hid (show clip (n0 : Int) = n0 by unfold clip; omega)
      clear hky hm0
      gi_wp2_with (first | (gi_at_call 25; refine (CallsIn.inRound l (callsIn_wide.2 HENC.out)).mono ?_; rintro e w1 ⟨v1, rfl, ho1, hb1⟩; have HFB1 := Lib.hid (FB.own (show w1.ownsRow W.heap.size 5 1 v1 pg.length (bvs pg) by rw [HPL.out]; exact ho1)); obtain ⟨A1, c1, rfl, _⟩ := own_shape ho1; have HB1 := Lib.hid hb1; have HST1 := Lib.hid (HST.out.below hb1); clear ho1 hb1) | (refine ⟨fun h => (by simp [Fence.wide] at h), ?_⟩) | (refine ⟨(show Fence.wide.fn _ from trivial), ?_⟩))
      have HSTD := Lib.hid (HST1.out.below (Below.refl _ _).drew)
      have HFBD := Lib.hid (HFB1.out.below (Below.refl _ _).drew)
      have HSR := Lib.hid (show SR lv rest B (.slice Ap n0 cp) w1.drew from ⟨HSTD.out.rr, HSTD.out.bp⟩)
      have HKO1 := Lib.hid ((KeepsOthers.of_grownBy (grown_none HB1.out) (fun _ _ h => by cases h)).trans (KeepsOthers.drew _))
      have HBE1 := Lib.hid ((HB1.out.trans ((Below.refl _ _).drew)).mono HST.out.be.size)
      have hA := HSTD.out.ba.cell
      refine wpIn_region_round (S := SR lv rest B (.slice Ap n0 cp)) (by kernel_rfl) (by kernel_rfl) (fun a w h => (by simp [Exit.then, Exit.inBlock] at h; exact hQo _ _ h)) HSR.out (fun hHeld => ?_)
      generalize w1.drew = wd at *
      refine wpAnyH_take (i := 1) (oi := { dst := some 36, op := Op.move (Operand.tmp 7), type := 22, pos := "tree.go:27", after := #[], guard := none }) (v := ?_) rfl (by kernel_rfl) (by kernel_rfl) (by kernel_rfl) (fun _ _ _ h => (hQp _ _ _ (by simpa [Exit.then, Exit.inBlock] using h)).elim) (Or.inl ⟨by rfl, ?_⟩) (by assumption) ?_
      rotate_left
      · intro X hSw; go_simp; try (with_reducible rfl)
      try simp only [Act.put, List.setIfInBounds_toArray, List.set_cons_zero, List.set_cons_succ]
      refine wpAnyH_take (i := 2) (oi := { dst := some 37, op := Op.indexAddr 22 (Operand.tmp 36) (Operand.const (Value.int IntKind.i64 0)), type := 0, pos := "tree.go:27", after := #[{ on := 1, ground := Ground.data }], guard := none }) (v := ?_) rfl (by kernel_rfl) (by kernel_rfl) (by kernel_rfl) (fun _ _ _ h => (hQp _ _ _ (by simpa [Exit.then, Exit.inBlock] using h)).elim) (Or.inl ⟨by rfl, ?_⟩) (by assumption) ?_
      rotate_left
      · intro X hSw; go_simp; try (with_reducible rfl)
      try simp only [Act.put, List.setIfInBounds_toArray, List.set_cons_zero, List.set_cons_succ]
      refine wpAnyH_take (i := 3) (oi := { dst := some 38, op := Op.fieldAddr 25 (Operand.tmp 37) 0, type := 0, pos := "tree.go:27", after := #[{ on := 2, ground := Ground.data }], guard := none }) (v := ?_) rfl (by kernel_rfl) (by kernel_rfl) (by kernel_rfl) (fun _ _ _ h => (hQp _ _ _ (by simpa [Exit.then, Exit.inBlock] using h)).elim) (Or.inl ⟨by rfl, ?_⟩) (by assumption) ?_
      rotate_left
      · intro X hSw; go_simp; try (with_reducible rfl)
      try simp only [Act.put, List.setIfInBounds_toArray, List.set_cons_zero, List.set_cons_succ]
      refine wpAnyH_take (i := 4) (oi := { dst := some 39, op := Op.load 9 (Operand.tmp 38), type := 9, pos := "tree.go:27", after := #[{ on := 3, ground := Ground.data }], guard := none }) (v := ?_) rfl (by kernel_rfl) (by kernel_rfl) (by kernel_rfl) (fun _ _ _ h => (hQp _ _ _ (by simpa [Exit.then, Exit.inBlock] using h)).elim) (Or.inl ⟨by rfl, ?_⟩) (by assumption) ?_
      rotate_left
      · intro X hSw; have hq := HXK.out X hSw.1; go_simp; try (with_reducible rfl)
      try simp only [Act.put, List.setIfInBounds_toArray, List.set_cons_zero, List.set_cons_succ]
      refine wpAnyH_take (i := 5) (oi := { dst := some 40, op := Op.load 33 (Operand.tmp 4), type := 33, pos := "tree.go:27", after := #[], guard := none }) (v := ?_) rfl (by kernel_rfl) (by kernel_rfl) (by kernel_rfl) (fun _ _ _ h => (hQp _ _ _ (by simpa [Exit.then, Exit.inBlock] using h)).elim) (Or.inl ⟨by rfl, ?_⟩) (by assumption) ?_
      rotate_left
      · intro X hSw; have hq := hSw.2.cell; go_simp; try (with_reducible rfl)
      try simp only [Act.put, List.setIfInBounds_toArray, List.set_cons_zero, List.set_cons_succ]
      refine wpAnyH_take (i := 6) (oi := { dst := some 41, op := Op.call { callee := Callee.builtin Builtin.len, args := #[Operand.tmp 40], argTypes := #[33] }, type := 3, pos := "tree.go:27", after := #[{ on := 5, ground := Ground.data }], guard := none }) (v := ?_) rfl (by kernel_rfl) (by kernel_rfl) (by kernel_rfl) (fun _ _ _ h => (hQp _ _ _ (by simpa [Exit.then, Exit.inBlock] using h)).elim) (Or.inl ⟨by rfl, ?_⟩) (by assumption) ?_
      rotate_left
      · intro X hSw; go_simp; try (with_reducible rfl)
      try simp only [Act.put, List.setIfInBounds_toArray, List.set_cons_zero, List.set_cons_succ]
      refine wpAnyH_ready (rs := [0, 7]) (by kernel_rfl) (by simp) ?_
      refine AllReadyH.cons (o := { dst := some 35, op := Op.load 22 (Operand.tmp 6), type := 22, pos := "tree.go:27", after := #[], guard := none }) rfl (fun K hK => ?_) (AllReadyH.cons (o := { dst := some 42, op := Op.call { callee := Callee.value (Operand.func 26), args := #[Operand.tmp 41], argTypes := #[3] }, type := 23, pos := "tree.go:27", after := #[{ on := 6, ground := Ground.data }], guard := none }) rfl (fun K hK => ?_) AllReadyH.nil)
      · go_simp
        refine hK.out _ _ ?_ (fun _ => ?_)
        · assumption
        clear hK K
        try simp only [Act.put, List.setIfInBounds_toArray, List.set_cons_zero, List.set_cons_succ]
        refine wpAnyH_ready (rs := [7]) (by kernel_rfl) (by simp) ?_
        refine AllReadyH.cons (o := { dst := some 42, op := Op.call { callee := Callee.value (Operand.func 26), args := #[Operand.tmp 41], argTypes := #[3] }, type := 23, pos := "tree.go:27", after := #[{ on := 6, ground := Ground.data }], guard := none }) rfl (fun K hK => ?_) AllReadyH.nil
        go_simp
        refine (num_any _ _).mono ?_
        rintro e w4 ⟨v4, rfl, ho4, hb4⟩
        rw [HCLIP.out] at ho4
        have HFB4 := Lib.hid (FB.own ho4)
        obtain ⟨A4, c4, rfl, _⟩ := own_shape ho4
        have hHeld4 : SR lv rest B (.slice Ap n0 cp) w4 := hHeld.below hb4
        have HST4 := Lib.hid (HSTD.out.below hb4)
        have HFB14 := Lib.hid (HFBD.out.below hb4)
        have hA := HST4.out.ba.cell
        have HKO4 := Lib.hid (KeepsOthers.of_grownBy (grown_none hb4) (fun _ _ h => (by cases h)))
        have HBE4 := Lib.hid (hb4.mono HSTD.out.be.size)
        simp only []
        refine hK.out _ _ ?_ (fun _ => ?_)
        · exact hHeld4
        clear hK K hHeld hb4 ho4
        try simp only [Act.put, List.setIfInBounds_toArray, List.set_cons_zero, List.set_cons_succ]
        refine wpAnyH_take (i := 8) (oi := { dst := some 43, op := Op.build 25 #[(0, Operand.tmp 39), (1, Operand.tmp 42)], type := 25, pos := "tree.go:27", after := #[{ on := 4, ground := Ground.data }, { on := 7, ground := Ground.data }], guard := none }) (v := ?_) rfl (by kernel_rfl) (by kernel_rfl) (by kernel_rfl) (fun _ _ _ h => (hQp _ _ _ (by simpa [Exit.then, Exit.inBlock] using h)).elim) (Or.inl ⟨by rfl, ?_⟩) (by assumption) ?_
        rotate_left
        · intro X hSw; go_simp; try (with_reducible rfl)
        try simp only [Act.put, List.setIfInBounds_toArray, List.set_cons_zero, List.set_cons_succ]
        refine wpAnyH_ready (rs := [9]) (by kernel_rfl) (by simp) ?_
        refine AllReadyH.cons (o := { dst := some 44, op := Op.buildSlice 22 1 #[(0, Operand.tmp 43)], type := 22, pos := "tree.go:27", after := #[{ on := 8, ground := Ground.data }], guard := none }) rfl (fun K hK => ?_) AllReadyH.nil
        go_simp
        have hHeld9 := hHeld4.below ((Below.refl _ _).alloc (Nat.le_refl _) (Obj.cells #[.string ky, .slice A4 (numL n0).length c4] 25))
        have hA := (HST4.out.below ((Below.refl _ _).alloc (Nat.le_refl _) (Obj.cells #[.string ky, .slice A4 (numL n0).length c4] 25))).ba.cell
        refine hK.out _ _ ?_ (fun _ => ?_)
        · exact hHeld9
        clear hK K
        try simp only [Act.put, List.setIfInBounds_toArray, List.set_cons_zero, List.set_cons_succ]
        refine wpAnyH_ready (rs := [10]) (by kernel_rfl) (by simp) ?_
        refine AllReadyH.cons (o := { dst := some 45, op := Op.call { callee := Callee.builtin Builtin.append, args := #[Operand.tmp 35, Operand.tmp 44], argTypes := #[22, 22] }, type := 22, pos := "tree.go:27", after := #[{ on := 0, ground := Ground.data }, { on := 9, ground := Ground.data }, { on := 7, ground := Ground.chain }], guard := none }) rfl (fun K hK => ?_) AllReadyH.nil
        obtain ⟨us, hus, ho, hf⟩ := HST4.out.oa
        have HULA := Lib.hid (show us.length = m0 by have h := congrArg List.length hus; rw [List.length_map] at h; exact h.trans HAB.out)
        have hoA := own_below ho ((Below.refl _ _).alloc (Nat.le_refl _) (Obj.cells #[.string ky, .slice A4 (numL n0).length c4] 25))
        have hss := HST4.out.hs
        refine step_own rfl (.tmp 35) (.tmp 44) 22 22 rfl base 25 (.agg #[.string ⟨#[]⟩, .slice none 0 0]) 2 40 Try.underlying22 info25 rfl rfl hoA rfl (src_two _ (by simp) Try.underlying22 25 _ _ rfl rfl) ((Below.refl base _)) (Nat.le_refl _) ?_ ?_ ?_ ?_
        · have := HULA.out; unfold maxLen; omega
        · have := HULA.out; omega
        · simp; omega
        intro v5 w5 ho5 hb5 hg5
        obtain ⟨hbx, hsr5, hst5, hko5, hbe5⟩ := HST4.out.pushA hus ho hf (HFB4.out.base_ (base' := base) HSTD.out.hs) ho5 hg5
        obtain ⟨g5, c5, rfl⟩ := ownsRow_succ ho5
        have hc5 := hbx.cell
        have hf5 := hbx.frozen
        have HFB6 := Lib.hid (((appended_kx HST4.out.ba (by decide) ho HST4.out.hs HST4.out.hA ho5 hg5).fb (fun _ => .inl (by decide)) HFB14.out).base_ (base' := w0.heap.size) HST.out.be.size)
        have HST5 := Lib.hid hst5
        have HKO5 := Lib.hid (HKO4.out.trans hko5)
        have HBE5 := Lib.hid (HBE4.out.trans hbe5)
        have hHeld5 : SR lv rest B (.slice Ap n0 cp) (w5.setCell ⟨Ba, 0, none⟩ (.slice (some ⟨g5, 0, none⟩) (us.length + 1) c5)) := ⟨hst5.rr, hst5.bp⟩
        refine hK.out _ _ ?_ (fun _ => ?_)
        · exact hsr5
        clear hK K hst5 hko5 hbe5
        try simp only [Act.put, List.setIfInBounds_toArray, List.set_cons_zero, List.set_cons_succ]
        refine wpAnyH_ready (rs := [11]) (by kernel_rfl) (by simp) ?_
        refine AllReadyH.cons (o := { dst := none, op := Op.store 22 (Operand.tmp 6) (Operand.tmp 45), type := 0, pos := "tree.go:27", after := #[{ on := 10, ground := Ground.data }, { on := 10, ground := Ground.chain }, { on := 0, ground := Ground.phase }, { on := 1, ground := Ground.phase }, { on := 2, ground := Ground.phase }, { on := 3, ground := Ground.phase }, { on := 4, ground := Ground.phase }, { on := 5, ground := Ground.phase }, { on := 6, ground := Ground.phase }, { on := 7, ground := Ground.phase }, { on := 8, ground := Ground.phase }, { on := 9, ground := Ground.phase }, { on := 10, ground := Ground.phase }], guard := none }) rfl (fun K hK => ?_) AllReadyH.nil
        go_simp
        refine hK.out _ _ ?_ (fun _ => ?_)
        · exact hHeld5
        clear hK K
        try simp only [Act.put, List.setIfInBounds_toArray, List.set_cons_zero, List.set_cons_succ]
        refine wpAnyH_done (by kernel_rfl) ?_ _
        simp only [Exit.then]
        obtain ⟨up, hup, hpo, hpf⟩ := HST5.out.op; have HUL := Lib.hid (show up.length = n0 by have h := congrArg List.length hup; rw [List.length_map, List.length_append, pages_len] at h; rw [HN0.out]; exact h); have HUP := Lib.hid hup; have HPO := Lib.hid hpo; have HPF := Lib.hid hpf; have hP := HST5.out.bp.cell; clear hup hpo hpf
        generalize w5.setCell ⟨Ba, 0, none⟩ (.slice (some ⟨g5, 0, none⟩) (us.length + 1) c5) = w6 at *
        gi_wp2_with (first | (gi_at_builtin; refine wpListIn_append_own _ rfl _ _ 33 rfl w0.heap.size 23 i23 (.slice none 0 0) 1 24 Try.underlying33 hi hz0 hz1 hz2 rfl (by decide) _ _ _ rfl (HPO.out.alloc _) ⟨(w6).heap.size, 0, none⟩ 1 1 [.slice A1 256 c1] rfl rfl (cell_one_new _ _ _) (by simp [Value.oneCell']) (by have := HUL.out; unfold maxLen; omega) (by have := HUL.out; omega) (by have := HST5.out.be.size; simp; omega) ?_; intro v8 w8 ho8 hg8 _; obtain ⟨hbx8, hst8, hko8, hbe8⟩ := HST5.out.pushP HUP.out HPO.out HPF.out HFB6.out ho8 hg8; obtain ⟨g8, c8, rfl⟩ := ownsRow_succ ho8; have hc8 := hbx8.cell; have hf8 := hbx8.frozen; have HST8 := Lib.hid hst8; have HKO8 := Lib.hid hko8; have HBE8 := Lib.hid hbe8; clear hst8 hko8 hbe8 ho8 hg8 hbx8) | (refine ⟨fun h => (by simp [Fence.wide] at h), ?_⟩) | (refine ⟨(show Fence.wide.fn _ from trivial), ?_⟩))
        exact HGO.out HOK.out _ _ _ _ (by rw [HNEW.out, HNEWA.out, ← List.append_assoc, HKEY.out]; exact HST8.out) (HKO1.out.trans (HKO5.out.trans HKO8.out)) (HBE1.out.trans (HBE5.out.trans HBE8.out))
      · go_simp
        refine (num_any _ _).mono ?_
        rintro e w4 ⟨v4, rfl, ho4, hb4⟩
        rw [HCLIP.out] at ho4
        have HFB4 := Lib.hid (FB.own ho4)
        obtain ⟨A4, c4, rfl, _⟩ := own_shape ho4
        have hHeld4 : SR lv rest B (.slice Ap n0 cp) w4 := hHeld.below hb4
        have HST4 := Lib.hid (HSTD.out.below hb4)
        have HFB14 := Lib.hid (HFBD.out.below hb4)
        have hA := HST4.out.ba.cell
        have HKO4 := Lib.hid (KeepsOthers.of_grownBy (grown_none hb4) (fun _ _ h => (by cases h)))
        have HBE4 := Lib.hid (hb4.mono HSTD.out.be.size)
        simp only []
        refine hK.out _ _ ?_ (fun _ => ?_)
        · exact hHeld4
        clear hK K hHeld hb4 ho4
        try simp only [Act.put, List.setIfInBounds_toArray, List.set_cons_zero, List.set_cons_succ]
        refine wpAnyH_take (i := 8) (oi := { dst := some 43, op := Op.build 25 #[(0, Operand.tmp 39), (1, Operand.tmp 42)], type := 25, pos := "tree.go:27", after := #[{ on := 4, ground := Ground.data }, { on := 7, ground := Ground.data }], guard := none }) (v := ?_) rfl (by kernel_rfl) (by kernel_rfl) (by kernel_rfl) (fun _ _ _ h => (hQp _ _ _ (by simpa [Exit.then, Exit.inBlock] using h)).elim) (Or.inl ⟨by rfl, ?_⟩) (by assumption) ?_
        rotate_left
        · intro X hSw; go_simp; try (with_reducible rfl)
        try simp only [Act.put, List.setIfInBounds_toArray, List.set_cons_zero, List.set_cons_succ]
        refine wpAnyH_ready (rs := [0, 9]) (by kernel_rfl) (by simp) ?_
        refine AllReadyH.cons (o := { dst := some 35, op := Op.load 22 (Operand.tmp 6), type := 22, pos := "tree.go:27", after := #[], guard := none }) rfl (fun K hK => ?_) (AllReadyH.cons (o := { dst := some 44, op := Op.buildSlice 22 1 #[(0, Operand.tmp 43)], type := 22, pos := "tree.go:27", after := #[{ on := 8, ground := Ground.data }], guard := none }) rfl (fun K hK => ?_) AllReadyH.nil)
        · go_simp
          refine hK.out _ _ ?_ (fun _ => ?_)
          · assumption
          clear hK K
          try simp only [Act.put, List.setIfInBounds_toArray, List.set_cons_zero, List.set_cons_succ]
          refine wpAnyH_ready (rs := [9]) (by kernel_rfl) (by simp) ?_
          refine AllReadyH.cons (o := { dst := some 44, op := Op.buildSlice 22 1 #[(0, Operand.tmp 43)], type := 22, pos := "tree.go:27", after := #[{ on := 8, ground := Ground.data }], guard := none }) rfl (fun K hK => ?_) AllReadyH.nil
          go_simp
          have hHeld9 := hHeld4.below ((Below.refl _ _).alloc (Nat.le_refl _) (Obj.cells #[.string ky, .slice A4 (numL n0).length c4] 25))
          have hA := (HST4.out.below ((Below.refl _ _).alloc (Nat.le_refl _) (Obj.cells #[.string ky, .slice A4 (numL n0).length c4] 25))).ba.cell
          refine hK.out _ _ ?_ (fun _ => ?_)
          · exact hHeld9
          clear hK K
          try simp only [Act.put, List.setIfInBounds_toArray, List.set_cons_zero, List.set_cons_succ]
          refine wpAnyH_ready (rs := [10]) (by kernel_rfl) (by simp) ?_
          refine AllReadyH.cons (o := { dst := some 45, op := Op.call { callee := Callee.builtin Builtin.append, args := #[Operand.tmp 35, Operand.tmp 44], argTypes := #[22, 22] }, type := 22, pos := "tree.go:27", after := #[{ on := 0, ground := Ground.data }, { on := 9, ground := Ground.data }, { on := 7, ground := Ground.chain }], guard := none }) rfl (fun K hK => ?_) AllReadyH.nil
          obtain ⟨us, hus, ho, hf⟩ := HST4.out.oa
          have HULA := Lib.hid (show us.length = m0 by have h := congrArg List.length hus; rw [List.length_map] at h; exact h.trans HAB.out)
          have hoA := own_below ho ((Below.refl _ _).alloc (Nat.le_refl _) (Obj.cells #[.string ky, .slice A4 (numL n0).length c4] 25))
          have hss := HST4.out.hs
          refine step_own rfl (.tmp 35) (.tmp 44) 22 22 rfl base 25 (.agg #[.string ⟨#[]⟩, .slice none 0 0]) 2 40 Try.underlying22 info25 rfl rfl hoA rfl (src_two _ (by simp) Try.underlying22 25 _ _ rfl rfl) ((Below.refl base _)) (Nat.le_refl _) ?_ ?_ ?_ ?_
          · have := HULA.out; unfold maxLen; omega
          · have := HULA.out; omega
          · simp; omega
          intro v5 w5 ho5 hb5 hg5
          obtain ⟨hbx, hsr5, hst5, hko5, hbe5⟩ := HST4.out.pushA hus ho hf (HFB4.out.base_ (base' := base) HSTD.out.hs) ho5 hg5
          obtain ⟨g5, c5, rfl⟩ := ownsRow_succ ho5
          have hc5 := hbx.cell
          have hf5 := hbx.frozen
          have HFB6 := Lib.hid (((appended_kx HST4.out.ba (by decide) ho HST4.out.hs HST4.out.hA ho5 hg5).fb (fun _ => .inl (by decide)) HFB14.out).base_ (base' := w0.heap.size) HST.out.be.size)
          have HST5 := Lib.hid hst5
          have HKO5 := Lib.hid (HKO4.out.trans hko5)
          have HBE5 := Lib.hid (HBE4.out.trans hbe5)
          have hHeld5 : SR lv rest B (.slice Ap n0 cp) (w5.setCell ⟨Ba, 0, none⟩ (.slice (some ⟨g5, 0, none⟩) (us.length + 1) c5)) := ⟨hst5.rr, hst5.bp⟩
          refine hK.out _ _ ?_ (fun _ => ?_)
          · exact hsr5
          clear hK K hst5 hko5 hbe5
          try simp only [Act.put, List.setIfInBounds_toArray, List.set_cons_zero, List.set_cons_succ]
          refine wpAnyH_ready (rs := [11]) (by kernel_rfl) (by simp) ?_
          refine AllReadyH.cons (o := { dst := none, op := Op.store 22 (Operand.tmp 6) (Operand.tmp 45), type := 0, pos := "tree.go:27", after := #[{ on := 10, ground := Ground.data }, { on := 10, ground := Ground.chain }, { on := 0, ground := Ground.phase }, { on := 1, ground := Ground.phase }, { on := 2, ground := Ground.phase }, { on := 3, ground := Ground.phase }, { on := 4, ground := Ground.phase }, { on := 5, ground := Ground.phase }, { on := 6, ground := Ground.phase }, { on := 7, ground := Ground.phase }, { on := 8, ground := Ground.phase }, { on := 9, ground := Ground.phase }, { on := 10, ground := Ground.phase }], guard := none }) rfl (fun K hK => ?_) AllReadyH.nil
          go_simp
          refine hK.out _ _ ?_ (fun _ => ?_)
          · exact hHeld5
          clear hK K
          try simp only [Act.put, List.setIfInBounds_toArray, List.set_cons_zero, List.set_cons_succ]
          refine wpAnyH_done (by kernel_rfl) ?_ _
          simp only [Exit.then]
          obtain ⟨up, hup, hpo, hpf⟩ := HST5.out.op; have HUL := Lib.hid (show up.length = n0 by have h := congrArg List.length hup; rw [List.length_map, List.length_append, pages_len] at h; rw [HN0.out]; exact h); have HUP := Lib.hid hup; have HPO := Lib.hid hpo; have HPF := Lib.hid hpf; have hP := HST5.out.bp.cell; clear hup hpo hpf
          generalize w5.setCell ⟨Ba, 0, none⟩ (.slice (some ⟨g5, 0, none⟩) (us.length + 1) c5) = w6 at *
          gi_wp2_with (first | (gi_at_builtin; refine wpListIn_append_own _ rfl _ _ 33 rfl w0.heap.size 23 i23 (.slice none 0 0) 1 24 Try.underlying33 hi hz0 hz1 hz2 rfl (by decide) _ _ _ rfl (HPO.out.alloc _) ⟨(w6).heap.size, 0, none⟩ 1 1 [.slice A1 256 c1] rfl rfl (cell_one_new _ _ _) (by simp [Value.oneCell']) (by have := HUL.out; unfold maxLen; omega) (by have := HUL.out; omega) (by have := HST5.out.be.size; simp; omega) ?_; intro v8 w8 ho8 hg8 _; obtain ⟨hbx8, hst8, hko8, hbe8⟩ := HST5.out.pushP HUP.out HPO.out HPF.out HFB6.out ho8 hg8; obtain ⟨g8, c8, rfl⟩ := ownsRow_succ ho8; have hc8 := hbx8.cell; have hf8 := hbx8.frozen; have HST8 := Lib.hid hst8; have HKO8 := Lib.hid hko8; have HBE8 := Lib.hid hbe8; clear hst8 hko8 hbe8 ho8 hg8 hbx8) | (refine ⟨fun h => (by simp [Fence.wide] at h), ?_⟩) | (refine ⟨(show Fence.wide.fn _ from trivial), ?_⟩))
          exact HGO.out HOK.out _ _ _ _ (by rw [HNEW.out, HNEWA.out, ← List.append_assoc, HKEY.out]; exact HST8.out) (HKO1.out.trans (HKO5.out.trans HKO8.out)) (HBE1.out.trans (HBE5.out.trans HBE8.out))
        · go_simp
          have hHeld9 := hHeld4.below ((Below.refl _ _).alloc (Nat.le_refl _) (Obj.cells #[.string ky, .slice A4 (numL n0).length c4] 25))
          have hA := (HST4.out.below ((Below.refl _ _).alloc (Nat.le_refl _) (Obj.cells #[.string ky, .slice A4 (numL n0).length c4] 25))).ba.cell
          refine hK.out _ _ ?_ (fun _ => ?_)
          · exact hHeld9
          clear hK K
          try simp only [Act.put, List.setIfInBounds_toArray, List.set_cons_zero, List.set_cons_succ]
          refine wpAnyH_ready (rs := [0]) (by kernel_rfl) (by simp) ?_
          refine AllReadyH.cons (o := { dst := some 35, op := Op.load 22 (Operand.tmp 6), type := 22, pos := "tree.go:27", after := #[], guard := none }) rfl (fun K hK => ?_) AllReadyH.nil
          go_simp
          refine hK.out _ _ ?_ (fun _ => ?_)
          · assumption
          clear hK K
          try simp only [Act.put, List.setIfInBounds_toArray, List.set_cons_zero, List.set_cons_succ]
          refine wpAnyH_ready (rs := [10]) (by kernel_rfl) (by simp) ?_
          refine AllReadyH.cons (o := { dst := some 45, op := Op.call { callee := Callee.builtin Builtin.append, args := #[Operand.tmp 35, Operand.tmp 44], argTypes := #[22, 22] }, type := 22, pos := "tree.go:27", after := #[{ on := 0, ground := Ground.data }, { on := 9, ground := Ground.data }, { on := 7, ground := Ground.chain }], guard := none }) rfl (fun K hK => ?_) AllReadyH.nil
          obtain ⟨us, hus, ho, hf⟩ := HST4.out.oa
          have HULA := Lib.hid (show us.length = m0 by have h := congrArg List.length hus; rw [List.length_map] at h; exact h.trans HAB.out)
          have hoA := own_below ho ((Below.refl _ _).alloc (Nat.le_refl _) (Obj.cells #[.string ky, .slice A4 (numL n0).length c4] 25))
          have hss := HST4.out.hs
          refine step_own rfl (.tmp 35) (.tmp 44) 22 22 rfl base 25 (.agg #[.string ⟨#[]⟩, .slice none 0 0]) 2 40 Try.underlying22 info25 rfl rfl hoA rfl (src_two _ (by simp) Try.underlying22 25 _ _ rfl rfl) ((Below.refl base _)) (Nat.le_refl _) ?_ ?_ ?_ ?_
          · have := HULA.out; unfold maxLen; omega
          · have := HULA.out; omega
          · simp; omega
          intro v5 w5 ho5 hb5 hg5
          obtain ⟨hbx, hsr5, hst5, hko5, hbe5⟩ := HST4.out.pushA hus ho hf (HFB4.out.base_ (base' := base) HSTD.out.hs) ho5 hg5
          obtain ⟨g5, c5, rfl⟩ := ownsRow_succ ho5
          have hc5 := hbx.cell
          have hf5 := hbx.frozen
          have HFB6 := Lib.hid (((appended_kx HST4.out.ba (by decide) ho HST4.out.hs HST4.out.hA ho5 hg5).fb (fun _ => .inl (by decide)) HFB14.out).base_ (base' := w0.heap.size) HST.out.be.size)
          have HST5 := Lib.hid hst5
          have HKO5 := Lib.hid (HKO4.out.trans hko5)
          have HBE5 := Lib.hid (HBE4.out.trans hbe5)
          have hHeld5 : SR lv rest B (.slice Ap n0 cp) (w5.setCell ⟨Ba, 0, none⟩ (.slice (some ⟨g5, 0, none⟩) (us.length + 1) c5)) := ⟨hst5.rr, hst5.bp⟩
          refine hK.out _ _ ?_ (fun _ => ?_)
          · exact hsr5
          clear hK K hst5 hko5 hbe5
          try simp only [Act.put, List.setIfInBounds_toArray, List.set_cons_zero, List.set_cons_succ]
          refine wpAnyH_ready (rs := [11]) (by kernel_rfl) (by simp) ?_
          refine AllReadyH.cons (o := { dst := none, op := Op.store 22 (Operand.tmp 6) (Operand.tmp 45), type := 0, pos := "tree.go:27", after := #[{ on := 10, ground := Ground.data }, { on := 10, ground := Ground.chain }, { on := 0, ground := Ground.phase }, { on := 1, ground := Ground.phase }, { on := 2, ground := Ground.phase }, { on := 3, ground := Ground.phase }, { on := 4, ground := Ground.phase }, { on := 5, ground := Ground.phase }, { on := 6, ground := Ground.phase }, { on := 7, ground := Ground.phase }, { on := 8, ground := Ground.phase }, { on := 9, ground := Ground.phase }, { on := 10, ground := Ground.phase }], guard := none }) rfl (fun K hK => ?_) AllReadyH.nil
          go_simp
          refine hK.out _ _ ?_ (fun _ => ?_)
          · exact hHeld5
          clear hK K
          try simp only [Act.put, List.setIfInBounds_toArray, List.set_cons_zero, List.set_cons_succ]
          refine wpAnyH_done (by kernel_rfl) ?_ _
          simp only [Exit.then]
          obtain ⟨up, hup, hpo, hpf⟩ := HST5.out.op; have HUL := Lib.hid (show up.length = n0 by have h := congrArg List.length hup; rw [List.length_map, List.length_append, pages_len] at h; rw [HN0.out]; exact h); have HUP := Lib.hid hup; have HPO := Lib.hid hpo; have HPF := Lib.hid hpf; have hP := HST5.out.bp.cell; clear hup hpo hpf
          generalize w5.setCell ⟨Ba, 0, none⟩ (.slice (some ⟨g5, 0, none⟩) (us.length + 1) c5) = w6 at *
          gi_wp2_with (first | (gi_at_builtin; refine wpListIn_append_own _ rfl _ _ 33 rfl w0.heap.size 23 i23 (.slice none 0 0) 1 24 Try.underlying33 hi hz0 hz1 hz2 rfl (by decide) _ _ _ rfl (HPO.out.alloc _) ⟨(w6).heap.size, 0, none⟩ 1 1 [.slice A1 256 c1] rfl rfl (cell_one_new _ _ _) (by simp [Value.oneCell']) (by have := HUL.out; unfold maxLen; omega) (by have := HUL.out; omega) (by have := HST5.out.be.size; simp; omega) ?_; intro v8 w8 ho8 hg8 _; obtain ⟨hbx8, hst8, hko8, hbe8⟩ := HST5.out.pushP HUP.out HPO.out HPF.out HFB6.out ho8 hg8; obtain ⟨g8, c8, rfl⟩ := ownsRow_succ ho8; have hc8 := hbx8.cell; have hf8 := hbx8.frozen; have HST8 := Lib.hid hst8; have HKO8 := Lib.hid hko8; have HBE8 := Lib.hid hbe8; clear hst8 hko8 hbe8 ho8 hg8 hbx8) | (refine ⟨fun h => (by simp [Fence.wide] at h), ?_⟩) | (refine ⟨(show Fence.wide.fn _ from trivial), ?_⟩))
          exact HGO.out HOK.out _ _ _ _ (by rw [HNEW.out, HNEWA.out, ← List.append_assoc, HKEY.out]; exact HST8.out) (HKO1.out.trans (HKO5.out.trans HKO8.out)) (HBE1.out.trans (HBE5.out.trans HBE8.out))

end Go.Proofs.Ytbacdeogggcbfaa

/-
  The contract of the program's Build of a tree.
-/
namespace Go.Proofs.Ytbacdeogggcbfaa
open Go.RowKit Go.Rst Go.Pg Go.Crc Go.Shelf
attribute [local go_sem] Oper.semAt_some

theorem rb_kept {A B : World} {row : Option Nat} {v : Value} {l : List UInt8} (h : RB A v l) (hg : A.grownBy B row) (hr : ∀ r, row = some r → ∃ o : Obj, A.heap[r]? = some o ∧ o.isCells = false) : RB B v l := by
  obtain ⟨A', c, rfl, h1, h2, h3⟩ := h
  refine ⟨A', c, rfl, h1, h2, h3.imp id fun h => ?_⟩
  obtain ⟨b, off, rfl, hb, hc⟩ := h
  exact ⟨b, off, rfl, Nat.lt_of_lt_of_le hb hg.size, fun j hj => cell_kept (hc j hj) hg hr⟩
theorem rr_kept {A B : World} {row : Option Nat} {v : Value} {rs : List Rw} (h : RR A v rs) (hg : A.grownBy B row) (hr : ∀ r, row = some r → ∃ o : Obj, A.heap[r]? = some o ∧ o.isCells = false) : RR B v rs := by
  obtain ⟨A', c, rfl, h1, h2, h3⟩ := h
  refine ⟨A', c, rfl, h1, h2, h3.imp id fun h => ?_⟩
  obtain ⟨b, off, rfl, hb, hc⟩ := h
  refine ⟨b, off, rfl, Nat.lt_of_lt_of_le hb hg.size, fun j hj => ?_⟩
  obtain ⟨h4, u, h5, h6⟩ := hc j hj
  exact ⟨cell_kept h4 hg hr, u, cell_kept h5 hg hr, rb_kept h6 hg hr⟩
theorem leave2 {P : Program} {W : World} {tmps : Array Value} {a b : Value} (h2 : tmps.getD 2 undef = a) (h3 : tmps.getD 3 undef = b) : (results Try.f14 tmps).run P W = .ok (.tuple #[a, b]) W := by
  subst h2
  subst h3
  exact results_tmp2 rfl _ _ _
theorem below_grown {n₀ : Nat} {A B : World} {row : Option Nat} (hg : A.grownBy B row) (hA : n₀ ≤ A.heap.size) (hr : ∀ r, row = some r → n₀ ≤ r) : Below n₀ A B := (Below.refl _ _).grown hg hA hr

set_option maxRecDepth 100000 in
set_option maxHeartbeats 4000000 in
theorem build_any (v : Value) (rs : List Rw) (w : World) (hv : RR w v rs) :
    Calls Try.prog 14 #[v] w (GivesBd w (buildL rs)) := by
  have HV := Lib.hid hv
  have hri := rising_any v rs w hv
  obtain ⟨A, c, rfl, hlc, hc63⟩ := rr_shape hv
  have hB : buildL rs = if risingL rs = false ∨ 5000 < rs.length then none else buildF 5 0 [] rs := rfl
  clear hv
  refine (callsIn_wide (n := 3)).1 ?_
  refine callsIn_of_wp_marks Try.func14 rfl trivial ?_ rfl
  simp only [Try.ntmps14, List.size_toArray, List.length_cons, List.length_nil, Nat.reduceAdd, Nat.reduceSub, Array.replicate_succ, Array.replicate_zero, List.push_toArray, List.append_toArray, List.nil_append, List.cons_append]
  by_cases hbig : 5000 < rs.length
  · rw [if_pos (.inr hbig)] at hB
    have HB := Lib.hid hB
    have hbig' : (5000 : Int) < (rs.length : Int) := by omega
    clear hB hri
    gi_wp2
    refine wpIn_wide.2 (wp_scope_straight ((wpIn_wide (n := 3)).1 ?_))
    gi_wp2_with (refine ⟨(show Fence.wide.fn _ from trivial), ?_⟩)
    rw [Exit.noGoto_ret]
    exact ⟨_, results_tmp2 rfl _ _ _, GivesBd.none_ HB.out (Below.refl _ _)⟩
  · have hbig' : (rs.length : Int) ≤ 5000 := by omega
    cases hr : risingL rs with
    | false =>
      rw [if_pos (.inl hr)] at hB
      have HB := Lib.hid hB
      rw [hr] at hri
      have HRI := Lib.hid hri
      clear hri hr hB
      gi_wp2
      refine wpIn_wide.2 (wp_scope_straight ((wpIn_wide (n := 3)).1 ?_))
      gi_wp2_with (first | (gi_at_call 18; refine (callsIn_wide.2 HRI.out).mono ?_; rintro e w1 ⟨rfl, hb1⟩; have HB1 := Lib.hid hb1; clear hb1) | (refine ⟨(show Fence.wide.fn _ from trivial), ?_⟩))
      rw [Exit.noGoto_ret]
      exact ⟨_, leave2 rfl rfl, GivesBd.none_ HB.out HB1.out⟩
    | true =>
      rw [if_neg (by rw [hr]; simp; omega)] at hB
      have HBB := Lib.hid hB
      rw [hr] at hri
      have HRI := Lib.hid hri
      clear hri hr hB
      gi_wp2
      refine wpIn_wide.2 (wp_scope_straight ((wpIn_wide (n := 3)).1 ?_))
      gi_wp2_with (first | (gi_at_call 18; refine (callsIn_wide.2 HRI.out).mono ?_; rintro e w1 ⟨rfl, hb1⟩; have HB1 := Lib.hid hb1; clear hb1) | (refine ⟨(show Fence.wide.fn _ from trivial), ?_⟩))
      refine wpIn_label ?_
      gi_wp2
      obtain ⟨B, hBe⟩ : ∃ B, B = w1.heap.size := ⟨_, rfl⟩
      have hB : w.heap.size ≤ B := by rw [hBe]; exact HB1.out.size
      have bP := Boxed.new w1 33 (.slice none 0 0)
      have hbP : Below w.heap.size w (w1.alloc (.cells #[.slice none 0 0] 33)) := HB1.out.alloc HB1.out.size _
      rw [← hBe] at bP ⊢
      clear hBe
      generalize w1.alloc (.cells #[.slice none 0 0] 33) = W1 at *
      refine wpIn_loop (fun a W => ∃ (k : Nat) (all : List (List UInt8)) (rest : List Rw) (lv pv : Value) (ds : List Deferred) (u1 u2 u3 u5 u6 u7 u8 u9 u10 u11 u12 u13 u14 u15 u16 u17 u19 u20 u21 u22 u23 u24 u25 u26 u27 u28 u29 u30 u31 u32 u33 u34 u35 u36 u37 u38 u39 u40 u41 u42 u43 u44 u45 u46 u47 u48 u49 u50 u51 u52 u53 u54 u55 : Value), (k ≤ 5 ∧ Boxed W B 33 pv ∧ OP 5 23 W w.heap.size pv all ∧ (RR w lv rest ∨ OR 5 25 W w.heap.size lv rest) ∧ Below w.heap.size w W ∧ Marks w.heap.size W.heap.size W ds ∧ buildF (5 - k) k all rest = buildL rs ∧ rest.length ≤ 5000 + k ∧ all.length ≤ k * 6000) ∧ a = { tmps := #[lv, u1, u2, u3, .pointer (some ⟨B, 0, none⟩), u5, u6, u7, u8, u9, u10, u11, u12, u13, u14, u15, u16, u17, .int .i64 (k : Int), u19, u20, u21, u22, u23, u24, u25, u26, u27, u28, u29, u30, u31, u32, u33, u34, u35, u36, u37, u38, u39, u40, u41, u42, u43, u44, u45, u46, u47, u48, u49, u50, u51, u52, u53, u54, u55], defers := ds })
        (fun a _ => 5 - (intOf (a.tmps.getD 18 undef)).toNat) ?_ ?_
      · exact ⟨0, [], rs, _, _, [], _, _, _, _, _, _, _, _, _, _, _, _, _, _, _, _, _, _, _, _, _, _, _, _, _, _, _, _, _, _, _, _, _, _, _, _, _, _, _, _, _, _, _, _, _, _, _, _, _, _, _, _, _, ⟨by omega, bP, OP.nil_ _ _ _ _, .inl HV.out, hbP, trivial, HBB.out.symm, by omega, by simp⟩, rfl⟩
      · rintro _ W ⟨k, all, rest, lv, pv, ds, u1, u2, u3, u5, u6, u7, u8, u9, u10, u11, u12, u13, u14, u15, u16, u17, u19, u20, u21, u22, u23, u24, u25, u26, u27, u28, u29, u30, u31, u32, u33, u34, u35, u36, u37, u38, u39, u40, u41, u42, u43, u44, u45, u46, u47, u48, u49, u50, u51, u52, u53, u54, u55, ⟨hk, bp, hop, hei, hbel, hmk, hbf, hrl, hal⟩, rfl⟩
        have hrr : RR W lv rest := by
          rcases hei with h | h
          · exact rr_below h hbel (Nat.le_refl _)
          · exact h.rr
        obtain ⟨Al, cl, rfl, hlc2, hcl63⟩ := rr_shape hrr
        have HRR := Lib.hid hrr
        have HBP := Lib.hid bp
        have HOP := Lib.hid hop
        have HEI := Lib.hid hei
        have HBEL := Lib.hid hbel
        have HMK := Lib.hid hmk
        have HBF := Lib.hid hbf
        clear hrr bp hop hei hbel hmk hbf bP hbP
        by_cases hlt : k < 5
        · gi_wp2_with (first | (gi_at_call 24; refine (groups_in _ _ _ _ _).mono ?_; rintro e w2 ⟨rfl, rfl⟩) | (refine ⟨(show Fence.wide.fn _ from trivial), ?_⟩))
          have hWs := HBEL.out.size
          have a1 := fun (o : Obj) (X : World) => (Below.refl X.heap.size X).alloc (Nat.le_refl _) o
          have hst0 : St w B W.heap.size (W.heap.size + 1) k W.heap.size (.slice Al rest.length cl) rest all [] pv (.slice none 0 0) (((W.alloc (.cells #[.int .i64 (k : Int)] 3)).alloc (.cells #[.slice none 0 0] 22)).alloc (.cells #[.slice Al rest.length cl] 22)) := by
            have hb1 : Below W.heap.size W (((W.alloc (.cells #[.int .i64 (k : Int)] 3)).alloc (.cells #[.slice none 0 0] 22)).alloc (.cells #[.slice Al rest.length cl] 22)) := (((Below.refl _ W).alloc (Nat.le_refl _) _).alloc (by simp) _).alloc (by simp; omega) _
            have hkx : KX (fun _ _ => True) W (((W.alloc (.cells #[.int .i64 (k : Int)] 3)).alloc (.cells #[.slice none 0 0] 22)).alloc (.cells #[.slice Al rest.length cl] 22)) := KX.below hb1
            refine ⟨hkx.boxed trivial HBP.out, ((Boxed.new W _ _).alloc _).alloc _, ?_, hkx.op (fun _ => trivial) (fun _ => trivial) HOP.out, OR.nil_ _ _ _ _, HEI.out.imp id (fun h => ⟨hkx.or_ (fun _ => trivial) (fun _ _ => trivial) h, fun g hg => ?_⟩), HBEL.out.trans (hb1.mono hWs), hB, Nat.le_succ _, hWs, hb1.size⟩
            · have := (Boxed.new (W.alloc (.cells #[.int .i64 (k : Int)] 3)) 22 (.slice none 0 0)).alloc (.cells #[.slice Al rest.length cl] 22)
              rw [World.size_alloc] at this
              exact this
            · obtain ⟨us, _, ho, _⟩ := h
              rcases ho.2 with ⟨he, _⟩ | ⟨g', cap, cur, he, _, hgb, _⟩
              · rw [he] at hg; simp [Value.ownBlock] at hg
              · rw [he] at hg
                obtain rfl : g' = g := by simpa [Value.ownBlock] using hg
                exact (Array.getElem?_eq_some_iff.1 hgb).1
          have hbx := (Boxed.new ((W.alloc (.cells #[.int .i64 (k : Int)] 3)).alloc (.cells #[.slice none 0 0] 22)) 22 (.slice Al rest.length cl)).cell
          rw [World.size_alloc, World.size_alloc] at hbx
          have hmk0 : Marks w.heap.size W.heap.size (((W.alloc (.cells #[.int .i64 (k : Int)] 3)).alloc (.cells #[.slice none 0 0] 22)).alloc (.cells #[.slice Al rest.length cl] 22)) ds := HMK.out.keep fun D hD hk => ((((Below.refl _ W).alloc (Nat.le_refl _) _).alloc (by simp) _).alloc (by simp; omega) _ : Below W.heap.size W _).block D hD |>.trans hk
          have hsz0 : (((W.alloc (.cells #[.int .i64 (k : Int)] 3)).alloc (.cells #[.slice none 0 0] 22)).alloc (.cells #[.slice Al rest.length cl] 22)).heap.size = W.heap.size + 3 := by simp
          obtain ⟨W0, hW0⟩ : ∃ W0, W0 = (((W.alloc (.cells #[.int .i64 (k : Int)] 3)).alloc (.cells #[.slice none 0 0] 22)).alloc (.cells #[.slice Al rest.length cl] 22)) := ⟨_, rfl⟩
          rw [← hW0] at hst0 hbx hmk0 hsz0 ⊢
          clear a1 hW0
          have hmk1 := hmk0.wide (show W.heap.size ≤ W0.heap.size by omega)
          refine wpIn_rangeFunc_ownG rfl (by decide) (gf := 33) (lb := #[.pointer (some ⟨W.heap.size + 1 + 1, 0, none⟩)]) rfl trivial (enters_of Try.func33 (by kernel_rfl) rfl)
            (groups_stops 2 (W.heap.size + 1 + 1) (.slice Al rest.length cl) rest W0 (by omega) hbx hst0.rr) (fun h k x => k (h x)) (fun X l o o' hl hlo hc _ hx => ?kb) (Below.refl _ _) (fun _ => rfl)
            (fun pre X => (∃ pv av, St w B W.heap.size (W.heap.size + 1) k W.heap.size (.slice Al rest.length cl) rest (all ++ pagesF k (pre.map (·.1.2))) (abovP all.length (pre.map (·.1.2))) pv av X) ∧ Marks w.heap.size W0.heap.size X ds ∧ ((pre.map (·.1.2)).all (pageOk k) = true ∧ pre.length ≤ rest.length + 1))
            (fun c pre X => (c = .exit 0 ∧ (pre.map (·.1.2)).all (pageOk k) = false) ∧ Below w.heap.size w X ∧ Marks w.heap.size W0.heap.size X ds)
            ?oi ?ox ⟨⟨pv, _, by simpa [pagesF, abovP] using hst0⟩, hmk1, rfl, by simp⟩
            (fun x => { tmps := #[.slice Al rest.length cl, u1, u2, u3, .pointer (some ⟨B, 0, none⟩), .pointer (some ⟨W.heap.size, 0, none⟩), .pointer (some ⟨W.heap.size + 1, 0, none⟩), x.1.1, u8, u9, u10, u11, u12, u13, u14, u15, u16, u17, .int .i64 (k : Int), .bool true, .int .i64 (k : Int), .slice Al rest.length cl, .func (.func 33) #[] #[.pointer (some ⟨W.heap.size + 1 + 1, 0, none⟩)], x.1.1, u24, u25, u26, u27, u28, u29, u30, u31, u32, u33, u34, u35, u36, u37, u38, u39, u40, u41, u42, u43, u44, u45, u46, u47, u48, u49, u50, u51, u52, u53, u54, u55], defers := [] }) ?assign ?body ?done ?stop
          case kb => exact rr_kept hx (grownBy_putObj' X l o') (fun r e => by cases e; exact ⟨o, hlo, hc⟩)
          case oi =>
            rintro pre X Y row ⟨⟨pv', av', h⟩, hm, h2⟩ hg hr
            exact ⟨⟨pv', av', h.keep (KX.of_grown hg (fun r e => (hr r e).2)) (h.be.trans (below_grown hg h.be.size (fun r e => by have := (hr r e).1; omega)))⟩,
              hm.keep (fun D hD hk => (hg.block D (Array.getElem?_eq_some_iff.1 hk).1 (fun e => by have := (hr D e.symm).1; omega)).trans hk), h2⟩
          case ox =>
            rintro c' pre X Y row ⟨h1, h, hm⟩ hg hr
            exact ⟨h1, h.trans (below_grown hg h.size (fun r e => by have := (hr r e).1; omega)),
              hm.keep (fun D hD hk => (hg.block D (Array.getElem?_eq_some_iff.1 hk).1 (fun e => by have := (hr D e.symm).1; omega)).trans hk)⟩
          case assign =>
            intro l x X K hK
            gi_wp2
            exact hK
          case body =>
            rintro l pre ⟨⟨xv, xr⟩, hx⟩ X ⟨⟨pv', av', hst⟩, hm, hok, hpl⟩ hlt'
            dsimp only at hx
            obtain ⟨Ax, cx, rfl, _, _⟩ := rr_shape (hx X hst.rr)
            dsimp only
            refine round_body (by omega) hst hx (by rw [List.length_map]; omega) (fun _ _ h => h) (fun _ _ _ h => h) (fun hok' Y pv2 av2 a h1 h2 h3 => ?_) (fun hok' Y a h1 h2 h3 => ?_)
            · exact ⟨h2.from _, fun _ => h1.rr, ⟨pv2, av2, by rw [List.map_append]; exact h1⟩, hm.keep (fun D hD hk => h2.same D _ hk rfl), by rw [List.map_append, List.all_append, hok]; simp [hok'], by rw [List.length_append]; simp; omega⟩
            · exact ⟨h2.from _, ⟨rfl, by rw [List.map_append, List.all_append, hok]; simp [hok']⟩, h1.be, hm.keep (fun D hD hk => h2.same D _ hk rfl)⟩
          case done =>
            rintro D xs X hD hS ⟨⟨pv', av', hst⟩, hm, hok, hxl⟩ hK
            rw [hS] at hst hok
            have hlv := level_groups (n := k) (by omega) all.length rest
            rw [hok, if_pos rfl] at hlv
            have hbf := HBF.out
            rw [show 5 - k = (4 - k) + 1 from by omega, build_step, hlv] at hbf
            simp only [pages_len] at hbf
            have hmk3 : Marks w.heap.size X.heap.size X ({ target := .collected D, args := #[] } :: ds) := ⟨⟨D, rfl, by omega, (Array.getElem?_eq_some_iff.1 hK).1, hK, fun d hd => hm.ne hD d hd⟩, hm.wide (by have := (Array.getElem?_eq_some_iff.1 hK).1; omega)⟩
            obtain ⟨Ap, cp, hpv, _, _⟩ := hst.op.shape
            obtain ⟨n1, hn1⟩ : ∃ n1, n1 = (all ++ pagesF (k : Int) (groupsL rest)).length := ⟨_, rfl⟩
            rw [← hn1] at hpv
            subst hpv
            have HN1 := Lib.hid hn1
            clear hn1
            obtain ⟨Aa, ca, rfl⟩ := or_shape hst.oa
            have hcb := hst.ba.cell
            have hcp := hst.bp.cell
            have HST := Lib.hid hst
            have HMK3 := Lib.hid hmk3
            have hone := abovP_one all.length rest
            have hgl := groupsL_len rest
            by_cases hm1 : (abovP all.length (groupsL rest)).length ≤ 1
            · have E := Lib.hid (show buildL rs = some (all ++ pagesF k (groupsL rest)) by rw [← hbf, if_pos (hone.1 hm1)])
              obtain ⟨m, hm⟩ : ∃ m, m = (abovP all.length (groupsL rest)).length := ⟨_, rfl⟩
              rw [← hm] at hm1 hcb
              have hm1' : (m : Int) ≤ 1 := by omega
              clear hbf hst hmk3 hone hok hlv hS hm hxl
              gi_wp2
              rw [Exit.noGoto_ret]
              exact leaves_marks HMK3.out (fun W' hkx hb => ⟨_, leave2 rfl rfl, GivesBd.some_ E.out (hkx.op (fun _ => trivial) (fun _ => trivial) HST.out.op) (HST.out.be.trans hb)⟩)
            · have hne : ¬ (groupsL rest).length = 1 := fun h => hm1 (hone.2 h)
              rw [if_neg hne] at hbf
              have HBF2 := Lib.hid hbf
              have HHM := Lib.hid (abovP_more (from_ := all.length) hne)
              obtain ⟨m, hm⟩ : ∃ m, m = (abovP all.length (groupsL rest)).length := ⟨_, rfl⟩
              have HM := Lib.hid hm
              rw [← hm] at hm1 hcb
              have hm1' : (1 : Int) < (m : Int) := by omega
              clear hbf hst hmk3 hone hok hlv hS hm hxl
              gi_wp2
              refine ⟨⟨k + 1, all ++ pagesF k (groupsL rest), aboveF all.length (groupsL rest), _, _, _, _, _, _, _, _, _, _, _, _, _, _, _, _, _, _, _, _, _, _, _, _, _, _, _, _, _, _, _, _, _, _, _, _, _, _, _, _, _, _, _, _, _, _, _, _, _, _, _, _, _, _, _, _, ⟨by omega, HST.out.bp, HST.out.op, .inr ?_, HST.out.be, HMK3.out, ?_, ?_, ?_⟩, rfl⟩, ?_⟩
              · have := HST.out.oa
                rw [← HM.out, HHM.out] at this
                exact this.base_ hWs
              · rw [show 5 - (k + 1) = 4 - k from by omega]
                exact HBF2.out
              · rw [above_len]; omega
              · rw [List.length_append, pages_len]; omega
              · simp [intOf]; omega
          case stop =>
            rintro D c' pre X hD hSp ⟨⟨rfl, hbad⟩, hbe, hm⟩ hK
            have hmk3 : Marks w.heap.size X.heap.size X ({ target := .collected D, args := #[] } :: ds) := ⟨⟨D, rfl, by omega, (Array.getElem?_eq_some_iff.1 hK).1, hK, fun d hd => hm.ne hD d hd⟩, hm.wide (by have := (Array.getElem?_eq_some_iff.1 hK).1; omega)⟩
            have hlv := level_groups (n := k) (by omega) all.length rest
            obtain ⟨t, ht⟩ := hSp
            rw [← ht, List.all_append, hbad] at hlv
            simp only [Bool.false_and, Bool.false_eq_true, if_false] at hlv
            have hbf := HBF.out
            rw [show 5 - k = (4 - k) + 1 from by omega, build_step, hlv] at hbf
            have E := Lib.hid (show buildL rs = none from hbf.symm)
            have HMK3 := Lib.hid hmk3
            have HBE := Lib.hid hbe
            clear hmk3 hlv ht hbf hbe hm hbad
            gi_wp2
            rw [Exit.noGoto_ret]
            exact leaves_marks HMK3.out (fun W' _ hb => ⟨_, leave2 rfl rfl, GivesBd.none_ E.out (HBE.out.trans hb)⟩)
        · obtain rfl : k = 5 := by omega
          have hbf := HBF.out
          rw [Nat.sub_self, buildF] at hbf
          have E := Lib.hid (show buildL rs = none from hbf.symm)
          clear hbf
          gi_wp2
          rw [Exit.noGoto_ret]
          exact leaves_marks HMK.out (fun W' _ hb => ⟨_, leave2 rfl rfl, GivesBd.none_ E.out (HBEL.out.trans hb)⟩)
end Go.Proofs.Ytbacdeogggcbfaa
