/-
  The contract of same: a device and the document's own of the same plain device tell the same.
-/
import Derived.Test.YtpaahbohbnfibaaTwo
import Derived.Test.YtpaahbohbnfibaaRefR
import Derived.Test.YtpaahbohbnfibaaMuch
import Derived.BigQuiet
namespace Go.Proofs.Ytpaahbohbnfibaa
open Go.RowKit Go.Rst Go.Dv
/-- True is told, and what was there stays. -/
def Yes (w : World) (e : Ending) (w' : World) : Prop := e = .returned (.bool true) ∧ Below w.heap.size w w'
theorem IS.at_ {w : World} {A : Option Addr} {c m k x : Nat} {l : List Nat} (h : IS w (.slice A m c) l) (hx : l[k]? = some x) : ∃ b off, A = some ⟨b, off, none⟩ ∧ b < w.heap.size ∧ w.cell? ⟨b, off + k, none⟩ = some (iv x) := by
  obtain ⟨A', c', he, h2⟩ := h
  injection he with he _ _
  subst he
  obtain ⟨hk, e⟩ := List.getElem?_eq_some_iff.1 hx
  rcases h2 with h2 | ⟨b, off, rfl, hb, hd⟩
  · rw [h2] at hk; cases hk
  · exact ⟨b, off, rfl, hb, by rw [hd k hk, e]⟩
theorem drewN_at (w : World) (n m : Nat) : ∃ k, (w.drewN n).drewN m = w.drewN k := ⟨n + m, by simp [World.drewN, Nat.add_assoc]⟩
set_option maxRecDepth 100000 in
set_option maxHeartbeats 2000000 in
theorem same_any {D A : Nat → Prop} {w : World} {v tv : Value} {s : Sim} (hd : Dev D w v s) (ht : TR A w tv s) (hw : s.nw < 300) (hf : s.nf < 300) :
    Calls Try.prog 19 #[v, tv] w (Yes w) := by
  have hok := hd.ok
  have HD := Lib.hid hd
  have HT := Lib.hid ht
  have HLL := Lib.hid (show s.loose.length ≤ 100000 from Nat.le_trans hok.w (by omega))
  have HN4 := Lib.hid hok.n
  have HW := Lib.hid (show s.nw ≤ 100000 by omega)
  have HO1 := Lib.hid (fb_order s.nw hw)
  have HO2 := Lib.hid (fb_order s.nf hf)
  obtain ⟨y, rfl, _⟩ := hd
  obtain ⟨vS, vL, lf, rfl, hS, hL, _⟩ := ht
  obtain ⟨aS, cS, rfl, _⟩ := hS.shape
  obtain ⟨aL, cL, rfl, _⟩ := hL.shape
  obtain ⟨f0, hf0⟩ : ∃ f0, f0 = s.fuse.isSome := ⟨_, rfl⟩
  rw [← hf0] at HT ⊢
  obtain ⟨nF, hnF⟩ : ∃ nF, nF = s.firm.length := ⟨_, rfl⟩
  obtain ⟨nL, hnL⟩ : ∃ nL, nL = s.loose.length := ⟨_, rfl⟩
  rw [← hnF, ← hnL] at HT ⊢
  have HNF := Lib.hid hnF
  have HNL := Lib.hid hnL
  clear hf0 hnF hnL hS hL hok
  have hLb : nL ≤ 100000 := by rw [HNL.out]; exact HLL.out
  have hFb : nF ≤ 4096 := by rw [HNF.out]; exact HN4.out
  go_enter Try.func19, Try.ntmps19
  go_wp2_with fail
  obtain ⟨W1, hW1⟩ : ∃ W1, W1 = w.alloc (Obj.cells #[Value.slice aS nF cS, Value.slice aL nL cL, Value.int IntKind.i64 ↑s.nw, Value.int IntKind.i64 ↑s.nf, Value.bool f0, Value.int IntKind.i64 lf] 38) := ⟨_, rfl⟩
  rw [← hW1]
  have HB1 := Lib.hid (show Below w.heap.size w W1 by rw [hW1]; exact (Below.refl _ _).alloc (Nat.le_refl _) _)
  have HK1 := Lib.hid (show Blk W1 w.heap.size 38 #[Value.slice aS nF cS, Value.slice aL nL cL, Value.int IntKind.i64 ↑s.nw, Value.int IntKind.i64 ↑s.nf, Value.bool f0, Value.int IntKind.i64 lf] by rw [hW1]; exact heap_alloc_new w _)
  clear hW1
  go_at_call 22
  refine (loose_any (HD.out.below HB1.out) HW.out).mono ?_
  rintro e w2 ⟨u, rfl, hi, _, hb⟩
  have HI2 := Lib.hid hi
  have HB2 := Lib.hid (HB1.out.trans (hb.mono HB1.out.size))
  have HK2 := Lib.hid (HK1.out.below hb HK1.out.lt)
  clear hb hi
  have c0 : w2.cell? ⟨w.heap.size, 0, none⟩ = some (.slice aS nF cS) := HK2.out.cell 0
  have c1 : w2.cell? ⟨w.heap.size, 1, none⟩ = some (.slice aL nL cL) := HK2.out.cell 1
  have c2 : w2.cell? ⟨w.heap.size, 2, none⟩ = some (.int .i64 (s.nw : Int)) := HK2.out.cell 2
  have c3 : w2.cell? ⟨w.heap.size, 3, none⟩ = some (.int .i64 (s.nf : Int)) := HK2.out.cell 3
  have c4 : w2.cell? ⟨w.heap.size, 4, none⟩ = some (.bool f0) := HK2.out.cell 4
  have c5 : w2.cell? ⟨w.heap.size, 5, none⟩ = some (.int .i64 lf) := HK2.out.cell 5
  go_wp2_with fail
  go_at_call 35
  refine (refloose_any (HT.out.below HB2.out) HLL.out).mono ?_
  rintro e w3 ⟨u', rfl, hi', hb⟩
  have HI3 := Lib.hid hi'
  have HI2 := Lib.hid (HI2.out.below hb)
  have HB3 := Lib.hid (HB2.out.trans (hb.mono HB2.out.size))
  have HK3 := Lib.hid (HK2.out.below hb HK2.out.lt)
  obtain ⟨au, cu, rfl, _⟩ := id HI2.out
  obtain ⟨au', cu', rfl, _⟩ := id HI3.out
  rw [List.length_map, ← HNL.out] at HI2 HI3 ⊢
  have HD3 := Lib.hid (HD.out.below HB3.out)
  have HT3 := Lib.hid (HT.out.below HB3.out)
  clear hb hi' c0 c1 c2 c3 c4 c5
  have c0 : w3.cell? ⟨w.heap.size, 0, none⟩ = some (.slice aS nF cS) := HK3.out.cell 0
  have c2 : w3.cell? ⟨w.heap.size, 2, none⟩ = some (.int .i64 (s.nw : Int)) := HK3.out.cell 2
  have c3 : w3.cell? ⟨w.heap.size, 3, none⟩ = some (.int .i64 (s.nf : Int)) := HK3.out.cell 3
  have hne : ((nF : Int) == (nF : Int)) = true := by simp
  go_wp2_with fail
  go_quiet ((first
    | (go_at_call 20; exact Calls.quiet_of_same ((len_any (HD3.out.below (below_drewN _ _))).mono (by rw [← HNF.out]; rintro e w' ⟨rfl, rfl⟩; exact ⟨rfl, rfl⟩)))
    | (go_at_call 25; exact Calls.quiet_of_same ((traffic_any (HD3.out.below (below_drewN _ _))).mono (by rintro e w' ⟨rfl, rfl⟩; exact ⟨rfl, rfl⟩)))))
  have e4 : (FloatKind.f64.format.order (fb s.nw) (floatOfInt FloatKind.f64 (s.nw : Int)) == some Ordering.eq) = true := HO1.out
  have e5 : (FloatKind.f64.format.order (fb s.nf) (floatOfInt FloatKind.f64 (s.nf : Int)) == some Ordering.eq) = true := HO2.out
  rw [e4, e5]
  rename_i nq _ _
  have HB4 := Lib.hid (HB3.out.trans ((below_drewN w3 nq).mono HB3.out.size))
  have HI2 := Lib.hid (HI2.out.below (below_drewN _ nq))
  have HI3 := Lib.hid (HI3.out.below (below_drewN _ nq))
  have HD4 := Lib.hid (HD3.out.below (below_drewN _ nq))
  have HT4 := Lib.hid (HT3.out.below (below_drewN _ nq))
  have HK4 := Lib.hid (HK3.out.below (below_drewN _ nq) HK3.out.lt)
  clear e4 e5 c0 c2 c3
  generalize w3.drewN nq = w4 at HB4 HI2 HI3 HD4 HT4 HK4 ⊢
  simp only [Bool.not_true, Bool.or_false]
  go_wp2
  go_loopw [7] (fun i wr => ∃ k : Nat, k ≤ nL ∧ i = .int .i64 k ∧ Below w4.heap.size w4 wr) (fun i _ => nL - (intOf i).toNat)
  case atStart => exact ⟨0, Nat.zero_le _, rfl, Below.refl _ _⟩
  case round =>
    obtain ⟨k, hk, rfl, hbel⟩ := hrel
    by_cases hlt : k < nL
    · have hltl : k < (s.loose.map (·.1)).length := by rw [List.length_map, ← HNL.out]; exact hlt
      obtain ⟨x, hx⟩ : ∃ x, (s.loose.map (·.1))[k]? = some x := ⟨_, List.getElem?_eq_getElem hltl⟩
      obtain ⟨b1, o1, hA1, _, q1⟩ := (HI2.out.below hbel).at_ hx
      obtain ⟨b2, o2, hA2, _, q2⟩ := (HI3.out.below hbel).at_ hx
      subst hA1
      subst hA2
      unfold iv at q1 q2
      have HBr := Lib.hid hbel
      have i6 : (k : Int) < (nL : Int) := by omega
      clear hbel hltl hx
      go_wp2_with fail
      go_quiet (fail)
      go_wp2
      go_roundw
      case rel => exact ⟨k + 1, by omega, by go_num, HBr.out.trans ((below_drewN _ _).mono HBr.out.size)⟩
      case measure => simp [intOf]; omega
    · have hm2 : ¬ (k : Int) < (nL : Int) := by omega
      have HD5 := Lib.hid (HD4.out.below hbel)
      have HT5 := Lib.hid (HT4.out.below hbel)
      have HK5 := Lib.hid (HK4.out.below hbel HK4.out.lt)
      have HB5 := Lib.hid (HB4.out.trans (hbel.mono HB4.out.size))
      clear hbel
      go_wp2
      go_loopw [8, 9, 10, 11, 12] (fun i _ _ _ _ w6 => ∃ k : Nat, k ≤ nF ∧ i = .int .i64 k ∧ Below wr.heap.size wr w6) (fun i _ _ _ _ _ => nF - (intOf i).toNat)
      case atStart => exact ⟨0, Nat.zero_le _, rfl, Below.refl _ _⟩
      case round =>
        clear hk hlt hm2
        obtain ⟨k, hk, rfl, hbel⟩ := hrel
        have HD6 := Lib.hid (HD5.out.below hbel)
        have HT6 := Lib.hid (HT5.out.below hbel)
        have HK6 := Lib.hid (HK5.out.below hbel HK5.out.lt)
        have HBr := Lib.hid hbel
        clear hbel
        have c0 := HK6.out.cell 0
        by_cases hlt : k < nF
        · have i6 : (k : Int) < (nF : Int) := by omega
          go_wp2_with fail
          go_at_call 15
          refine (read_any k HD6.out (by rw [← HNF.out]; exact hlt) HW.out).mono ?_
          rintro e r1 ⟨u1, rfl, hr1, _, hb1⟩
          have HR1 := Lib.hid hr1
          have HBr1 := Lib.hid (HBr.out.trans (hb1.mono HBr.out.size))
          have HT7 := Lib.hid (HT6.out.below hb1)
          have HK7 := Lib.hid (HK6.out.below hb1 HK6.out.lt)
          clear hr1 hb1 c0
          have c0 := HK7.out.cell 0
          have c1 := HK7.out.cell 1
          have c2 := HK7.out.cell 2
          have c3 := HK7.out.cell 3
          have c4 := HK7.out.cell 4
          have c5 := HK7.out.cell 5
          go_wp2_with fail
          go_at_call 34
          refine (refread_any k HT7.out (by rw [← HNF.out]; exact hlt) HLL.out HN4.out).mono ?_
          rintro e r2 ⟨u2, rfl, hr2, hb2⟩
          have hs2 := str28 hr2.1
          have hs1 := str28 (HR1.out.below hb2)
          have HBr2 := Lib.hid (HBr1.out.trans (hb2.mono HBr1.out.size))
          clear hr2 hb2 c0 c1 c2 c3 c4 c5
          go_wp2
          go_roundw
          case rel => exact ⟨k + 1, by omega, by go_num, HBr2.out⟩
          case measure => simp [intOf]; omega
        · have hm2 : ¬ (k : Int) < (nF : Int) := by omega
          go_wp2
          go_ret
          exact ⟨rfl, HB5.out.trans (HBr.out.mono HB5.out.size)⟩
end Go.Proofs.Ytpaahbohbnfibaa
