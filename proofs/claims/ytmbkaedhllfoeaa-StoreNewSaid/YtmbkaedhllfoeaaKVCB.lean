/-
 The contract of the device's forget: nothing is loose any more, whatever the device.; The contract of the device's Read: a sector's bytes as they were written last, in new memory; an error where there is no such sector.; The contract of the device's Crash: those loose writes are firm that are to be kept, whatever the device and the marks (which lie outside it).; The contract of the device's Flush: all that is loose is firm, whatever the device; nothing, if its fuse lets nothing through.
-/
import Derived.RegionTactic
import Derived.ChangeAlike
import Derived.Deep.Draws
import Derived.Deep.WholeRow
import Derived.StillTailTactics
import Derived.Test.YtmbkaedhllfoeaaKVBJ
set_option linter.unusedVariables false
namespace Go.Proofs.Ytmbkaedhllfoeaa
open Go.RowKit Go.Rst Go.Dv
theorem still_load_mid {P : Program} {ops : Array Oper} {w : World} {Q : Act → Prop} {a : Act} {o : Oper} {rest : List Oper} (hgd : o.guard = none) (ty : TypeId) (x : Operand) (ho : o.op = .load ty x)
  (b off : Nat) (hx : a.eval x = .pointer (some ⟨b, off, none⟩)) (cs : List Value) (d : TypeDesc) (hc : w.rangeAt b off cs) (hu : P.underlying ty = some d) (hd : d.isRow = true) (hi : (P.info? ty).map (·.size) = some cs.length)
  (h : wpStill P ops w Q rest (a.put o.dst (.agg cs.toArray))) : wpStill P ops w Q (o :: rest) a := by
 unfold wpStill
 rw [if_pos (by simp [Region.wanted, hgd])]
 unfold Oper.still execOp
 simp only [ho, hx, Instr.loadAt, Instr.sureAddr, Sem.run_bind, Sem.run_pure, Result.andThen_ok, run_loadVar_mid w b off ty cs d hc hu hd hi]
 exact ⟨rfl, h⟩
theorem zero90 : ∀ w, (zeroValue 90).run Try.prog w = .ok (.agg (#[.int .i64 0] ++ Array.replicate 64 (.int .u8 0))) w := by
 intro w
 obtain ⟨i, hi, hz, _, _⟩ := info_parts info90
 simp [zeroValue, typeInfo, hi, hz]
theorem zero88 : ∀ w, (zeroValue 88).run Try.prog w = .ok (.agg (Array.replicate 64 (.int .u8 0))) w := by
 intro w
 obtain ⟨i, hi, hz, _, _⟩ := info_parts info88
 simp [zeroValue, typeInfo, hi, hz]
theorem size68 : (Try.prog.info? 90).map (·.size) = some 65 := by
 obtain ⟨i, hi, _, hs, _⟩ := info_parts info90
 rw [hi, Option.map_some, hs]
theorem size66 : (Try.prog.info? 88).map (·.size) = some 64 := by
 obtain ⟨i, hi, _, hs, _⟩ := info_parts info88
 rw [hi, Option.map_some, hs]
set_option maxRecDepth 100000 in
set_option maxHeartbeats 1000000 in
theorem forget_any {D : Nat → Prop} {w : World} {y : Lay} {F : List (List UInt8)} {L : List Wr} {f : Bool} {a b : Nat} (hr : Raw D w y F L (newL F.length L) f a b)
  (hL : ∀ x ∈ L, x.1 < F.length ∧ x.2.length = 64) (hF : F.length ≤ 4096) (hLl : L.length ≤ 100000) :
  Calls Try.prog 39 #[.pointer (some ⟨y.g, 0, none⟩)] w fun e w' => e = .returned (.tuple #[]) ∧ Fr D w w' ∧ Raw D w' { y with A := none, c := 0 } F [] (newL F.length []) f a b := by
 have c1 := hr.c1
 obtain ⟨Z, hZ⟩ : ∃ Z, Z = #[Value.int .i64 0] ++ Array.replicate 64 (Value.int .u8 0) := ⟨_, rfl⟩
 have z68 := zero90
 rw [← hZ] at z68
 have HZ := Lib.hid hZ
 have HR := Lib.hid hr
 have HL := Lib.hid hL
 have HF := Lib.hid hF
 clear hZ hr hL hF
 go_enter Try.func39, Try.ntmps39
 go_wp2
 go_loopw [9] (fun i wr => ∃ k : Nat, k ≤ L.length ∧ i = .int .i64 k ∧ Raw D wr y F L (zeroed (newL F.length L) L k) f a b ∧ Fr D w wr) (fun i _ => L.length - (intOf i).toNat)
 case atStart => exact ⟨0, Nat.zero_le _, rfl, HR.out, Fr.refl _ _⟩
 case round =>
  obtain ⟨k, hk, rfl, hr, hf⟩ := hrel
  clear c1
  by_cases hlt : k < L.length
  ·obtain ⟨gL, hA, hn1, hn2, hn3, hat⟩ := hr.looseAt (fun x hx => (HL.out x hx).2) hlt
   have hx := HL.out _ (wat_mem hlt)
   obtain ⟨x, hxe⟩ : ∃ x, x = wat L k := ⟨_, rfl⟩
   rw [← hxe] at hat hx
   have HX := Lib.hid hxe
   have HAt := Lib.hid hat
   have HXl := Lib.hid (show (Try.prog.info? 90).map (·.size) = some (wc x).length by rw [wc_length hx.2]; exact size68)
   have HRr := Lib.hid hr
   have HFr := Lib.hid hf
   have HCs := Lib.hid (show (Try.prog.info? 90).map (·.size) = some (wc x).toArray.size by rw [List.size_toArray, wc_length hx.2]; exact size68)
   have HZC := Lib.hid (show Z.size = (wc x).toArray.size by rw [HZ.out]; simp [wc_length hx.2])
   rw [hA]
   have hA2 := Lib.hid hA
   have H1 := Lib.hid hx
   clear hxe hat hr hf hA hx
   go_wp2_with (first
    | (refine wpList_load_mid rfl 90 (.tmp 11) rfl gL (k * 65) rfl (wc x) _ HAt.out Try.underlying90 rfl HXl.out ?_)
    | (refine wpList_store_row rfl 90 (.tmp 3) (.tmp 12) rfl wr.heap.size (wc x).toArray rfl rfl 90 Z (heap_alloc_new wr _) HCs.out HZC.out (wc_all x) ?_))
   simp only [Act.put]
   obtain ⟨g3, hg3⟩ : ∃ g3, g3 = wr.heap.size := ⟨_, rfl⟩
   rw [← hg3]
   obtain ⟨W2, hW2⟩ : ∃ W2, W2 = (wr.alloc (Obj.cells Z 90)).setRow g3 (wc x).toArray := ⟨_, rfl⟩
   rw [← hW2]
   rw [hg3, World.setRow_alloc_new] at hW2
   have hr2 : Raw D W2 y F L (zeroed (newL F.length L) L k) f a b := by rw [hW2]; exact HRr.out.alloc _
   have hx0 : W2.cell? ⟨g3, 0, none⟩ = some (.int .i64 (x.1 : Int)) := by
    rw [hW2, hg3, cell_of_row _ wr.heap.size 0 _ 90 (0, 0) (heap_alloc_new wr _)]; rfl
   have hf2 : Fr D w W2 := by rw [hW2]; exact HFr.out.alloc _
   have c2 := hr2.c2
   have hxl : x.1 < (zeroed (newL F.length L) L k).length := by rw [zeroed_length, newL_length]; exact H1.out.1
   have hx5 : ((x.1 : Nat) : Int) < ((zeroed (newL F.length L) L k).length : Int) := by omega
   have hx6 : (0 : Int) ≤ ((x.1 : Nat) : Int) := by omega
   obtain ⟨q, hq⟩ : ∃ q, (zeroed (newL F.length L) L k)[x.1]? = some q := ⟨_, List.getElem?_eq_getElem hxl⟩
   have hxc := hr2.newAt hq
   have hxf := hr2.rn.frozenAt x.1
   unfold iv at hxc
   have HR2 := Lib.hid hr2
   have HF2 := Lib.hid hf2
   have HW2 := Lib.hid hW2
   have HG3 := Lib.hid hg3
   clear hr2 hf2 hW2 hg3 hq z68 hxl
   obtain ⟨M, hM⟩ : ∃ M, M = zeroed (newL F.length L) L k := ⟨_, rfl⟩
   rw [← hM] at c2 hx5
   have HM := Lib.hid hM
   clear hM
   go_region
   all_goals
    go_wp2
    go_roundw
    case rel =>
     refine ⟨k + 1, by omega, by go_num, ?_, ?_⟩
     ·have := HR2.out.setNew x.1 0
      have e : zeroed (newL F.length L) L (k + 1) = (zeroed (newL F.length L) L k).set x.1 0 := by rw [zeroed, ← HX.out]
      rw [e]
      exact this.same (fun _ _ => rfl) (Nat.le_refl _)
     ·exact (HF2.out.setCell (.inl HR2.out.dN) _).trans (E := fun _ => False) ⟨rfl, rfl, rfl, Nat.le_refl _, fun _ _ _ => rfl⟩ (fun _ h => h.elim)
    case measure => simp [intOf]; omega
  ·obtain rfl : k = L.length := by omega
   rw [zeroed_all] at hr
   have HRr := Lib.hid hr
   have HFr := Lib.hid hf
   have fz := hr.bd.frozen 1
   have c1 := hr.c1
   clear hr hf z68
   go_wp2
   go_end0
   exact ⟨rfl, HFr.out.setCell (.inl HRr.out.dg) _, HRr.out.clear⟩
end Go.Proofs.Ytmbkaedhllfoeaa
namespace Go.Proofs.Ytmbkaedhllfoeaa
open Go.RowKit Go.Rst Go.Dv
def NewS (w : World) (u : Value) : Prop := ∀ k, u.ownBlock = some k → w.heap.size ≤ k
theorem RB.fr {D : Nat → Prop} {w w' : World} {u : Value} {l : List UInt8} (h : RB w u l) (hf : Fr D w w') (hn : l ≠ [] → ∀ k, u.ownBlock = some k → ¬ D k) : RB w' u l := by
 obtain ⟨A, c, rfl, h1, h2, h3⟩ := h
 refine ⟨A, c, rfl, h1, h2, ?_⟩
 by_cases hl : l = []
 ·exact .inl hl
 rcases h3 with h3 | ⟨b, off, rfl, hb, hc⟩
 ·exact .inl h3
 ·have e := hf.block b hb (hn hl b rfl)
  exact .inr ⟨b, off, rfl, Nat.lt_of_lt_of_le hb hf.size, fun j hj => (World.cell?_of_block (a := ⟨b, off + j, none⟩) e).trans (hc j hj)⟩
theorem RB.blk {w : World} {g : Nat} {t : TypeId} {l : List UInt8} (h : Blk w g t (bvs l).toArray) (hl : l.length ≤ 100000) : RB w (.slice (some ⟨g, 0, none⟩) l.length l.length) l := by
 refine ⟨some ⟨g, 0, none⟩, l.length, rfl, Nat.le_refl _, by unfold maxLen; omega, .inr ⟨g, 0, rfl, h.lt, fun j hj => ?_⟩⟩
 rw [Nat.zero_add, h.cell, List.getElem?_toArray, bvs_get hj]
def Told (w : World) (l : List UInt8) (e : Ending) (w' : World) : Prop := ∃ u, e = .returned (.tuple #[u, .int .u16 0]) ∧ RB w' u l ∧ FB 88 w' w.heap.size u l ∧ NewS w u ∧ Below w.heap.size w w'
theorem Told.mk {w w' : World} {l : List UInt8} {g : Nat} (h : Blk w' g 88 (bvs l).toArray) (hl : l.length = 64) (hg : w.heap.size ≤ g) (hb : Below w.heap.size w w') : Told w l (.returned (.tuple #[.slice (some ⟨g, 0, none⟩) 64 64, .int .u16 0])) w' := by
 have := RB.blk h (by omega)
 rw [hl] at this
 have hfb : FB 88 w' w.heap.size (.slice (some ⟨g, 0, none⟩) 64 64) l := .inr ⟨g, 64, (bvs l).toArray, (0, 0), by rw [hl], hg, h, by omega, by unfold maxLen; omega, by rw [List.toList_toArray, hl, List.take_of_length_le (by rw [bvs_length]; omega)]⟩
 exact ⟨_, rfl, this, hfb, fun k hk => by simp [Value.ownBlock] at hk; omega, hb⟩
set_option maxRecDepth 100000 in
set_option maxHeartbeats 1000000 in
theorem read_any {D : Nat → Prop} {w : World} {v : Value} {s : Sim} (k : Nat) (h : Dev D w v s) (hi : k < s.firm.length) :
  Calls Try.prog 117 #[v, .int .i64 (k : Int)] w (Told w (s.read k)) := by
 have H := Lib.hid h
 have hhas : s.has k = true := Sim.has_iff.2 ⟨by omega, by omega⟩
 have HI := Lib.hid hhas
 obtain ⟨y, rfl, hr, hok, _⟩ := h
 have c0 := hr.c0
 have hFk := hok.firm_ hi
 have hat := hr.firmAt hok.f hi
 obtain ⟨d, hd⟩ : ∃ d, d = s.firm.getD k [] := ⟨_, rfl⟩
 rw [← hd] at hFk hat
 obtain ⟨Z, hZ⟩ : ∃ Z, Z = Array.replicate 64 (Value.int .u8 0) := ⟨_, rfl⟩
 have z66 := zero88
 rw [← hZ] at z66
 have HZ := Lib.hid hZ
 have HD := Lib.hid hd
 have HAt := Lib.hid hat
 have HR := Lib.hid hr
 have HO := Lib.hid hok
 have HFk := Lib.hid hFk
 have HXl := Lib.hid (show (Try.prog.info? 88).map (·.size) = some (bvs d).length by rw [bvs_length, hFk]; exact size66)
 have HCs := Lib.hid (show (Try.prog.info? 88).map (·.size) = some (bvs d).toArray.size by rw [List.size_toArray, bvs_length, hFk]; exact size66)
 have HZC := Lib.hid (show Z.size = (bvs d).toArray.size by rw [hZ]; simp [bvs_length, hFk])
 obtain ⟨q, hq⟩ : ∃ q, q = upTo s.loose k s.loose.length := ⟨_, rfl⟩
 have hr2 : Raw D ((w.alloc (Obj.cells Z 88)).setRow w.heap.size (bvs d).toArray) y s.firm s.loose (newL s.firm.length s.loose) s.fuse.isSome s.nw s.nf := by rw [World.setRow_alloc_new]; exact hr.alloc _
 have hb2 : Blk ((w.alloc (Obj.cells Z 88)).setRow w.heap.size (bvs d).toArray) w.heap.size 88 (bvs d).toArray := by rw [World.setRow_alloc_new]; exact heap_alloc_new w _
 have hbel : Below w.heap.size w ((w.alloc (Obj.cells Z 88)).setRow w.heap.size (bvs d).toArray) := by rw [World.setRow_alloc_new]; exact (Below.refl _ _).alloc (Nat.le_refl _) _
 have c2 := hr2.c2
 have hn := hr2.newAt (newL_get (L := s.loose) hi)
 rw [← hq] at hn
 have hnl : (newL s.firm.length s.loose).length = s.firm.length := newL_length _ _
 rw [hnl] at c2
 have HB2 := Lib.hid hb2
 have HBel := Lib.hid hbel
 have hk0 : (0 : Int) ≤ (k : Int) := by omega
 have hk1 : (k : Int) < (s.firm.length : Int) := by omega
 cases q with
 | zero =>
  have hn' : ((w.alloc (Obj.cells Z 88)).setRow w.heap.size (bvs d).toArray).cell? ⟨y.gN, k, none⟩ = some (.int .i64 0) := hn
  have HE := Lib.hid (show s.read k = d by unfold Sim.read; rw [← hq, if_pos rfl, hd])
  clear hr hok hFk hat hd hZ hq hr2 hb2 hbel hn hnl hhas
  rw [HE.out]
  go_enter Try.func117, Try.ntmps117
  go_wp2_with fail
  go_at_call 119
  refine (has_any _ H.out).mono ?_
  rintro e w' ⟨rfl, rfl⟩
  rw [HI.out]
  go_wp2_with (first
   | (refine wpList_load_mid rfl 88 (.tmp 17) rfl y.gF (k * 64) rfl (bvs d) _ HAt.out Try.underlying88 rfl HXl.out ?_)
   | (refine wpList_store_row rfl 88 (.tmp 6) (.tmp 18) rfl w.heap.size (bvs d).toArray rfl rfl 88 Z (heap_alloc_new w _) HCs.out HZC.out (bvs_all d) ?_))
  go_ret2
  exact Told.mk HB2.out HFk.out (Nat.le_refl _) HBel.out
 | succ n =>
  have hn' : ((w.alloc (Obj.cells Z 88)).setRow w.heap.size (bvs d).toArray).cell? ⟨y.gN, k, none⟩ = some (.int .i64 ((n : Int) + 1)) := hn
  have hle := upTo_le s.loose k s.loose.length
  rw [← hq] at hle
  have hnL : n < s.loose.length := by omega
  have hLw := hok.w
  obtain ⟨gL, hA, hn1, hn2, hn3, hat2⟩ := hr2.looseAt (fun x hx => (hok.l x hx).2) hnL
  have hx := hok.wat_ hnL
  obtain ⟨x, hxe⟩ : ∃ x, x = wat s.loose n := ⟨_, rfl⟩
  rw [← hxe] at hat2 hx
  have HE := Lib.hid (show s.read k = x.2 by unfold Sim.read; rw [← hq, if_neg (by omega), hxe]; rfl)
  have hx1 : ((w.alloc (Obj.cells Z 88)).setRow w.heap.size (bvs d).toArray).rangeAt gL (n * 65 + 1) (bvs x.2) := fun j v hv => by
   have := hat2 (j + 1) v (by exact hv)
   rw [Nat.add_assoc, Nat.add_comm 1 j]; exact this
  have c1 := hr2.c1
  rw [hA] at c1
  have HX1 := Lib.hid hx1
  have HXx := Lib.hid hx
  have HS := Lib.hid (show (Try.prog.info? 88).map (·.size) = some (bvs x.2).length by rw [bvs_length, hx.2]; exact size66)
  have HSa := Lib.hid (show (Try.prog.info? 88).map (·.size) = some (bvs x.2).toArray.size by rw [List.size_toArray, bvs_length, hx.2]; exact size66)
  have HDX := Lib.hid (show (bvs d).toArray.size = (bvs x.2).toArray.size by simp [bvs_length, hFk, hx.2])
  have hnm : (n : Int) ≤ 100000 := by omega
  clear hr hok hFk hat hd hZ hq hr2 hb2 hbel hn hnl hhas hle hat2 hx hxe hx1 hA hLw
  rw [HE.out]
  go_enter Try.func117, Try.ntmps117
  go_wp2_with fail
  go_at_call 119
  refine (has_any _ H.out).mono ?_
  rintro e w' ⟨rfl, rfl⟩
  rw [HI.out]
  go_wp2_with (first
   | (refine wpList_load_mid rfl 88 (.tmp 17) rfl y.gF (k * 64) rfl (bvs d) _ HAt.out Try.underlying88 rfl HXl.out ?_)
   | (refine wpList_store_row rfl 88 (.tmp 6) (.tmp 18) rfl w.heap.size (bvs d).toArray rfl rfl 88 Z (heap_alloc_new w _) HCs.out HZC.out (bvs_all d) ?_)
   | (refine wpList_load_mid rfl 88 (.tmp 35) rfl gL (n * 65 + 1) rfl (bvs x.2) _ HX1.out Try.underlying88 rfl HS.out ?_)
   | (refine wpList_store_row rfl 88 (.tmp 6) (.tmp 36) rfl w.heap.size (bvs x.2).toArray rfl rfl 88 (bvs d).toArray HB2.out HSa.out HDX.out (bvs_all x.2) ?_))
  go_ret2
  exact Told.mk (setRow_heap _ _ _ _ _ _ HB2.out) HXx.out.2 (Nat.le_refl _) (HBel.out.trans ⟨rfl, rfl, rfl, by simp, fun j hj => setRow_other _ _ j _ (by omega)⟩)
end Go.Proofs.Ytmbkaedhllfoeaa
namespace Go.Proofs.Ytmbkaedhllfoeaa
open Go.RowKit Go.Rst Go.Dv
def KB (D : Nat → Prop) (w : World) (v : Value) (K : List Bool) : Prop :=
 ∃ A c, v = .slice A K.length c ∧ (K = [] ∨ ∃ b off, A = some ⟨b, off, none⟩ ∧ b < w.heap.size ∧ ¬ D b ∧ ∀ j (h : j < K.length), w.cell? ⟨b, off + j, none⟩ = some (.bool K[j]))
theorem KB.nil_ (D : Nat → Prop) (w : World) : KB D w (.slice none 0 0) [] := ⟨none, 0, rfl, .inl rfl⟩
theorem KB.fr {D E : Nat → Prop} {w w' : World} {v : Value} {K : List Bool} (h : KB D w v K) (hf : Fr E w w') (hE : ∀ k, k < w.heap.size → E k → D k) : KB D w' v K := by
 obtain ⟨A, c, rfl, h1⟩ := h
 refine ⟨A, c, rfl, ?_⟩
 rcases h1 with h1 | ⟨b, off, rfl, hb, hn, hc⟩
 ·exact .inl h1
 ·exact .inr ⟨b, off, rfl, Nat.lt_of_lt_of_le hb hf.size, hn, fun j hj => (World.cell?_of_block (a := ⟨b, off + j, none⟩) (hf.block b hb (fun he => hn (hE b hb he)))).trans (hc j hj)⟩
theorem KB.other {D E : Nat → Prop} {w : World} {v : Value} {K : List Bool} (h : KB D w v K) (hE : ∀ k, k < w.heap.size → E k → D k) : KB E w v K := by
 obtain ⟨A, c, rfl, h1⟩ := h
 refine ⟨A, c, rfl, ?_⟩
 rcases h1 with h1 | ⟨b, off, rfl, hb, hn, hc⟩
 ·exact .inl h1
 ·exact .inr ⟨b, off, rfl, hb, fun he => hn (hE b hb he), hc⟩
end Go.Proofs.Ytmbkaedhllfoeaa
namespace Go.Proofs.Ytmbkaedhllfoeaa
open Go.RowKit Go.Rst Go.Dv
theorem addW (a b : Nat) (ha : a ≤ top64) (hb : b ≤ top64) : ∀ w, (binOp .add 51 (.complex .f64 a b) (.complex .f64 4607182418800017408 0)).run Try.prog w = .ok (.complex .f64 (fadd a one64) (fadd b 0)) w := fun w =>
 run_complex_sum w .add (.inl rfl) 51 .f64 _ _ _ _ _ _ (by unfold cSumBits; rw [(add_ok ha (by decide)).1, (add_ok hb (Nat.zero_le _)).1]; rfl)
theorem addF (a b : Nat) (ha : a ≤ top64) (hb : b ≤ top64) : ∀ w, (binOp .add 51 (.complex .f64 a b) (.complex .f64 0 4607182418800017408)).run Try.prog w = .ok (.complex .f64 (fadd a 0) (fadd b one64)) w := fun w =>
 run_complex_sum w .add (.inl rfl) 51 .f64 _ _ _ _ _ _ (by unfold cSumBits; rw [(add_ok ha (Nat.zero_le _)).1, (add_ok hb (by decide)).1]; rfl)
theorem wpList_cadd {P : Program} {w : World} {ops : Array Oper} {rest : List Oper} {o : Oper} {a : Act} {Q : Exit → Act → World → Prop} (hgd : o.guard = none) (x y : Operand) (ho : o.op = .binOp .add 51 x y 51)
  {u v r : Value} (hx : a.eval x = u) (hy : a.eval y = v) (hrun : ∀ w, (binOp .add 51 u v).run P w = .ok r w) (h : wpList P ops Q rest (a.put o.dst r) w) : wpList P ops Q (o :: rest) a w := by
 refine wpList_plain hgd fun K hK => ?_
 unfold Oper.wp execOp
 have e : (eqGuard .add 51 x y u v).run P w = .ok () w := rfl
 simp only [ho, hx, hy, Sem.run_bind, e, hrun, Result.andThen_ok, Sem.run_pure]
 exact hK _ _ h
set_option maxRecDepth 100000 in
set_option maxHeartbeats 1000000 in
theorem flush_any {D : Nat → Prop} {w : World} {v : Value} {s : Sim} (h : Dev D w v s) :
  Calls Try.prog 20 #[v] w fun e w' => e = .returned (.tuple #[]) ∧ Fr D w w' ∧ Dev D w' v s.flush := by
 have H := Lib.hid h
 obtain ⟨y0, rfl, _⟩ := h
 cases hg : s.goes with
 | false =>
  have HG := Lib.hid hg
  clear hg
  go_enter Try.func20, Try.ntmps20
  go_wp2_with fail
  go_at_call 38
  refine (passes_any H.out).mono ?_
  rintro e w1 ⟨rfl, hf, hd⟩
  rw [HG.out] at hd ⊢
  have HF := Lib.hid hf
  have HD := Lib.hid hd
  clear hf hd
  go_wp2
  refine bodyPost_ret (v := .tuple #[]) (results_none rfl _ _ _) rfl ?_
  refine ⟨rfl, HF.out, ?_⟩
  have e : s.flush = s := by simp [Sim.flush, HG.out]
  rw [e]
  exact HD.out
 | true =>
  have HG := Lib.hid hg
  clear hg
  go_enter Try.func20, Try.ntmps20
  go_wp2_with fail
  go_at_call 38
  refine (passes_any H.out).mono ?_
  rintro e w1 ⟨rfl, hf, hd⟩
  rw [HG.out] at hd ⊢
  rw [if_pos rfl] at hd
  obtain ⟨y, hy, hr, hok, hfu⟩ := hd
  have hy' : y0.g = y.g := by injection hy with hy; injection hy with hy; injection hy
  rw [hy']
  have HY := Lib.hid hy'
  have HF := Lib.hid hf
  have HOk := Lib.hid hok
  have HFu := Lib.hid hfu
  clear hy hy' hf hfu
  obtain ⟨S, hS⟩ : ∃ S, S = s.burnt := ⟨_, rfl⟩
  have e1 : S.firm = s.firm := by rw [hS]; rfl
  have e2 : S.loose = s.loose := by rw [hS]; rfl
  have e3 : S.nw = s.nw := by rw [hS]; rfl
  have e4 : S.nf = s.nf := by rw [hS]; rfl
  have hr0 : Raw D w1 y s.firm s.loose (newL s.firm.length s.loose) s.burnt.fuse.isSome s.nw s.nf := hr
  clear hr e1 e2 e3 e4 hS
  obtain ⟨F, hF⟩ : ∃ F, F = s.firm := ⟨_, rfl⟩
  obtain ⟨L, hL⟩ : ∃ L, L = s.loose := ⟨_, rfl⟩
  obtain ⟨f, hf⟩ : ∃ f, f = s.burnt.fuse.isSome := ⟨_, rfl⟩
  rw [← hF, ← hL, ← hf] at hr0
  have HFa := Lib.hid (show ∀ x ∈ F, x.length = 64 by rw [hF]; exact hok.f)
  have HL := Lib.hid (show ∀ x ∈ L, x.1 < F.length ∧ x.2.length = 64 by rw [hF, hL]; exact hok.l)
  have HF4 := Lib.hid (show F.length ≤ 4096 by rw [hF]; exact hok.n)
  have hLl : L.length ≤ 100000 := by rw [hL]; exact hok.w
  have HEF := Lib.hid hF
  have HEL := Lib.hid hL
  have HEf := Lib.hid hf
  have c1 := hr0.c1
  obtain ⟨Z, hZ⟩ : ∃ Z, Z = #[Value.int .i64 0] ++ Array.replicate 64 (Value.int .u8 0) := ⟨_, rfl⟩
  have z68 := zero90
  rw [← hZ] at z68
  have HZ := Lib.hid hZ
  have HR := Lib.hid hr0
  clear hZ hr0 hF hL hf hok
  obtain ⟨K, hK⟩ : ∃ K, K = List.replicate L.length true := ⟨_, rfl⟩
  have HK := Lib.hid hK
  clear hK
  go_wp2
  go_loopw [16] (fun i wr => ∃ k : Nat, k ≤ L.length ∧ i = .int .i64 k ∧ Raw D wr y (kept F L K k) L (newL F.length L) f s.nw s.nf ∧ Fr D w1 wr) (fun i _ => L.length - (intOf i).toNat)
  case atStart => exact ⟨0, Nat.zero_le _, rfl, HR.out, Fr.refl _ _⟩
  case round =>
   obtain ⟨k, hk, rfl, hr, hf⟩ := hrel
   clear c1
   by_cases hlt : k < L.length
   ·obtain ⟨gL, hA, hn1, hn2, hn3, hat⟩ := hr.looseAt (fun x hx => (HL.out x hx).2) hlt
    have hx := HL.out _ (wat_mem hlt)
    obtain ⟨x, hxe⟩ : ∃ x, x = wat L k := ⟨_, rfl⟩
    rw [← hxe] at hat hx
    have HX := Lib.hid hxe
    have HAt := Lib.hid hat
    have HXl := Lib.hid (show (Try.prog.info? 90).map (·.size) = some (wc x).length by rw [wc_length hx.2]; exact size68)
    have HRr := Lib.hid hr
    have HFr := Lib.hid hf
    have HCs := Lib.hid (show (Try.prog.info? 90).map (·.size) = some (wc x).toArray.size by rw [List.size_toArray, wc_length hx.2]; exact size68)
    have HZC := Lib.hid (show Z.size = (wc x).toArray.size by rw [HZ.out]; simp [wc_length hx.2])
    have HKf := Lib.hid (kept_all K HFa.out (fun x hx => (HL.out x hx).2) k hk)
    have HKl := Lib.hid (kept_length F L K k)
    rw [hA]
    have hA2 := Lib.hid hA
    have H1 := Lib.hid hx
    have hv : K.getD k false = true := by rw [HK.out]; simp [hlt]
    have e : kept F L K (k + 1) = (kept F L K k).set x.1 x.2 := by rw [kept, if_pos hv, ← HX.out]
    have HE := Lib.hid e
    clear hxe hat hr hf hA hx e hv
    go_wp2_with (first
     | (refine wpList_load_mid rfl 90 (.tmp 18) rfl gL (k * 65) rfl (wc x) _ HAt.out Try.underlying90 rfl HXl.out ?_)
     | (refine wpList_store_row rfl 90 (.tmp 3) (.tmp 19) rfl wr.heap.size (wc x).toArray rfl rfl 90 Z (heap_alloc_new wr _) HCs.out HZC.out (wc_all x) ?_))
    try simp only [Act.put]
    obtain ⟨g3, hg3⟩ : ∃ g3, g3 = wr.heap.size := ⟨_, rfl⟩
    rw [← hg3]
    obtain ⟨W2, hW2⟩ : ∃ W2, W2 = (wr.alloc (Obj.cells Z 90)).setRow g3 (wc x).toArray := ⟨_, rfl⟩
    rw [← hW2]
    rw [hg3, World.setRow_alloc_new] at hW2
    have hr2 : Raw D W2 y (kept F L K k) L (newL F.length L) f s.nw s.nf := by rw [hW2]; exact HRr.out.alloc _
    have hb3 : Blk W2 g3 90 (wc x).toArray := by rw [hW2, hg3]; exact heap_alloc_new wr _
    have hx0 : W2.cell? ⟨g3, 0, none⟩ = some (.int .i64 (x.1 : Int)) := hb3.cell 0
    have hx1 : W2.rangeAt g3 1 (bvs x.2) := fun j v hv => by
     rw [hb3.cell, Nat.add_comm, List.getElem?_toArray]
     exact hv
    have hf2 : Fr D w1 W2 := by rw [hW2]; exact HFr.out.alloc _
    have c0 := hr2.c0
    have hxl : x.1 < (kept F L K k).length := by rw [HKl.out]; exact H1.out.1
    have hx5 : ((x.1 : Nat) : Int) < ((kept F L K k).length : Int) := by omega
    have hx6 : (0 : Int) ≤ ((x.1 : Nat) : Int) := by omega
    have hth := hr2.firmThere HKf.out hxl
    have HTh := Lib.hid hth
    have HR2 := Lib.hid hr2
    have HF2 := Lib.hid hf2
    have HXl2 := Lib.hid hxl
    have HG3 := Lib.hid hg3
    have HX1 := Lib.hid hx1
    have HS66 := Lib.hid (show (Try.prog.info? 88).map (·.size) = some (bvs x.2).length by rw [bvs_length, H1.out.2]; exact size66)
    clear hr2 hf2 hW2 hth z68 hb3 hx1 hg3
    obtain ⟨M, hM⟩ : ∃ M, M = kept F L K k := ⟨_, rfl⟩
    rw [← hM] at c0 hx5
    have HM := Lib.hid hM
    clear hM hxl
    go_still_tail 9, (by kernel_rfl)
    refine still_load_mid rfl 88 (.tmp 26) rfl g3 1 rfl (bvs x.2) _ HX1.out Try.underlying88 rfl HS66.out ?_
    try simp only [Act.put, List.setIfInBounds_toArray, List.set_cons_zero, List.set_cons_succ]
    repeat still_step
    refine wpStill_nil ?_
    go_wp2_with (refine wpList_store_mid rfl 88 (.tmp 28) (.tmp 27) rfl y.gF (x.1 * 64) (bvs x.2).toArray rfl rfl (by rw [List.size_toArray, bvs_length, H1.out.2]; exact HTh.out) (by rw [List.size_toArray]; exact HS66.out) (bvs_all _) ?_)
    go_roundw
    case rel =>
     refine ⟨k + 1, by omega, by go_num, ?_, ?_⟩
     ·rw [HE.out]
      exact (HR2.out.same (w' := W2.drew) (fun _ _ => rfl) (Nat.le_refl _)).setFirm HKf.out HXl2.out H1.out.2
     ·exact (HF2.out.drew).setCells (.inl HR2.out.dF) _ _
    case measure => simp [intOf]; omega
   ·obtain rfl : k = L.length := by omega
    have hr' : Raw D wr y (kept F L K L.length) L (newL (kept F L K L.length).length L) f s.nw s.nf := by rw [kept_length]; exact hr
    have HRr := Lib.hid hr'
    have HFr := Lib.hid hf
    have HKf := Lib.hid (show ∀ x ∈ L, x.1 < (kept F L K L.length).length ∧ x.2.length = 64 by rw [kept_length]; exact HL.out)
    have HK4 := Lib.hid (show (kept F L K L.length).length ≤ 4096 by rw [kept_length]; exact HF4.out)
    clear hr hr' hf z68
    go_wp2_with fail
    go_at_call 39
    refine (forget_any HRr.out HKf.out HK4.out hLl).mono ?_
    rintro e w2 ⟨rfl, hf2, hr2⟩
    have fz := hr2.bd.frozen 5
    have c5 := hr2.c5
    rw [kept_length] at hr2
    have HR2 := Lib.hid hr2
    have HF2 := Lib.hid hf2
    have hadd := addF s.nw s.nf HOk.out.t.1 HOk.out.t.2
    have HA := Lib.hid hadd
    have hst : ∀ w, (store ⟨y.g, 5, none⟩ (.complex .f64 (fadd s.nw 0) (fadd s.nf one64))).run Try.prog w = stored Try.prog w ⟨y.g, 5, none⟩ (.complex .f64 (fadd s.nw 0) (fadd s.nf one64)) .plain := fun w => run_store Try.prog w _ _ _ rfl
    clear hr2 hf2 hadd
    go_wp2_with (refine wpList_cadd rfl (.tmp 35) (.const (.complex .f64 0 4607182418800017408)) rfl rfl rfl HA.out ?_)
    go_end0
    refine ⟨rfl, (((HF.out.trans HFr.out (fun _ h => .inl h)).trans HF2.out (fun _ h => .inl h)).setCell (.inl HRr.out.dg) _), ?_⟩
    have e : s.flush = { s.burnt.land (List.replicate s.loose.length true) with nw := fadd s.nw 0, nf := fadd s.nf one64 } := by simp [Sim.flush, HG.out]
    have hokf := HOk.out.land (List.replicate s.loose.length true)
    rw [e]
    have h7 := HR2.out.setTraf (fadd s.nw 0) (fadd s.nf one64)
    rw [HK.out, HEF.out, HEL.out, HEf.out] at h7
    refine ⟨{ y with A := none, c := 0 }, by rw [HY.out], ?_, ⟨hokf.n, hokf.f, hokf.l, hokf.w, hokf.u, (add_ok HOk.out.t.1 (Nat.zero_le _)).2, (add_ok HOk.out.t.2 (by decide)).2⟩, HFu.out⟩
    show Raw D _ _ (kept s.firm s.loose (List.replicate s.loose.length true) s.loose.length) [] (newL (kept s.firm s.loose (List.replicate s.loose.length true) s.loose.length).length []) s.burnt.fuse.isSome (fadd s.nw 0) (fadd s.nf one64)
    rw [kept_length]
    exact h7
end Go.Proofs.Ytmbkaedhllfoeaa
