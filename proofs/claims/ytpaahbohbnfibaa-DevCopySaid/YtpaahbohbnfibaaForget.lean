/-
  The contract of the device's forget: nothing is loose any more, whatever the device.
-/
import Derived.Test.YtpaahbohbnfibaaOps1
import Derived.RegionTactic
import Derived.ChangeAlike
import Derived.Deep.Draws
import Derived.Deep.WholeRow
import Derived.StillTailTactics
namespace Go.Proofs.Ytpaahbohbnfibaa
open Go.RowKit Go.Rst Go.Dv

/-- In a region whose last step alone writes: a whole array is read out of a block. -/
theorem still_load_mid {P : Program} {ops : Array Oper} {w : World} {Q : Act → Prop} {a : Act} {o : Oper} {rest : List Oper} (hgd : o.guard = none) (ty : TypeId) (x : Operand) (ho : o.op = .load ty x)
    (b off : Nat) (hx : a.eval x = .pointer (some ⟨b, off, none⟩)) (cs : List Value) (d : TypeDesc) (hc : w.rangeAt b off cs) (hu : P.underlying ty = some d) (hd : d.isRow = true) (hi : (P.info? ty).map (·.size) = some cs.length)
    (h : wpStill P ops w Q rest (a.put o.dst (.agg cs.toArray))) : wpStill P ops w Q (o :: rest) a := by
  unfold wpStill
  rw [if_pos (by simp [Region.wanted, hgd])]
  unfold Oper.still execOp
  simp only [ho, hx, Instr.loadAt, Instr.sureAddr, Sem.run_bind, Sem.run_pure, Result.andThen_ok, run_loadVar_mid w b off ty cs d hc hu hd hi]
  exact ⟨rfl, h⟩
theorem zero68 : ∀ w, (zeroValue 68).run Try.prog w = .ok (.agg (#[.int .i64 0] ++ Array.replicate 64 (.int .u8 0))) w := by
  intro w
  obtain ⟨i, hi, hz, _, _⟩ := info_parts info68
  simp [zeroValue, typeInfo, hi, hz]
theorem zero66 : ∀ w, (zeroValue 66).run Try.prog w = .ok (.agg (Array.replicate 64 (.int .u8 0))) w := by
  intro w
  obtain ⟨i, hi, hz, _, _⟩ := info_parts info66
  simp [zeroValue, typeInfo, hi, hz]
theorem size68 : (Try.prog.info? 68).map (·.size) = some 65 := by
  obtain ⟨i, hi, _, hs, _⟩ := info_parts info68
  rw [hi, Option.map_some, hs]
theorem size66 : (Try.prog.info? 66).map (·.size) = some 64 := by
  obtain ⟨i, hi, _, hs, _⟩ := info_parts info66
  rw [hi, Option.map_some, hs]
set_option maxRecDepth 100000 in
set_option maxHeartbeats 1000000 in
theorem forget_any {D : Nat → Prop} {w : World} {y : Lay} {F : List (List UInt8)} {L : List Wr} {f : Bool} {a b : Nat} (hr : Raw D w y F L (newL F.length L) f a b)
    (hL : ∀ x ∈ L, x.1 < F.length ∧ x.2.length = 64) (hF : F.length ≤ 4096) (hLl : L.length ≤ 100000) :
    Calls Try.prog 28 #[.pointer (some ⟨y.g, 0, none⟩)] w fun e w' => e = .returned (.tuple #[]) ∧ Fr D w w' ∧ Raw D w' { y with A := none, c := 0 } F [] (newL F.length []) f a b := by
  have c1 := hr.c1
  obtain ⟨Z, hZ⟩ : ∃ Z, Z = #[Value.int .i64 0] ++ Array.replicate 64 (Value.int .u8 0) := ⟨_, rfl⟩
  have z68 := zero68
  rw [← hZ] at z68
  have HZ := Lib.hid hZ
  have HR := Lib.hid hr
  have HL := Lib.hid hL
  have HF := Lib.hid hF
  clear hZ hr hL hF
  go_enter Try.func28, Try.ntmps28
  go_wp2
  go_loopw [9] (fun i wr => ∃ k : Nat, k ≤ L.length ∧ i = .int .i64 k ∧ Raw D wr y F L (zeroed (newL F.length L) L k) f a b ∧ Fr D w wr) (fun i _ => L.length - (intOf i).toNat)
  case atStart => exact ⟨0, Nat.zero_le _, rfl, HR.out, Fr.refl _ _⟩
  case round =>
    obtain ⟨k, hk, rfl, hr, hf⟩ := hrel
    clear c1
    by_cases hlt : k < L.length
    · obtain ⟨gL, hA, hn1, hn2, hn3, hat⟩ := hr.looseAt (fun x hx => (HL.out x hx).2) hlt
      have hx := HL.out _ (wat_mem hlt)
      obtain ⟨x, hxe⟩ : ∃ x, x = wat L k := ⟨_, rfl⟩
      rw [← hxe] at hat hx
      have HX := Lib.hid hxe
      have HAt := Lib.hid hat
      have HXl := Lib.hid (show (Try.prog.info? 68).map (·.size) = some (wc x).length by rw [wc_length hx.2]; exact size68)
      have HRr := Lib.hid hr
      have HFr := Lib.hid hf
      have HCs := Lib.hid (show (Try.prog.info? 68).map (·.size) = some (wc x).toArray.size by rw [List.size_toArray, wc_length hx.2]; exact size68)
      have HZC := Lib.hid (show Z.size = (wc x).toArray.size by rw [HZ.out]; simp [wc_length hx.2])
      rw [hA]
      have hA2 := Lib.hid hA
      have H1 := Lib.hid hx
      clear hxe hat hr hf hA hx
      go_wp2_with (first
        | (refine wpList_load_mid rfl 68 (.tmp 11) rfl gL (k * 65) rfl (wc x) _ HAt.out Try.underlying68 rfl HXl.out ?_)
        | (refine wpList_store_row rfl 68 (.tmp 3) (.tmp 12) rfl wr.heap.size (wc x).toArray rfl rfl 68 Z (heap_alloc_new wr _) HCs.out HZC.out (wc_all x) ?_))
      simp only [Act.put]
      obtain ⟨g3, hg3⟩ : ∃ g3, g3 = wr.heap.size := ⟨_, rfl⟩
      rw [← hg3]
      obtain ⟨W2, hW2⟩ : ∃ W2, W2 = (wr.alloc (Obj.cells Z 68)).setRow g3 (wc x).toArray := ⟨_, rfl⟩
      rw [← hW2]
      rw [hg3, World.setRow_alloc_new] at hW2
      have hr2 : Raw D W2 y F L (zeroed (newL F.length L) L k) f a b := by rw [hW2]; exact HRr.out.alloc _
      have hx0 : W2.cell? ⟨g3, 0, none⟩ = some (.int .i64 (x.1 : Int)) := by
        rw [hW2, hg3, cell_of_row _ wr.heap.size 0 _ 68 (0, 0) (heap_alloc_new wr _)]; rfl
      have hf2 : Fr D w W2 := by rw [hW2]; exact HFr.out.alloc _
      have c2 := hr2.c2
      have hxl : x.1 < (zeroed (newL F.length L) L k).length := by rw [zeroed_length, newL_length]; exact H1.out.1
      have hx5 : ((x.1 : Nat) : Int) < ((zeroed (newL F.length L) L k).length : Int) := by omega
      have hx6 : (0 : Int) ≤ ((x.1 : Nat) : Int) := by omega
      obtain ⟨q, hq⟩ : ∃ q, (zeroed (newL F.length L) L k)[x.1]? = some q := ⟨_, List.getElem?_eq_getElem hxl⟩
      have hxc := hr2.newAt hq
      have hxf := hr2.rn.frozenAt x.1
      unfold iv at hxc
      have HR2 := Lib.hid hr2
      have HF2 := Lib.hid hf2
      have HW2 := Lib.hid hW2
      have HG3 := Lib.hid hg3
      clear hr2 hf2 hW2 hg3 hq z68 hxl
      obtain ⟨M, hM⟩ : ∃ M, M = zeroed (newL F.length L) L k := ⟨_, rfl⟩
      rw [← hM] at c2 hx5
      have HM := Lib.hid hM
      clear hM
      go_region
      all_goals
        go_wp2
        go_roundw
        case rel =>
          refine ⟨k + 1, by omega, by go_num, ?_, ?_⟩
          · have := HR2.out.setNew x.1 0
            have e : zeroed (newL F.length L) L (k + 1) = (zeroed (newL F.length L) L k).set x.1 0 := by rw [zeroed, ← HX.out]
            rw [e]
            exact this.same (fun _ _ => rfl) (Nat.le_refl _)
          · exact (HF2.out.setCell (.inl HR2.out.dN) _).trans (E := fun _ => False) ⟨rfl, rfl, rfl, Nat.le_refl _, fun _ _ _ => rfl⟩ (fun _ h => h.elim)
        case measure => simp [intOf]; omega
    · obtain rfl : k = L.length := by omega
      rw [zeroed_all] at hr
      have HRr := Lib.hid hr
      have HFr := Lib.hid hf
      have fz := hr.bd.frozen 1
      have c1 := hr.c1
      clear hr hf z68
      go_wp2
      go_end0
      exact ⟨rfl, HFr.out.setCell (.inl HRr.out.dg) _, HRr.out.clear⟩
end Go.Proofs.Ytpaahbohbnfibaa
