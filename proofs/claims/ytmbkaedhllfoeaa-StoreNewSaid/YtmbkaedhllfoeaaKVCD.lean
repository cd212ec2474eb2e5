/-
 The contract of the device's Write: one more loose write, behind all; an error, or nothing, where the chapter says so.; The device's contracts where all its blocks are new: what was there stays.; The contract of the document's own New.
-/
import Derived.Great.BuildSlice
import Derived.Test.YtmbkaedhllfoeaaKVCB
import Derived.Test.YtmbkaedhllfoeaaKVCC
set_option linter.unusedVariables false
namespace Go.Proofs.Ytmbkaedhllfoeaa
open Go.RowKit Go.Rst Go.Dv
theorem fill_one {s : Nat} (hs : 0 < s) (v : Value) (cells : Array Value) (hv : v.cells.size = s) (hc : cells.size = s) : Instr.fill (fun i => some (i * s, s)) cells [(0, v)] = some v.cells := by
 obtain ⟨r, hr, hsz, hk⟩ := Great.fill_dense hs [v] 0 cells (fun u hu => by simp at hu; subst hu; exact hv) (by simp; omega)
 have e : ([v].zipIdx 0).map (fun x => (x.2, x.1)) = [(0, v)] := rfl
 rw [e] at hr
 rw [hr]
 congr 1
 apply Array.ext
 ·rw [hsz, hc, hv]
 ·intro k h1 h2
  have := hk k
  rw [if_pos ⟨by omega, by simp; omega⟩, Array.getElem?_eq_getElem h1, Nat.div_eq_of_lt (by omega), Nat.mod_eq_of_lt (by omega)] at this
  simp at this
  rw [Array.getElem?_eq_getElem h2] at this
  injection this
theorem src_wc {w w4 : World} {x : Wr} (hx : x.2.length = 64) (h : w4 = w.alloc (.cells (wc x).toArray 90)) : Src Try.prog 65 50 (.slice (some ⟨w.heap.size, 0, none⟩) 1 1) 1 (wc x) w4 := by
 subst h
 refine Src.ofSlice _ Try.underlying50 ⟨w.heap.size, 0, none⟩ 1 1 (wc x) (by rw [wc_length hx]) (fun j u hj => ?_) (wc_one x)
 rw [Addr.add_lit, Nat.zero_add, cell_of_row _ w.heap.size j _ 90 (0, 0) (heap_alloc_new w _), List.getElem?_toArray]
 exact hj
theorem step_load_mid {P : Program} {ops : Array Oper} {o : Oper} {a : Act} {w : World} {K : Act → World → Prop} {Q : Exit → Act → World → Prop} {E : Prop} (hgd : o.guard = none) (ty : TypeId) (x : Operand) (ho : o.op = .load ty x)
  (b off : Nat) (hx : a.eval x = .pointer (some ⟨b, off, none⟩)) (cs : List Value) (d : TypeDesc) (hc : w.rangeAt b off cs) (hu : P.underlying ty = some d) (hd : d.isRow = true) (hi : (P.info? ty).map (·.size) = some cs.length)
  (h : K (a.put o.dst (.agg cs.toArray)) w) : if Region.wanted o (yielded ops a.tmps) = true then Oper.wp P o a w K Q else E := by
 have hw : Region.wanted o (yielded ops a.tmps) = true := by simp [Region.wanted, hgd]
 rw [if_pos hw]
 exact wp_load_mid ty x ho b off hx cs d hc hu hd hi h
theorem step_buildOne {ops : Array Oper} {o : Oper} {a : Act} {w : World} {K : Act → World → Prop} {Q : Exit → Act → World → Prop} {E : Prop} (hgd : o.guard = none) (t e : TypeId) (x : Operand) (ho : o.op = .buildSlice t 1 #[(0, x)])
  (cs : List Value) (hx : a.eval x = .agg cs.toArray) (ht : Try.prog.underlying t = some (.slice e)) (hi : ∃ z : Value, (Try.prog.info? e).map (fun i => (i.zero, i.size)) = some (some z, cs.length) ∧ z.cells.size = cs.length ∧ 0 < cs.length ∧ cs.length ≤ 1000)
  (h : ∀ w', w' = w.alloc (.cells cs.toArray e) → Below w.heap.size w w' → K (a.put o.dst (.slice (some ⟨w.heap.size, 0, none⟩) 1 1)) w') : if Region.wanted o (yielded ops a.tmps) = true then Oper.wp Try.prog o a w K Q else E := by
 have hw : Region.wanted o (yielded ops a.tmps) = true := by simp [Region.wanted, hgd]
 rw [if_pos hw]
 obtain ⟨z, hz, hzs, h0, h1⟩ := hi
 cases hq : Try.prog.info? e with
 | none => rw [hq] at hz; simp at hz
 | some ie =>
  rw [hq] at hz
  simp only [Option.map_some, Option.some.injEq, Prod.mk.injEq] at hz
  have hrun := run_buildSlice (P := Try.prog) w t e 1 #[(0, .agg cs.toArray)] cs.toArray ie z ht hq hz.1 (by rw [hz.2]; omega) (by rw [hz.2]; omega) (by
   rw [hz.2]
   have hsz : ((Array.range (1 * cs.length)).map (z.cells[· % z.cells.size]!)).size = cs.length := by simp
   exact fill_one h0 (.agg cs.toArray) _ (by simp [Value.cells]) hsz)
  unfold Oper.wp execOp
  simp only [ho, List.map_toArray, List.map_cons, List.map_nil, hx, hrun, Sem.run_bind, Sem.run_pure, Result.andThen_ok]
  exact h _ rfl ((Below.refl _ _).alloc (Nat.le_refl _) _)
theorem step_append_src {P : Program} {w : World} {ops : Array Oper} {o : Oper} {a : Act} {K : Act → World → Prop} {Q : Exit → Act → World → Prop} {E : Prop} (hgd : o.guard = none) (s x : Operand) (t tx : TypeId)
  (ho : o.op = .call { callee := .builtin .append, args := #[s, x], argTypes := #[t, tx] })
  (base : Nat) (e : TypeId) (z : Value) (size bytes : Nat) (ht : P.underlying t = some (.slice e)) (hinfo : (P.info? e).map (fun i => (i.zero, i.size, i.bytes)) = some (some z, size, bytes))
  (hzs : z.cells.size = size)
  {v : Value} {n : Nat} {xs : List Value} (hs : a.eval s = v) (hown : w.ownsRow base e size v n xs)
  {xv : Value} {m : Nat} {news : List Value} (hx : a.eval x = xv) (hsrc : Src P size tx xv m news w)
  (h63 : n + m ≤ maxLen) (hbytes : (n + m) * bytes ≤ 140737488355328) (hbase : base ≤ w.heap.size)
  (h : ∀ v' w', w'.ownsRow base e size v' (n + m) (xs ++ news) → w.grownBy w' v.ownBlock → (v'.ownBlock = v.ownBlock ∨ v'.ownBlock = some w.heap.size) → K (a.put o.dst v') w') :
  if Region.wanted o (yielded ops a.tmps) = true then Oper.wp P o a w K Q else E := by
 have hw : Region.wanted o (yielded ops a.tmps) = true := by simp [Region.wanted, hgd]
 rw [if_pos hw]
 obtain ⟨i, hi, hz, hsz, hb⟩ := info_parts hinfo
 exact wp_append_src s x t tx ho base e i z size bytes ht hi hz hsz hb hzs hs hown hx hsrc h63 hbytes hbase h
theorem Raw.push {D : Nat → Prop} {w3 w4 w5 : World} {y : Lay} {F : List (List UInt8)} {L : List Wr} {N : List Nat} {f : Bool} {a b : Nat} {A5 : Option Addr} {c5 n : Nat} {x : Wr} (h : Raw D w3 y F L N f a b) (hb : Below w3.drew.heap.size w3.drew w4)
  (ho : w5.ownsRow 0 90 65 (.slice A5 (L.length + 1) c5) (L.length + 1) (wcs L ++ wc x)) (hg : w4.grownBy w5 (Value.ownBlock (.slice y.A L.length y.c)))
  (hk : Value.ownBlock (.slice A5 (L.length + 1) c5) = Value.ownBlock (.slice y.A L.length y.c) ∨ Value.ownBlock (.slice A5 (L.length + 1) c5) = some w4.heap.size) (hn : n = L.length + 1) :
  ∃ E : Nat → Prop, Raw E (w5.setCell ⟨y.g, 1, none⟩ (.slice A5 n c5)) { y with A := A5, c := c5 } F (L ++ [x]) N f a b ∧ (∀ k, D k → E k) ∧ ∀ k, E k → D k ∨ w3.heap.size ≤ k := by
 subst hn
 have hd : w3.drew.heap.size = w3.heap.size := rfl
 have hs4 := hb.size
 have hs5 := hg.size
 have hblk : ∀ k, k < w3.heap.size → some k ≠ Value.ownBlock (.slice y.A L.length y.c) → w5.heap[k]? = w3.heap[k]? := fun k hk hne => (hg.block k (by omega) hne).trans (hb.block k (by omega))
 have hA5 : ∀ p, A5 = some p → D p.block ∨ (w3.heap.size ≤ p.block ∧ p.block < w5.heap.size) := by
  intro p hp
  subst hp
  rcases hk with hk | hk
  ·obtain ⟨q, e, e2⟩ := ownBlock_some (p := y.A) (n := L.length) (c := y.c) (k := p.block) hk.symm
   exact .inl (e2 ▸ h.dA q e)
  ·have e : p.block = w4.heap.size := by simpa [Value.ownBlock] using hk
   have := (ho.lt _ rfl).2
   exact .inr ⟨by omega, this⟩
 have hne : ∀ k, (k = y.g ∨ k = y.gF ∨ k = y.gN) → some k ≠ Value.ownBlock (.slice y.A L.length y.c) := by
  intro k hk he
  obtain ⟨q, e, e2⟩ := ownBlock_some he.symm
  have := h.n4 q e
  rcases hk with rfl | rfl | rfl
  ·exact this.1 e2
  ·exact this.2.1 e2
  ·exact this.2.2 e2
 have hset : ∀ k, k ≠ y.g → (w5.setCell ⟨y.g, 1, none⟩ (.slice A5 (L.length + 1) c5)).heap[k]? = w5.heap[k]? := fun k hk => Below.heap_setCell _ _ _ _ hk
 have hA5n : ∀ p, A5 = some p → p.block ≠ y.g ∧ p.block ≠ y.gF ∧ p.block ≠ y.gN := by
  intro p hp
  subst hp
  rcases hk with hk | hk
  ·obtain ⟨q, e, e2⟩ := ownBlock_some (p := y.A) (n := L.length) (c := y.c) (k := p.block) hk.symm
   have := h.n4 q e
   rw [e2] at this
   exact this
  ·have e : p.block = w4.heap.size := by simpa [Value.ownBlock] using hk
   have l1 := h.lt _ h.dg
   have l2 := h.lt _ h.dF
   have l3 := h.lt _ h.dN
   exact ⟨by omega, by omega, by omega⟩
 refine ⟨fun k => D k ∨ ∃ p, A5 = some p ∧ k = p.block, ⟨?_, ?_, ?_, ?_, .inl h.dg, .inl h.dF, .inl h.dN, fun p hp => .inr ⟨p, hp, rfl⟩, ?_, h.n1, h.n2, h.n3, hA5n⟩, fun k hk => .inl hk, ?_⟩
 ·have h1 : Blk w5 y.g 53 (dcs y F.length L.length N.length f a b) := h.bd.same (hblk _ (h.lt _ h.dg) (hne _ (.inl rfl)))
  have h2 := h1.set_ 1 (.slice A5 (L.length + 1) c5)
  rw [List.length_append]
  exact h2
 ·refine own_same h.rf (fun k hk => ?_)
  obtain ⟨q, e, rfl⟩ := ownBlock_some hk
  injection e with e
  subst e
  exact (hset _ (fun e => h.n1 e.symm)).trans (hblk _ (h.lt _ h.dF) (hne _ (.inr (.inl rfl))))
 ·rw [wcs_append, List.length_append]
  refine own_same ho (fun k hk => ?_)
  obtain ⟨q, e, rfl⟩ := ownBlock_some hk
  exact hset _ (hA5n q e).1
 ·refine own_same h.rn (fun k hk => ?_)
  obtain ⟨q, e, rfl⟩ := ownBlock_some hk
  injection e with e
  subst e
  exact (hset _ (fun e => h.n2 e.symm)).trans (hblk _ (h.lt _ h.dN) (hne _ (.inr (.inr rfl))))
 ·intro k hk
  have e : (w5.setCell ⟨y.g, 1, none⟩ (.slice A5 (L.length + 1) c5)).heap.size = w5.heap.size := by simp [World.setCell]
  rw [e]
  rcases hk with hk | ⟨p, hp, rfl⟩
  ·have := h.lt k hk; omega
  ·rcases hA5 p hp with h9 | h9
   ·have := h.lt _ h9; omega
   ·exact h9.2
 ·intro k hk
  rcases hk with hk | ⟨p, hp, rfl⟩
  ·exact .inl hk
  ·rcases hA5 p hp with h9 | h9
   ·exact .inl h9
   ·exact .inr h9.1
theorem Blk.setCells {g : Nat} {t : TypeId} : ∀ (vs : List Value) (i : Nat) (w : World) (cs : List Value), Blk w g t cs.toArray → Blk (w.setCells g i vs) g t (setL cs i vs).toArray
 | [], _, _, _, h => h
 | v :: r, i, _, cs, h => by
  have h1 := h.set_ i v
  rw [List.setIfInBounds_toArray] at h1
  exact Blk.setCells r (i + 1) _ _ h1
theorem setL_pad (k : Nat) (l : List UInt8) (hl : l.length ≤ 64) : setL (wc (k, List.replicate 64 0)) 1 (bvs l) = wc (k, pad l) := by
 have h1 : (wc (k, List.replicate 64 0)).length = 65 := wc_length (by simp)
 rw [setL_eq _ _ _ (by rw [h1, bvs_length]; omega), bvs_length]
 unfold wc pad
 rw [bvs_append, List.take_succ_cons, List.take_zero, Nat.add_comm 1, List.drop_succ_cons]
 have e : (bvs (List.replicate 64 (0 : UInt8))).drop l.length = bvs (List.replicate (64 - l.length) 0) := by
  unfold bvs
  rw [List.map_replicate, List.map_replicate, List.drop_replicate]
 rw [e]
 rfl
theorem built90 (k : Nat) : Try.prog.built 90 [(0, .int .i64 (k : Int))] = some (wc (k, List.replicate 64 0)).toArray := by kernel_rfl
theorem wpList_copy_mid {P : Program} {w : World} {ops : Array Oper} {rest : List Oper} {o : Oper} {a : Act} {Q : Exit → Act → World → Prop} (hgd : o.guard = none) (d s : Operand) (dT sT elem : TypeId)
  (ho : o.op = .call { callee := .builtin .copy, args := #[d, s], argTypes := #[dT, sT] }) (b off : Nat) (hd : a.eval d = .slice (some ⟨b, off, none⟩) 64 64) {sv : Value} (hs : a.eval s = sv) (l : List UInt8) (hl : l.length ≤ 64)
  (hRB : RB w sv l) (hth : w.there b off 64) (hu : P.underlying dT = some (.slice elem)) (hsz : (P.info? elem).map (·.size) = some 1)
  (h : wpList P ops Q rest (a.put o.dst (.int .i64 (l.length : Int))) (w.setCells b off (bvs l))) : wpList P ops Q (o :: rest) a w := by
 refine wpList_plain hgd fun K hK => ?_
 obtain ⟨A, c, rfl, h1, h2, h3⟩ := hRB
 have hrun : ∀ ty, (Builtin.copy_ #[dT, sT] ty #[.slice (some ⟨b, off, none⟩) 64 64, .slice A l.length c]).run P w = .ok (.int .i64 (l.length : Int)) (w.setCells b off (bvs l)) := by
  intro ty
  rcases h3 with rfl | ⟨b', off', rfl, hb', hc'⟩
  ·exact run_copy_none w dT sT ty elem _ _ 64 64 0 c hu hsz (by simp)
  ·have := run_copy_cells (P := P) w dT sT ty elem b off 64 64 ⟨b', off', none⟩ l.length c (bvs l) hu hsz (by rw [bvs_length]; exact (Nat.min_eq_left hl).symm) (fun j u hj => by
    have hj' : j < l.length := by have := (List.getElem?_eq_some_iff.1 hj).1; rwa [bvs_length] at this
    rw [bvs_get hj'] at hj
    injection hj with hj
    subst hj
    rw [Addr.add_lit]
    exact hc' j hj') (fun j hj => (hth j (by rw [bvs_length] at hj; omega)).1) (fun j hj => (hth j (by rw [bvs_length] at hj; omega)).2) bvs_one
   rw [bvs_length] at this
   exact this
 unfold Oper.wp execOp
 simp only [ho, resolve, invoke, builtin, Sem.run_bind, Sem.run_pure, Result.andThen_ok, List.map_toArray, List.map_cons, List.map_nil, hd, hs, hrun]
 exact hK _ _ h
set_option maxRecDepth 100000 in
set_option maxHeartbeats 2000000 in
theorem write_yes {D : Nat → Prop} {w : World} {v : Value} {s : Sim} (k : Nat) (b : Value) (l : List UInt8) (h : Dev D w v s) (hk : k < s.firm.length) (hl : l.length ≤ 64) (hg : s.goes = true) (hb : RB w b l) (hn : l ≠ [] → ∀ j, b.ownBlock = some j → ¬ D j) (hw : s.loose.length < 100000) :
  Calls Try.prog 118 #[v, .int .i64 (k : Int), b] w fun e w' => e = .returned (.int .u16 0) ∧ Did D w v (s.put k l) w' := by
 have H := Lib.hid h
 have HG := Lib.hid hg
 have HI := Lib.hid (show s.has k = true from Sim.has_iff.2 ⟨by omega, by omega⟩)
 have HB := Lib.hid hb
 have HN := Lib.hid hn
 obtain ⟨y0, rfl, _⟩ := h
 obtain ⟨A, c, rfl, _, _, _⟩ := hb
 clear hg hn
 obtain ⟨m, hm⟩ : ∃ m, m = l.length := ⟨_, rfl⟩
 have HM := Lib.hid hm
 have hm64 : (m : Int) ≤ 64 := by omega
 rw [← hm] at HB HN ⊢
 have HL := Lib.hid hl
 clear hm hl
 have hk0 : (0 : Int) ≤ (k : Int) := by omega
 have hk1 : (k : Int) < 4096 + 1 := by have := H.out.ok.n; omega
 go_enter Try.func118, Try.ntmps118
 go_wp2_with fail
 go_at_call 119
 refine (has_any _ H.out).mono ?_
 rintro e w' ⟨rfl, rfl⟩
 rw [HI.out]
 go_wp2_with fail
 go_at_call 38
 refine (passes_any H.out).mono ?_
 rintro e w1 ⟨rfl, hf, hd⟩
 rw [HG.out] at hd ⊢
 rw [if_pos rfl] at hd
 obtain ⟨y, hy, hr, hok, hfu⟩ := hd
 have hy' : y0.g = y.g := by injection hy with hy; injection hy with hy; injection hy
 rw [hy']
 have HY := Lib.hid hy'
 have HF := Lib.hid hf
 have HOk := Lib.hid hok
 have HFu := Lib.hid hfu
 have hr0 : Raw D w1 y s.firm s.loose (newL s.firm.length s.loose) s.burnt.fuse.isSome s.nw s.nf := hr
 have HB1 := Lib.hid (RB.fr HB.out hf HN.out)
 have HR := Lib.hid hr0
 clear hy hy' hf hfu hr hok hr0
 obtain ⟨Z, hZ⟩ : ∃ Z, Z = #[Value.int .i64 0] ++ Array.replicate 64 (Value.int .u8 0) := ⟨_, rfl⟩
 have z68 := zero90
 rw [← hZ] at z68
 have hC0 : (Z.setIfInBounds 0 (Value.int .i64 (k : Int))) = (wc (k, List.replicate 64 0)).toArray := by
  rw [hZ]
  unfold wc bvs
  rw [List.map_replicate]
  apply Array.toList_inj.1
  simp
  exact ⟨rfl, rfl⟩
 have HC0 := Lib.hid hC0
 have hC0s : (Z.setIfInBounds 0 (Value.int .i64 (k : Int))).size = 65 := by rw [hC0, List.size_toArray, wc_length (by simp)]
 have HBu := Lib.hid (show Try.prog.built 90 [(0, .int .i64 (k : Int))] = some (Z.setIfInBounds 0 (Value.int .i64 (k : Int))) by rw [hC0]; exact built90 k)
 have HCs := Lib.hid (show (Try.prog.info? 90).map (·.size) = some (Z.setIfInBounds 0 (Value.int .i64 (k : Int))).size by rw [hC0s]; exact size68)
 have HZC := Lib.hid (show Z.size = (Z.setIfInBounds 0 (Value.int .i64 (k : Int))).size by rw [hC0s, hZ]; simp)
 have HC1 := Lib.hid (show (Z.setIfInBounds 0 (Value.int .i64 (k : Int))).all (·.oneCell') = true by rw [hC0]; exact wc_all _)
 have hwW : (w1.alloc (Obj.cells Z 90)).setRow w1.heap.size (Z.setIfInBounds 0 (Value.int .i64 (k : Int))) = w1.alloc (Obj.cells (Z.setIfInBounds 0 (Value.int .i64 (k : Int))) 90) := World.setRow_alloc_new _ _ _ _
 have hth : ((w1.alloc (Obj.cells Z 90)).setRow w1.heap.size (Z.setIfInBounds 0 (Value.int .i64 (k : Int)))).there w1.heap.size 1 64 := fun j hj => by
  rw [hwW]
  have hbk : Blk (w1.alloc (Obj.cells (Z.setIfInBounds 0 (Value.int .i64 (k : Int))) 90)) w1.heap.size 90 (Z.setIfInBounds 0 (Value.int .i64 (k : Int))) := heap_alloc_new w1 _
  refine ⟨?_, hbk.frozen _⟩
  rw [hbk.cell, Array.getElem?_eq_getElem (by omega)]
  rfl
 have HTh := Lib.hid hth
 have HB2 := Lib.hid (show RB ((w1.alloc (Obj.cells Z 90)).setRow w1.heap.size (Z.setIfInBounds 0 (Value.int .i64 (k : Int)))) (.slice A m c) l by
  rw [hwW]; exact HB1.out.below ((Below.refl _ _).alloc (Nat.le_refl _) _))
 have HW := Lib.hid hwW
 have HS5 := Lib.hid (show (Try.prog.info? 5).map (·.size) = some 1 by obtain ⟨i, hi, _, hs, _⟩ := info_parts info5; rw [hi, Option.map_some, hs])
 clear hZ hC0 hC0s hwW hth
 go_wp2_with (first
  | (refine wpList_buildTo rfl 90 #[(0, .tmp 18)] rfl (some 19) rfl (Z.setIfInBounds 0 (Value.int .i64 (k : Int))) (by simp only [List.map_toArray, List.map_cons, List.map_nil]; exact HBu.out) ?_)
  | (refine wpList_store_row rfl 90 (.tmp 7) (.tmp 19) rfl w1.heap.size (Z.setIfInBounds 0 (Value.int .i64 (k : Int))) rfl rfl 90 Z (heap_alloc_new w1 _) HCs.out HZC.out HC1.out ?_)
  | (refine wpList_copy_mid rfl (.tmp 21) (.tmp 22) 22 22 5 rfl w1.heap.size 1 rfl rfl l HL.out HB2.out HTh.out Try.underlying22 HS5.out ?_))
 try simp only [Act.put, List.setIfInBounds_toArray, List.set_cons_zero, List.set_cons_succ]
 obtain ⟨g7, hg7⟩ : ∃ g7, g7 = w1.heap.size := ⟨_, rfl⟩
 rw [← hg7]
 obtain ⟨w3, hw3⟩ : ∃ w3, w3 = ((w1.alloc (Obj.cells Z 90)).setRow g7 (Z.setIfInBounds 0 (Value.int IntKind.i64 ↑k))).setCells g7 1 (bvs l) := ⟨_, rfl⟩
 rw [← hw3]
 obtain ⟨x, hx⟩ : ∃ x : Wr, x = (k, pad l) := ⟨_, rfl⟩
 have hxl : x.2.length = 64 := by rw [hx]; exact pad_length HL.out
 have hw3' := hw3
 rw [hg7, HW.out] at hw3'
 have hb7 : Blk w3 g7 90 (wc x).toArray := by
  rw [hw3', hg7, hx, ← setL_pad k l HL.out, HC0.out]
  exact Blk.setCells (bvs l) 1 _ _ (heap_alloc_new w1 _)
 have hr3 : Raw D w3 y s.firm s.loose (newL s.firm.length s.loose) s.burnt.fuse.isSome s.nw s.nf := by
  rw [hw3']
  exact (HR.out.alloc _).farL (fun hd => Nat.lt_irrefl _ (HR.out.lt _ hd)) _ _
 have hf3 : Fr D w w3 := by
  rw [hw3']
  exact (HF.out.alloc _).setCells (.inr HF.out.size) _ _
 have hc1 := hr3.c1
 have hf1 := hr3.bd.frozen 1
 have HG7 := Lib.hid (show w3.rangeAt g7 0 (wc x) from fun j u hj => by rw [Nat.zero_add, hb7.cell, List.getElem?_toArray]; exact hj)
 have HXl := Lib.hid (show (Try.prog.info? 90).map (·.size) = some (wc x).length by rw [wc_length hxl]; exact size68)
 have HX65 := Lib.hid (show ∃ z : Value, (Try.prog.info? 90).map (fun i => (i.zero, i.size)) = some (some z, (wc x).length) ∧ z.cells.size = (wc x).length ∧ 0 < (wc x).length ∧ (wc x).length ≤ 1000 from by
  obtain ⟨i, hi, hz, hs, _⟩ := info_parts info90
  refine ⟨_, by rw [hi, Option.map_some, hz, hs, wc_length hxl], ?_, ?_, ?_⟩ <;> rw [wc_length hxl] <;> simp [Value.cells])
 have HX64 := Lib.hid hxl
 have HR3 := Lib.hid hr3
 have HF3 := Lib.hid hf3
 have HF1 := Lib.hid hf1
 have HC1' := Lib.hid hc1
 have HGlt := Lib.hid (hr3.lt _ hr3.dg)
 have HOwnD := Lib.hid (show ∀ j, Value.ownBlock (.slice y.A s.loose.length y.c) = some j → D j ∨ w3.heap.size ≤ j from fun j hj => by
  obtain ⟨q, e, rfl⟩ := ownBlock_some hj; exact .inl (hr3.dA q e))
 have HOwnG := Lib.hid (show some y.g ≠ Value.ownBlock (.slice y.A s.loose.length y.c) from fun he => by
  obtain ⟨q, e, e2⟩ := ownBlock_some he.symm; exact (hr3.n4 q e).1 e2)
 have hlw := HOk.out.w
 have HLM := Lib.hid (show s.loose.length + 1 ≤ maxLen by unfold maxLen; omega)
 have HLB := Lib.hid (show (s.loose.length + 1) * 72 ≤ 140737488355328 by omega)
 have HZS := Lib.hid (show (Value.agg (#[.int .i64 0] ++ Array.replicate 64 (.int .u8 0))).cells.size = 65 from by simp [Value.cells])
 have HX := Lib.hid hx
 have HG7e := Lib.hid hg7
 clear hw3 hw3' hb7 hr3 hf3 hf1 hlw hx hg7 hxl z68
 refine wp_region_held_drew (S := fun X => Fr D w3 X) (by kernel_rfl) (Fr.refl _ _).drew (fun hHeld => ?_)
 refine wpAnyH_take (i := 0) (oi := { dst := some 24, op := Op.move (Operand.tmp 0), type := 23, pos := "dev.go:70", after := #[], guard := none }) (v := ?_) rfl (by kernel_rfl) (by kernel_rfl) (by kernel_rfl) (fun _ _ _ h => h) (Or.inl ⟨by rfl, ?_⟩) (by assumption) ?_
 rotate_left
 ·intro X hSw; go_simp; try (with_reducible rfl)
 try simp only [Act.put, List.setIfInBounds_toArray, List.set_cons_zero, List.set_cons_succ]
 refine wpAnyH_take (i := 1) (oi := { dst := some 25, op := Op.move (Operand.tmp 0), type := 23, pos := "dev.go:70", after := #[], guard := none }) (v := ?_) rfl (by kernel_rfl) (by kernel_rfl) (by kernel_rfl) (fun _ _ _ h => h) (Or.inl ⟨by rfl, ?_⟩) (by assumption) ?_
 rotate_left
 ·intro X hSw; go_simp; try (with_reducible rfl)
 try simp only [Act.put, List.setIfInBounds_toArray, List.set_cons_zero, List.set_cons_succ]
 refine wpAnyH_take (i := 2) (oi := { dst := some 26, op := Op.nilCheck (Operand.tmp 25), type := 0, pos := "dev.go:70", after := #[{ on := 1, ground := Ground.data }], guard := none }) (v := ?_) rfl (by kernel_rfl) (by kernel_rfl) (by kernel_rfl) (fun _ _ _ h => h) (Or.inl ⟨by rfl, ?_⟩) (by assumption) ?_
 rotate_left
 ·intro X hSw; go_simp; try (with_reducible rfl)
 try simp only [Act.put, List.setIfInBounds_toArray, List.set_cons_zero, List.set_cons_succ]
 refine wpAnyH_take (i := 3) (oi := { dst := some 27, op := Op.fieldAddr 53 (Operand.tmp 26) 1, type := 0, pos := "dev.go:70", after := #[{ on := 2, ground := Ground.data }], guard := none }) (v := ?_) rfl (by kernel_rfl) (by kernel_rfl) (by kernel_rfl) (fun _ _ _ h => h) (Or.inl ⟨by rfl, ?_⟩) (by assumption) ?_
 rotate_left
 ·intro X hSw; go_simp; try (with_reducible rfl)
 try simp only [Act.put, List.setIfInBounds_toArray, List.set_cons_zero, List.set_cons_succ]
 refine wpAnyH_ready (rs := [4, 5]) (by kernel_rfl) (by simp) ?_
 refine AllReadyH.cons (o := { dst := some 28, op := Op.load 50 (Operand.tmp 27), type := 50, pos := "dev.go:70", after := #[{ on := 3, ground := Ground.data }], guard := none }) rfl (fun K hK => ?_) (AllReadyH.cons (o := { dst := some 29, op := Op.load 90 (Operand.tmp 7), type := 90, pos := "dev.go:70", after := #[], guard := none }) rfl (fun K hK => ?_) AllReadyH.nil)
 ·try have hq9 : w4.cell? ⟨y.g, 1, none⟩ = some (.slice y.A s.loose.length y.c) := (World.cell?_of_block (a := ⟨y.g, 1, none⟩) (hbw4.block y.g HGlt.out)).trans HC1'.out
  have hq8 := HC1'.out
  go_simp
  clear hq8
  try clear hq9
  refine hK.out _ _ ?_ (fun _ => ?_)
  ·exact hHeld
  clear hK K
  try simp only [Act.put, List.setIfInBounds_toArray, List.set_cons_zero, List.set_cons_succ]
  refine wpAnyH_ready (rs := [5]) (by kernel_rfl) (by simp) ?_
  refine AllReadyH.cons (o := { dst := some 29, op := Op.load 90 (Operand.tmp 7), type := 90, pos := "dev.go:70", after := #[], guard := none }) rfl (fun K hK => ?_) AllReadyH.nil
  refine step_load_mid (by rfl) 90 (.tmp 7) (by rfl) g7 0 (by rfl) (wc x) _ HG7.out Try.underlying90 rfl HXl.out ?_
  refine hK.out _ _ ?_ (fun _ => ?_)
  ·exact hHeld
  clear hK K
  try simp only [Act.put, List.setIfInBounds_toArray, List.set_cons_zero, List.set_cons_succ]
  refine wpAnyH_ready (rs := [6]) (by kernel_rfl) (by simp) ?_
  refine AllReadyH.cons (o := { dst := some 30, op := Op.buildSlice 50 1 #[(0, Operand.tmp 29)], type := 50, pos := "dev.go:70", after := #[{ on := 5, ground := Ground.data }], guard := none }) rfl (fun K hK => ?_) AllReadyH.nil
  refine step_buildOne (by rfl) 50 90 (.tmp 29) (by rfl) (wc x) (by rfl) Try.underlying50 HX65.out ?_
  intro w4 hw4 hbw4
  have HW4 := Lib.hid hw4
  clear hw4
  have hHeld' := Fr.trans (E := fun _ => False) (Fr.refl D w3).drew (Fr.of_below hbw4) (fun _ h => h.elim)
  refine hK.out _ _ ?_ (fun _ => ?_)
  ·exact hHeld'
  clear hK K hHeld
  have hHeld := hHeld'
  clear hHeld'
  try simp only [Act.put, List.setIfInBounds_toArray, List.set_cons_zero, List.set_cons_succ]
  refine wpAnyH_ready (rs := [7]) (by kernel_rfl) (by simp) ?_
  refine AllReadyH.cons (o := { dst := some 31, op := Op.call { callee := Callee.builtin Builtin.append, args := #[Operand.tmp 28, Operand.tmp 30], argTypes := #[50, 50] }, type := 50, pos := "dev.go:70", after := #[{ on := 4, ground := Ground.data }, { on := 6, ground := Ground.data }], guard := none }) rfl (fun K hK => ?_) AllReadyH.nil
  refine step_append_src (by rfl) (.tmp 28) (.tmp 30) 50 50 (by rfl) 0 90 (.agg (#[.int .i64 0] ++ Array.replicate 64 (.int .u8 0))) 65 72 Try.underlying50 info90 HZS.out (by rfl) (own_below (w := w3.drew) HR3.out.rl hbw4) (by rfl) (src_wc (w := w3.drew) HX64.out HW4.out) HLM.out HLB.out (Nat.zero_le _) ?_
  intro v5 w5 hown5 hgrow5 hblk5
  obtain ⟨A5, c5, rfl, _⟩ := own_shape hown5
  have hHeld' := Fr.grown hHeld hgrow5 HOwnD.out
  refine hK.out _ _ ?_ (fun _ => ?_)
  ·exact hHeld'
  clear hK K hHeld
  have hHeld := hHeld'
  clear hHeld'
  try simp only [Act.put, List.setIfInBounds_toArray, List.set_cons_zero, List.set_cons_succ]
  refine wpAnyH_take (i := 8) (oi := { dst := some 32, op := Op.nilCheck (Operand.tmp 24), type := 0, pos := "dev.go:70", after := #[{ on := 0, ground := Ground.data }, { on := 0, ground := Ground.phase }, { on := 1, ground := Ground.phase }, { on := 2, ground := Ground.phase }, { on := 3, ground := Ground.phase }, { on := 4, ground := Ground.phase }, { on := 5, ground := Ground.phase }, { on := 6, ground := Ground.phase }, { on := 7, ground := Ground.phase }], guard := none }) (v := ?_) rfl (by kernel_rfl) (by kernel_rfl) (by kernel_rfl) (fun _ _ _ h => h) (Or.inl ⟨by rfl, ?_⟩) (by assumption) ?_
  rotate_left
  ·intro X hSw; go_simp; try (with_reducible rfl)
  try simp only [Act.put, List.setIfInBounds_toArray, List.set_cons_zero, List.set_cons_succ]
  refine wpAnyH_take (i := 9) (oi := { dst := some 33, op := Op.fieldAddr 53 (Operand.tmp 32) 1, type := 0, pos := "dev.go:70", after := #[{ on := 8, ground := Ground.data }, { on := 0, ground := Ground.phase }, { on := 1, ground := Ground.phase }, { on := 2, ground := Ground.phase }, { on := 3, ground := Ground.phase }, { on := 4, ground := Ground.phase }, { on := 5, ground := Ground.phase }, { on := 6, ground := Ground.phase }, { on := 7, ground := Ground.phase }], guard := none }) (v := ?_) rfl (by kernel_rfl) (by kernel_rfl) (by kernel_rfl) (fun _ _ _ h => h) (Or.inl ⟨by rfl, ?_⟩) (by assumption) ?_
  rotate_left
  ·intro X hSw; go_simp; try (with_reducible rfl)
  try simp only [Act.put, List.setIfInBounds_toArray, List.set_cons_zero, List.set_cons_succ]
  refine wpAnyH_ready (rs := [10]) (by kernel_rfl) (by simp) ?_
  refine AllReadyH.cons (o := { dst := none, op := Op.store 50 (Operand.tmp 33) (Operand.tmp 31), type := 0, pos := "dev.go:70", after := #[{ on := 9, ground := Ground.data }, { on := 7, ground := Ground.data }, { on := 7, ground := Ground.chain }, { on := 0, ground := Ground.phase }, { on := 1, ground := Ground.phase }, { on := 2, ground := Ground.phase }, { on := 3, ground := Ground.phase }, { on := 4, ground := Ground.phase }, { on := 5, ground := Ground.phase }, { on := 6, ground := Ground.phase }, { on := 7, ground := Ground.phase }], guard := none }) rfl (fun K hK => ?_) AllReadyH.nil
  have hq0 := hbw4.size
  have hq1 : w5.cell? ⟨y.g, 1, none⟩ = some (.slice y.A s.loose.length y.c) := (World.cell?_of_block (a := ⟨y.g, 1, none⟩) ((hgrow5.block y.g (Nat.lt_of_lt_of_le HGlt.out hq0) HOwnG.out).trans (hbw4.block y.g HGlt.out))).trans HC1'.out
  have hq2 : w5.frozen? ⟨y.g, 1, none⟩ = false := (World.frozen?_of_block (a := ⟨y.g, 1, none⟩) ((hgrow5.block y.g (Nat.lt_of_lt_of_le HGlt.out hq0) HOwnG.out).trans (hbw4.block y.g HGlt.out))).trans HF1.out
  go_simp
  clear hq0 hq1 hq2
  have hHeld' := Fr.setCell (p := ⟨y.g, 1, none⟩) hHeld (.inl HR3.out.dg) (.slice A5 (s.loose.length + 1) c5)
  refine hK.out _ _ ?_ (fun _ => ?_)
  ·exact hHeld'
  clear hK K hHeld
  have hHeld := hHeld'
  clear hHeld'
  try simp only [Act.put, List.setIfInBounds_toArray, List.set_cons_zero, List.set_cons_succ]
  refine wpAnyH_done (by kernel_rfl) ?_ _
  have hf5 := hHeld
  obtain ⟨E, hr5, hDE, hED⟩ := Raw.push HR3.out hbw4 hown5 hgrow5 hblk5 rfl
  clear hHeld hown5 hgrow5 hblk5 HW4 hbw4
  obtain ⟨W5, hW5⟩ : ∃ W5, W5 = w5.setCell ⟨y.g, 1, none⟩ (.slice A5 (s.loose.length + 1) c5) := ⟨_, rfl⟩
  rw [← hW5] at hr5 hf5 ⊢
  have c1 : W5.cell? ⟨y.g, 1, none⟩ = some (.slice A5 (s.loose.length + 1) c5) := by have := hr5.c1; rw [List.length_append] at this; exact this
  have c2 : W5.cell? ⟨y.g, 2, none⟩ = some (.slice (some ⟨y.gN, 0, none⟩) s.firm.length y.cN) := by have := hr5.c2; rw [newL_length] at this; exact this
  have hn := hr5.newAt (newL_get (L := s.loose) hk)
  have hnf5 := hr5.rn.frozenAt k
  have hk2 : (k : Int) < (s.firm.length : Int) := by omega
  have HR5 := Lib.hid hr5
  have HF5 := Lib.hid hf5
  have HDE := Lib.hid hDE
  have HED := Lib.hid hED
  clear hr5 hf5 hDE hED hW5
  unfold iv at hn
  go_wp2
  go_region
  clear c1 c2 hn hnf5
  obtain ⟨W6, hW6⟩ : ∃ W6, W6 = (W5.setCell ⟨y.gN, k, none⟩ (Value.int IntKind.i64 (↑s.loose.length + 1))).drew := ⟨_, rfl⟩
  rw [← hW6]
  have hr6 : Raw E W6 { y with A := A5, c := c5 } s.firm (s.loose ++ [x]) (newL s.firm.length (s.loose ++ [x])) s.burnt.fuse.isSome s.nw s.nf := by
   rw [hW6]
   have h9 := HR5.out.setNew k (s.loose.length + 1)
   have e9 : newL s.firm.length (s.loose ++ [x]) = (newL s.firm.length s.loose).set k (s.loose.length + 1) := by rw [← newL_set, HX.out]
   rw [e9]
   exact h9.same (fun _ _ => rfl) (Nat.le_refl _)
  have hf6 : Fr D w W6 := by
   rw [hW6]
   exact (HF3.out.trans (HF5.out.setCell (p := ⟨y.gN, k, none⟩) (.inl HR3.out.dN) _) (fun _ h => .inl h)).drew
  have c5' := hr6.c5
  have f5' := hr6.bd.frozen 5
  have HA := Lib.hid (addW s.nw s.nf HOk.out.t.1 HOk.out.t.2)
  have hst : ∀ w, (store ⟨y.g, 5, none⟩ (.complex .f64 (fadd s.nw one64) (fadd s.nf 0))).run Try.prog w = stored Try.prog w ⟨y.g, 5, none⟩ (.complex .f64 (fadd s.nw one64) (fadd s.nf 0)) .plain := fun w => run_store Try.prog w _ _ _ rfl
  have HR6 := Lib.hid hr6
  have HF6 := Lib.hid hf6
  clear hr6 hf6 hW6
  go_wp2_with (refine wpList_cadd rfl (.tmp 48) (.const (.complex .f64 4607182418800017408 0)) rfl rfl rfl HA.out ?_)
  go_ret
  refine ⟨rfl, E, ⟨{ y with A := A5, c := c5 }, by rw [HY.out], ?_, H.out.ok.put hk HL.out hw, HFu.out⟩, HF6.out.setCell (.inl HR3.out.dg) _, fun j hj => ?_⟩
  ·have h9 := HR6.out.setTraf (fadd s.nw one64) (fadd s.nf 0)
   rw [HX.out] at h9
   exact h9
  ·rcases HED.out j hj with h9 | h9
   ·exact .inl h9
   ·exact .inr (Nat.le_trans HF3.out.size h9)
 ·refine step_load_mid (by rfl) 90 (.tmp 7) (by rfl) g7 0 (by rfl) (wc x) _ HG7.out Try.underlying90 rfl HXl.out ?_
  refine hK.out _ _ ?_ (fun _ => ?_)
  ·exact hHeld
  clear hK K
  try simp only [Act.put, List.setIfInBounds_toArray, List.set_cons_zero, List.set_cons_succ]
  refine wpAnyH_ready (rs := [4, 6]) (by kernel_rfl) (by simp) ?_
  refine AllReadyH.cons (o := { dst := some 28, op := Op.load 50 (Operand.tmp 27), type := 50, pos := "dev.go:70", after := #[{ on := 3, ground := Ground.data }], guard := none }) rfl (fun K hK => ?_) (AllReadyH.cons (o := { dst := some 30, op := Op.buildSlice 50 1 #[(0, Operand.tmp 29)], type := 50, pos := "dev.go:70", after := #[{ on := 5, ground := Ground.data }], guard := none }) rfl (fun K hK => ?_) AllReadyH.nil)
  ·try have hq9 : w4.cell? ⟨y.g, 1, none⟩ = some (.slice y.A s.loose.length y.c) := (World.cell?_of_block (a := ⟨y.g, 1, none⟩) (hbw4.block y.g HGlt.out)).trans HC1'.out
   have hq8 := HC1'.out
   go_simp
   clear hq8
   try clear hq9
   refine hK.out _ _ ?_ (fun _ => ?_)
   ·exact hHeld
   clear hK K
   try simp only [Act.put, List.setIfInBounds_toArray, List.set_cons_zero, List.set_cons_succ]
   refine wpAnyH_ready (rs := [6]) (by kernel_rfl) (by simp) ?_
   refine AllReadyH.cons (o := { dst := some 30, op := Op.buildSlice 50 1 #[(0, Operand.tmp 29)], type := 50, pos := "dev.go:70", after := #[{ on := 5, ground := Ground.data }], guard := none }) rfl (fun K hK => ?_) AllReadyH.nil
   refine step_buildOne (by rfl) 50 90 (.tmp 29) (by rfl) (wc x) (by rfl) Try.underlying50 HX65.out ?_
   intro w4 hw4 hbw4
   have HW4 := Lib.hid hw4
   clear hw4
   have hHeld' := Fr.trans (E := fun _ => False) (Fr.refl D w3).drew (Fr.of_below hbw4) (fun _ h => h.elim)
   refine hK.out _ _ ?_ (fun _ => ?_)
   ·exact hHeld'
   clear hK K hHeld
   have hHeld := hHeld'
   clear hHeld'
   try simp only [Act.put, List.setIfInBounds_toArray, List.set_cons_zero, List.set_cons_succ]
   refine wpAnyH_ready (rs := [7]) (by kernel_rfl) (by simp) ?_
   refine AllReadyH.cons (o := { dst := some 31, op := Op.call { callee := Callee.builtin Builtin.append, args := #[Operand.tmp 28, Operand.tmp 30], argTypes := #[50, 50] }, type := 50, pos := "dev.go:70", after := #[{ on := 4, ground := Ground.data }, { on := 6, ground := Ground.data }], guard := none }) rfl (fun K hK => ?_) AllReadyH.nil
   refine step_append_src (by rfl) (.tmp 28) (.tmp 30) 50 50 (by rfl) 0 90 (.agg (#[.int .i64 0] ++ Array.replicate 64 (.int .u8 0))) 65 72 Try.underlying50 info90 HZS.out (by rfl) (own_below (w := w3.drew) HR3.out.rl hbw4) (by rfl) (src_wc (w := w3.drew) HX64.out HW4.out) HLM.out HLB.out (Nat.zero_le _) ?_
   intro v5 w5 hown5 hgrow5 hblk5
   obtain ⟨A5, c5, rfl, _⟩ := own_shape hown5
   have hHeld' := Fr.grown hHeld hgrow5 HOwnD.out
   refine hK.out _ _ ?_ (fun _ => ?_)
   ·exact hHeld'
   clear hK K hHeld
   have hHeld := hHeld'
   clear hHeld'
   try simp only [Act.put, List.setIfInBounds_toArray, List.set_cons_zero, List.set_cons_succ]
   refine wpAnyH_take (i := 8) (oi := { dst := some 32, op := Op.nilCheck (Operand.tmp 24), type := 0, pos := "dev.go:70", after := #[{ on := 0, ground := Ground.data }, { on := 0, ground := Ground.phase }, { on := 1, ground := Ground.phase }, { on := 2, ground := Ground.phase }, { on := 3, ground := Ground.phase }, { on := 4, ground := Ground.phase }, { on := 5, ground := Ground.phase }, { on := 6, ground := Ground.phase }, { on := 7, ground := Ground.phase }], guard := none }) (v := ?_) rfl (by kernel_rfl) (by kernel_rfl) (by kernel_rfl) (fun _ _ _ h => h) (Or.inl ⟨by rfl, ?_⟩) (by assumption) ?_
   rotate_left
   ·intro X hSw; go_simp; try (with_reducible rfl)
   try simp only [Act.put, List.setIfInBounds_toArray, List.set_cons_zero, List.set_cons_succ]
   refine wpAnyH_take (i := 9) (oi := { dst := some 33, op := Op.fieldAddr 53 (Operand.tmp 32) 1, type := 0, pos := "dev.go:70", after := #[{ on := 8, ground := Ground.data }, { on := 0, ground := Ground.phase }, { on := 1, ground := Ground.phase }, { on := 2, ground := Ground.phase }, { on := 3, ground := Ground.phase }, { on := 4, ground := Ground.phase }, { on := 5, ground := Ground.phase }, { on := 6, ground := Ground.phase }, { on := 7, ground := Ground.phase }], guard := none }) (v := ?_) rfl (by kernel_rfl) (by kernel_rfl) (by kernel_rfl) (fun _ _ _ h => h) (Or.inl ⟨by rfl, ?_⟩) (by assumption) ?_
   rotate_left
   ·intro X hSw; go_simp; try (with_reducible rfl)
   try simp only [Act.put, List.setIfInBounds_toArray, List.set_cons_zero, List.set_cons_succ]
   refine wpAnyH_ready (rs := [10]) (by kernel_rfl) (by simp) ?_
   refine AllReadyH.cons (o := { dst := none, op := Op.store 50 (Operand.tmp 33) (Operand.tmp 31), type := 0, pos := "dev.go:70", after := #[{ on := 9, ground := Ground.data }, { on := 7, ground := Ground.data }, { on := 7, ground := Ground.chain }, { on := 0, ground := Ground.phase }, { on := 1, ground := Ground.phase }, { on := 2, ground := Ground.phase }, { on := 3, ground := Ground.phase }, { on := 4, ground := Ground.phase }, { on := 5, ground := Ground.phase }, { on := 6, ground := Ground.phase }, { on := 7, ground := Ground.phase }], guard := none }) rfl (fun K hK => ?_) AllReadyH.nil
   have hq0 := hbw4.size
   have hq1 : w5.cell? ⟨y.g, 1, none⟩ = some (.slice y.A s.loose.length y.c) := (World.cell?_of_block (a := ⟨y.g, 1, none⟩) ((hgrow5.block y.g (Nat.lt_of_lt_of_le HGlt.out hq0) HOwnG.out).trans (hbw4.block y.g HGlt.out))).trans HC1'.out
   have hq2 : w5.frozen? ⟨y.g, 1, none⟩ = false := (World.frozen?_of_block (a := ⟨y.g, 1, none⟩) ((hgrow5.block y.g (Nat.lt_of_lt_of_le HGlt.out hq0) HOwnG.out).trans (hbw4.block y.g HGlt.out))).trans HF1.out
   go_simp
   clear hq0 hq1 hq2
   have hHeld' := Fr.setCell (p := ⟨y.g, 1, none⟩) hHeld (.inl HR3.out.dg) (.slice A5 (s.loose.length + 1) c5)
   refine hK.out _ _ ?_ (fun _ => ?_)
   ·exact hHeld'
   clear hK K hHeld
   have hHeld := hHeld'
   clear hHeld'
   try simp only [Act.put, List.setIfInBounds_toArray, List.set_cons_zero, List.set_cons_succ]
   refine wpAnyH_done (by kernel_rfl) ?_ _
   have hf5 := hHeld
   obtain ⟨E, hr5, hDE, hED⟩ := Raw.push HR3.out hbw4 hown5 hgrow5 hblk5 rfl
   clear hHeld hown5 hgrow5 hblk5 HW4 hbw4
   obtain ⟨W5, hW5⟩ : ∃ W5, W5 = w5.setCell ⟨y.g, 1, none⟩ (.slice A5 (s.loose.length + 1) c5) := ⟨_, rfl⟩
   rw [← hW5] at hr5 hf5 ⊢
   have c1 : W5.cell? ⟨y.g, 1, none⟩ = some (.slice A5 (s.loose.length + 1) c5) := by have := hr5.c1; rw [List.length_append] at this; exact this
   have c2 : W5.cell? ⟨y.g, 2, none⟩ = some (.slice (some ⟨y.gN, 0, none⟩) s.firm.length y.cN) := by have := hr5.c2; rw [newL_length] at this; exact this
   have hn := hr5.newAt (newL_get (L := s.loose) hk)
   have hnf5 := hr5.rn.frozenAt k
   have hk2 : (k : Int) < (s.firm.length : Int) := by omega
   have HR5 := Lib.hid hr5
   have HF5 := Lib.hid hf5
   have HDE := Lib.hid hDE
   have HED := Lib.hid hED
   clear hr5 hf5 hDE hED hW5
   unfold iv at hn
   go_wp2
   go_region
   clear c1 c2 hn hnf5
   obtain ⟨W6, hW6⟩ : ∃ W6, W6 = (W5.setCell ⟨y.gN, k, none⟩ (Value.int IntKind.i64 (↑s.loose.length + 1))).drew := ⟨_, rfl⟩
   rw [← hW6]
   have hr6 : Raw E W6 { y with A := A5, c := c5 } s.firm (s.loose ++ [x]) (newL s.firm.length (s.loose ++ [x])) s.burnt.fuse.isSome s.nw s.nf := by
    rw [hW6]
    have h9 := HR5.out.setNew k (s.loose.length + 1)
    have e9 : newL s.firm.length (s.loose ++ [x]) = (newL s.firm.length s.loose).set k (s.loose.length + 1) := by rw [← newL_set, HX.out]
    rw [e9]
    exact h9.same (fun _ _ => rfl) (Nat.le_refl _)
   have hf6 : Fr D w W6 := by
    rw [hW6]
    exact (HF3.out.trans (HF5.out.setCell (p := ⟨y.gN, k, none⟩) (.inl HR3.out.dN) _) (fun _ h => .inl h)).drew
   have c5' := hr6.c5
   have f5' := hr6.bd.frozen 5
   have HA := Lib.hid (addW s.nw s.nf HOk.out.t.1 HOk.out.t.2)
   have hst : ∀ w, (store ⟨y.g, 5, none⟩ (.complex .f64 (fadd s.nw one64) (fadd s.nf 0))).run Try.prog w = stored Try.prog w ⟨y.g, 5, none⟩ (.complex .f64 (fadd s.nw one64) (fadd s.nf 0)) .plain := fun w => run_store Try.prog w _ _ _ rfl
   have HR6 := Lib.hid hr6
   have HF6 := Lib.hid hf6
   clear hr6 hf6 hW6
   go_wp2_with (refine wpList_cadd rfl (.tmp 48) (.const (.complex .f64 4607182418800017408 0)) rfl rfl rfl HA.out ?_)
   go_ret
   refine ⟨rfl, E, ⟨{ y with A := A5, c := c5 }, by rw [HY.out], ?_, H.out.ok.put hk HL.out hw, HFu.out⟩, HF6.out.setCell (.inl HR3.out.dg) _, fun j hj => ?_⟩
   ·have h9 := HR6.out.setTraf (fadd s.nw one64) (fadd s.nf 0)
    rw [HX.out] at h9
    exact h9
   ·rcases HED.out j hj with h9 | h9
    ·exact .inl h9
    ·exact .inr (Nat.le_trans HF3.out.size h9)
  ·refine step_buildOne (by rfl) 50 90 (.tmp 29) (by rfl) (wc x) (by rfl) Try.underlying50 HX65.out ?_
   intro w4 hw4 hbw4
   have HW4 := Lib.hid hw4
   clear hw4
   have hHeld' := Fr.trans (E := fun _ => False) (Fr.refl D w3).drew (Fr.of_below hbw4) (fun _ h => h.elim)
   refine hK.out _ _ ?_ (fun _ => ?_)
   ·exact hHeld'
   clear hK K hHeld
   have hHeld := hHeld'
   clear hHeld'
   try simp only [Act.put, List.setIfInBounds_toArray, List.set_cons_zero, List.set_cons_succ]
   refine wpAnyH_ready (rs := [4]) (by kernel_rfl) (by simp) ?_
   refine AllReadyH.cons (o := { dst := some 28, op := Op.load 50 (Operand.tmp 27), type := 50, pos := "dev.go:70", after := #[{ on := 3, ground := Ground.data }], guard := none }) rfl (fun K hK => ?_) AllReadyH.nil
   try have hq9 : w4.cell? ⟨y.g, 1, none⟩ = some (.slice y.A s.loose.length y.c) := (World.cell?_of_block (a := ⟨y.g, 1, none⟩) (hbw4.block y.g HGlt.out)).trans HC1'.out
   have hq8 := HC1'.out
   go_simp
   clear hq8
   try clear hq9
   refine hK.out _ _ ?_ (fun _ => ?_)
   ·exact hHeld
   clear hK K
   try simp only [Act.put, List.setIfInBounds_toArray, List.set_cons_zero, List.set_cons_succ]
   refine wpAnyH_ready (rs := [7]) (by kernel_rfl) (by simp) ?_
   refine AllReadyH.cons (o := { dst := some 31, op := Op.call { callee := Callee.builtin Builtin.append, args := #[Operand.tmp 28, Operand.tmp 30], argTypes := #[50, 50] }, type := 50, pos := "dev.go:70", after := #[{ on := 4, ground := Ground.data }, { on := 6, ground := Ground.data }], guard := none }) rfl (fun K hK => ?_) AllReadyH.nil
   refine step_append_src (by rfl) (.tmp 28) (.tmp 30) 50 50 (by rfl) 0 90 (.agg (#[.int .i64 0] ++ Array.replicate 64 (.int .u8 0))) 65 72 Try.underlying50 info90 HZS.out (by rfl) (own_below (w := w3.drew) HR3.out.rl hbw4) (by rfl) (src_wc (w := w3.drew) HX64.out HW4.out) HLM.out HLB.out (Nat.zero_le _) ?_
   intro v5 w5 hown5 hgrow5 hblk5
   obtain ⟨A5, c5, rfl, _⟩ := own_shape hown5
   have hHeld' := Fr.grown hHeld hgrow5 HOwnD.out
   refine hK.out _ _ ?_ (fun _ => ?_)
   ·exact hHeld'
   clear hK K hHeld
   have hHeld := hHeld'
   clear hHeld'
   try simp only [Act.put, List.setIfInBounds_toArray, List.set_cons_zero, List.set_cons_succ]
   refine wpAnyH_take (i := 8) (oi := { dst := some 32, op := Op.nilCheck (Operand.tmp 24), type := 0, pos := "dev.go:70", after := #[{ on := 0, ground := Ground.data }, { on := 0, ground := Ground.phase }, { on := 1, ground := Ground.phase }, { on := 2, ground := Ground.phase }, { on := 3, ground := Ground.phase }, { on := 4, ground := Ground.phase }, { on := 5, ground := Ground.phase }, { on := 6, ground := Ground.phase }, { on := 7, ground := Ground.phase }], guard := none }) (v := ?_) rfl (by kernel_rfl) (by kernel_rfl) (by kernel_rfl) (fun _ _ _ h => h) (Or.inl ⟨by rfl, ?_⟩) (by assumption) ?_
   rotate_left
   ·intro X hSw; go_simp; try (with_reducible rfl)
   try simp only [Act.put, List.setIfInBounds_toArray, List.set_cons_zero, List.set_cons_succ]
   refine wpAnyH_take (i := 9) (oi := { dst := some 33, op := Op.fieldAddr 53 (Operand.tmp 32) 1, type := 0, pos := "dev.go:70", after := #[{ on := 8, ground := Ground.data }, { on := 0, ground := Ground.phase }, { on := 1, ground := Ground.phase }, { on := 2, ground := Ground.phase }, { on := 3, ground := Ground.phase }, { on := 4, ground := Ground.phase }, { on := 5, ground := Ground.phase }, { on := 6, ground := Ground.phase }, { on := 7, ground := Ground.phase }], guard := none }) (v := ?_) rfl (by kernel_rfl) (by kernel_rfl) (by kernel_rfl) (fun _ _ _ h => h) (Or.inl ⟨by rfl, ?_⟩) (by assumption) ?_
   rotate_left
   ·intro X hSw; go_simp; try (with_reducible rfl)
   try simp only [Act.put, List.setIfInBounds_toArray, List.set_cons_zero, List.set_cons_succ]
   refine wpAnyH_ready (rs := [10]) (by kernel_rfl) (by simp) ?_
   refine AllReadyH.cons (o := { dst := none, op := Op.store 50 (Operand.tmp 33) (Operand.tmp 31), type := 0, pos := "dev.go:70", after := #[{ on := 9, ground := Ground.data }, { on := 7, ground := Ground.data }, { on := 7, ground := Ground.chain }, { on := 0, ground := Ground.phase }, { on := 1, ground := Ground.phase }, { on := 2, ground := Ground.phase }, { on := 3, ground := Ground.phase }, { on := 4, ground := Ground.phase }, { on := 5, ground := Ground.phase }, { on := 6, ground := Ground.phase }, { on := 7, ground := Ground.phase }], guard := none }) rfl (fun K hK => ?_) AllReadyH.nil
   have hq0 := hbw4.size
   have hq1 : w5.cell? ⟨y.g, 1, none⟩ = some (.slice y.A s.loose.length y.c) := (World.cell?_of_block (a := ⟨y.g, 1, none⟩) ((hgrow5.block y.g (Nat.lt_of_lt_of_le HGlt.out hq0) HOwnG.out).trans (hbw4.block y.g HGlt.out))).trans HC1'.out
   have hq2 : w5.frozen? ⟨y.g, 1, none⟩ = false := (World.frozen?_of_block (a := ⟨y.g, 1, none⟩) ((hgrow5.block y.g (Nat.lt_of_lt_of_le HGlt.out hq0) HOwnG.out).trans (hbw4.block y.g HGlt.out))).trans HF1.out
   go_simp
   clear hq0 hq1 hq2
   have hHeld' := Fr.setCell (p := ⟨y.g, 1, none⟩) hHeld (.inl HR3.out.dg) (.slice A5 (s.loose.length + 1) c5)
   refine hK.out _ _ ?_ (fun _ => ?_)
   ·exact hHeld'
   clear hK K hHeld
   have hHeld := hHeld'
   clear hHeld'
   try simp only [Act.put, List.setIfInBounds_toArray, List.set_cons_zero, List.set_cons_succ]
   refine wpAnyH_done (by kernel_rfl) ?_ _
   have hf5 := hHeld
   obtain ⟨E, hr5, hDE, hED⟩ := Raw.push HR3.out hbw4 hown5 hgrow5 hblk5 rfl
   clear hHeld hown5 hgrow5 hblk5 HW4 hbw4
   obtain ⟨W5, hW5⟩ : ∃ W5, W5 = w5.setCell ⟨y.g, 1, none⟩ (.slice A5 (s.loose.length + 1) c5) := ⟨_, rfl⟩
   rw [← hW5] at hr5 hf5 ⊢
   have c1 : W5.cell? ⟨y.g, 1, none⟩ = some (.slice A5 (s.loose.length + 1) c5) := by have := hr5.c1; rw [List.length_append] at this; exact this
   have c2 : W5.cell? ⟨y.g, 2, none⟩ = some (.slice (some ⟨y.gN, 0, none⟩) s.firm.length y.cN) := by have := hr5.c2; rw [newL_length] at this; exact this
   have hn := hr5.newAt (newL_get (L := s.loose) hk)
   have hnf5 := hr5.rn.frozenAt k
   have hk2 : (k : Int) < (s.firm.length : Int) := by omega
   have HR5 := Lib.hid hr5
   have HF5 := Lib.hid hf5
   have HDE := Lib.hid hDE
   have HED := Lib.hid hED
   clear hr5 hf5 hDE hED hW5
   unfold iv at hn
   go_wp2
   go_region
   clear c1 c2 hn hnf5
   obtain ⟨W6, hW6⟩ : ∃ W6, W6 = (W5.setCell ⟨y.gN, k, none⟩ (Value.int IntKind.i64 (↑s.loose.length + 1))).drew := ⟨_, rfl⟩
   rw [← hW6]
   have hr6 : Raw E W6 { y with A := A5, c := c5 } s.firm (s.loose ++ [x]) (newL s.firm.length (s.loose ++ [x])) s.burnt.fuse.isSome s.nw s.nf := by
    rw [hW6]
    have h9 := HR5.out.setNew k (s.loose.length + 1)
    have e9 : newL s.firm.length (s.loose ++ [x]) = (newL s.firm.length s.loose).set k (s.loose.length + 1) := by rw [← newL_set, HX.out]
    rw [e9]
    exact h9.same (fun _ _ => rfl) (Nat.le_refl _)
   have hf6 : Fr D w W6 := by
    rw [hW6]
    exact (HF3.out.trans (HF5.out.setCell (p := ⟨y.gN, k, none⟩) (.inl HR3.out.dN) _) (fun _ h => .inl h)).drew
   have c5' := hr6.c5
   have f5' := hr6.bd.frozen 5
   have HA := Lib.hid (addW s.nw s.nf HOk.out.t.1 HOk.out.t.2)
   have hst : ∀ w, (store ⟨y.g, 5, none⟩ (.complex .f64 (fadd s.nw one64) (fadd s.nf 0))).run Try.prog w = stored Try.prog w ⟨y.g, 5, none⟩ (.complex .f64 (fadd s.nw one64) (fadd s.nf 0)) .plain := fun w => run_store Try.prog w _ _ _ rfl
   have HR6 := Lib.hid hr6
   have HF6 := Lib.hid hf6
   clear hr6 hf6 hW6
   go_wp2_with (refine wpList_cadd rfl (.tmp 48) (.const (.complex .f64 4607182418800017408 0)) rfl rfl rfl HA.out ?_)
   go_ret
   refine ⟨rfl, E, ⟨{ y with A := A5, c := c5 }, by rw [HY.out], ?_, H.out.ok.put hk HL.out hw, HFu.out⟩, HF6.out.setCell (.inl HR3.out.dg) _, fun j hj => ?_⟩
   ·have h9 := HR6.out.setTraf (fadd s.nw one64) (fadd s.nf 0)
    rw [HX.out] at h9
    exact h9
   ·rcases HED.out j hj with h9 | h9
    ·exact .inl h9
    ·exact .inr (Nat.le_trans HF3.out.size h9)
set_option maxRecDepth 100000 in
set_option maxHeartbeats 400000 in
theorem write_any {D : Nat → Prop} {w : World} {v : Value} {s : Sim} (i : Int) (b : Value) (l : List UInt8) (h : Dev D w v s) (hb : RB w b l) (hn : l ≠ [] → ∀ j, b.ownBlock = some j → ¬ D j) (hw : s.loose.length < 100000) :
  Calls Try.prog 118 #[v, .int .i64 i, b] w fun e w' => e = .returned (.int .u16 (s.wrote i l)) ∧ Did D w v (s.write i l) w' := by
 have H := Lib.hid h
 cases hh : s.has i with
 | false =>
  have e1 : s.wrote i l = 20 := by simp [Sim.wrote, hh]
  have e2 : s.write i l = s := by simp [Sim.write, hh]
  rw [e1, e2]
  have HH := Lib.hid hh
  clear h hb hn hh e1 e2
  go_enter Try.func118, Try.ntmps118
  go_wp2_with fail
  go_at_call 119
  refine (has_any _ H.out).mono ?_
  rintro e w' ⟨rfl, rfl⟩
  rw [HH.out]
  go_wp2
  go_ret
  exact ⟨rfl, Did.same H.out (Fr.refl _ _)⟩
 | true =>
  have hi := Sim.has_iff.1 hh
  obtain ⟨k, rfl⟩ : ∃ k : Nat, i = (k : Int) := ⟨i.toNat, by omega⟩
  by_cases hl : l.length ≤ 64
  ·have e1 : s.wrote k l = 0 := by simp [Sim.wrote, hh]; omega
   rw [e1]
   cases hg : s.goes with
   | true =>
    have e2 : s.write k l = s.put k l := by simp [Sim.write, hh, hl, hg]
    rw [e2]
    exact write_yes k b l h (by omega) hl hg hb hn hw
   | false =>
    have e2 : s.write k l = s := by simp [Sim.write, hg]
    rw [e2]
    have HH := Lib.hid hh
    have HG := Lib.hid hg
    obtain ⟨A, c, rfl, _, _, _⟩ := hb
    obtain ⟨m, hm⟩ : ∃ m, m = l.length := ⟨_, rfl⟩
    rw [← hm] at hl ⊢
    have hm64 : (m : Int) ≤ 64 := by omega
    clear h hn hh e1 e2 hg hm
    go_enter Try.func118, Try.ntmps118
    go_wp2_with fail
    go_at_call 119
    refine (has_any _ H.out).mono ?_
    rintro e w' ⟨rfl, rfl⟩
    rw [HH.out]
    go_wp2_with fail
    go_at_call 38
    refine (passes_any H.out).mono ?_
    rintro e w1 ⟨rfl, hf, hd⟩
    rw [HG.out] at hd ⊢
    have HF := Lib.hid hf
    have HD := Lib.hid hd
    clear hf hd
    go_wp2
    go_ret
    exact ⟨rfl, Did.same HD.out HF.out⟩
  ·have e1 : s.wrote k l = 3 := by simp [Sim.wrote, hh]; omega
   have e2 : s.write k l = s := by simp [Sim.write, hl]
   rw [e1, e2]
   have HH := Lib.hid hh
   obtain ⟨A, c, rfl, _, hc, _⟩ := hb
   unfold maxLen at hc
   obtain ⟨m, hm⟩ : ∃ m, m = l.length := ⟨_, rfl⟩
   rw [← hm] at hl ⊢
   have hm64 : 64 < (m : Int) := by omega
   clear h hn hh e1 e2 hm hc
   go_enter Try.func118, Try.ntmps118
   go_wp2_with fail
   go_at_call 119
   refine (has_any _ H.out).mono ?_
   rintro e w' ⟨rfl, rfl⟩
   rw [HH.out]
   go_wp2
   go_ret
   exact ⟨rfl, Did.same H.out (Fr.refl _ _)⟩
end Go.Proofs.Ytmbkaedhllfoeaa
namespace Go.Proofs.Ytmbkaedhllfoeaa
open Go.RowKit Go.Rst Go.Dv
section
variable {B : Nat} {w0 w : World} {v : Value} {s : Sim}
theorem own_ptr (h : Own B w v s) : ∃ g, v = .pointer (some ⟨g, 0, none⟩) := by
 obtain ⟨D, ⟨y, h1, _⟩, _⟩ := h
 exact ⟨y.g, h1⟩
theorem own_new (n : Nat) (w : World) (h : n ≤ 4096) (hB : B ≤ w.heap.size) : Calls Try.prog 6 #[.int .i64 (n : Int)] w fun e w' => ∃ g, e = .returned (.pointer (some ⟨g, 0, none⟩)) ∧ Own B w' (.pointer (some ⟨g, 0, none⟩)) (Sim.new n) ∧ Below B w w' := by
 refine (new_any n w h).mono ?_
 rintro e w' ⟨v, rfl, ho, hb⟩
 obtain ⟨g, rfl⟩ := own_ptr ho
 obtain ⟨D, h1, h2, h3⟩ := ho
 exact ⟨g, rfl, ⟨D, h1, fun k hk => Nat.le_trans hB (h2 k hk), Nat.le_trans hB h3⟩, hb.mono hB⟩
end
theorem new_firm (n : Nat) : (Sim.new n).firm.length = n := by simp [Sim.new]
end Go.Proofs.Ytmbkaedhllfoeaa
namespace Go.Proofs.Ytmbkaedhllfoeaa
open Go.RowKit Go.Rst Go.Dv
def z64D : List UInt8 := List.replicate 64 0
def BRd (B : Nat) (w : World) (v : Value) (k : Nat) : Prop := ∃ us : List Value, us.length = k ∧ w.ownsRow B 22 1 v k us ∧ ∀ u ∈ us, FB 5 w B u z64D
theorem BRd.setCell {B : Nat} {w : World} {v : Value} {k : Nat} (h : BRd B w v k) {p : Addr} (hp : p.block < B) (u : Value) : BRd B (w.setCell p u) v k := by
 obtain ⟨us, h1, h2, h3⟩ := h
 exact ⟨us, h1, ownsRow_setCell_below h2 hp u, fun x hx => (h3 x hx).setCell hp u⟩
theorem BRd.push {B k : Nat} {wr w2 w4 w5 : World} {v v5 : Value} {g : Nat} {us : List Value} (h1 : us.length = k) (h3 : ∀ u ∈ us, FB 5 wr B u z64D) (h2 : wr.ownsRow B 22 1 v k us) (ho : w2.ownsRow B 5 1 (.slice (some ⟨g, 0, none⟩) 64 64) 64 (madeCells (Value.int .u8 0).cells (64 * 1)).toList) (hg2 : wr.drew.grownBy w2 none) (hb4 : Below w2.heap.size w2 w4)
  (ho5 : w5.ownsRow B 22 1 v5 (k + 1) (us ++ [.slice (some ⟨g, 0, none⟩) 64 64])) (hg5 : w4.grownBy w5 v.ownBlock) : BRd B w5 v5 (k + 1) := by
 have h4 : w4.ownsRow B 22 1 v k us := own_below (own_grownD (w := wr.drew) h2 hg2) hb4
 refine ⟨us ++ [.slice (some ⟨g, 0, none⟩) 64 64], by simp [h1], ho5, fun u hu => ?_⟩
 rcases List.mem_append.1 hu with hu | hu
 ·have f2 : FB 5 w2 B u z64D := (h3 u hu).block_ fun b _ _ hb => (hg2.block b (Array.getElem?_eq_some_iff.1 hb).1 (by simp)).trans hb
  exact (f2.below hb4).grown h4 (by decide) hg5
 ·have e : (madeCells (Value.int .u8 0).cells (64 * 1)).toList = bvs z64D := by
   rw [Nat.mul_one]
   have := toList_madeCells_one (.int .u8 0) 64
   simpa [z64D, bvs, bv, Value.cells, List.map_replicate] using this
  rw [e] at ho
  have f2 : FB 5 w2 B (.slice (some ⟨g, 0, none⟩) 64 64) z64D := FB.own (l := z64D) (by simpa [z64D] using ho)
  obtain rfl : u = .slice (some ⟨g, 0, none⟩) 64 64 := by simpa using hu
  exact (f2.below hb4).grown h4 (by decide) hg5
end Go.Proofs.Ytmbkaedhllfoeaa
