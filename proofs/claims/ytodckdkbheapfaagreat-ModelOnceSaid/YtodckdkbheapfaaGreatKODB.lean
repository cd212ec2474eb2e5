/-
  The contracts of the program's deferred function of Do: it recovers an error, or finds none (layer model).
-/
import Derived.Defers
import Derived.Recover
import Derived.Test.YtodckdkbheapfaaGreatKODA
set_option linter.unusedVariables false
set_option linter.unusedVariables false
set_option linter.unusedSimpArgs false
namespace Go.Proofs.YtodckdkbheapfaaGreat
open Go.RowKit Go.Rst Go.Tp Go.Ts Go.Md
structure DF (w W : World) (SC OC : List Value) : Prop where
  s : Wh W w.heap.size SC 25
  o : Wh W (w.heap.size + 1) OC 41
  rs : Wh W (w.heap.size + 2) zT 25
  rr : Wh W (w.heap.size + 3) zR 37
  b : Below w.heap.size w W
  n : w.heap.size + 4 ≤ W.heap.size
def A4 (w : World) (SC OC : List Value) : World := (((w.alloc (.cells SC.toArray 25)).alloc (.cells OC.toArray 41)).alloc (.cells #[.int .i64 0, .int .i64 0, .int .i64 0, .slice none 0 0] 25)).alloc (.cells #[.int .u16 0, .int .i64 0, .slice none 0 0, .slice none 0 0] 37)
theorem DF.start (w : World) (SC OC : List Value) : DF w (A4 w SC OC) SC OC := by
  refine ⟨(((Wh.new w SC _).alloc _).alloc _).alloc _, ?_, ?_, ?_, ?_, ?_⟩
  · have := ((Wh.new (w.alloc (.cells SC.toArray 25)) OC 41).alloc (.cells #[.int .i64 0, .int .i64 0, .int .i64 0, .slice none 0 0] 25)).alloc (.cells #[.int .u16 0, .int .i64 0, .slice none 0 0, .slice none 0 0] 37)
    rw [World.size_alloc] at this
    exact this
  · have := (Wh.new ((w.alloc (.cells SC.toArray 25)).alloc (.cells OC.toArray 41)) zT 25).alloc (.cells #[.int .u16 0, .int .i64 0, .slice none 0 0, .slice none 0 0] 37)
    rw [World.size_alloc, World.size_alloc] at this
    exact this
  · have := Wh.new (((w.alloc (.cells SC.toArray 25)).alloc (.cells OC.toArray 41)).alloc (.cells #[.int .i64 0, .int .i64 0, .int .i64 0, .slice none 0 0] 25)) zR 37
    rw [World.size_alloc, World.size_alloc, World.size_alloc] at this
    exact this
  · exact ((((Below.refl w.heap.size w).alloc (Nat.le_refl _) _).alloc (by simp) _).alloc (by simp; omega) _).alloc (by simp; omega) _
  · simp [A4]
theorem DF.below {w W W2 : World} {SC OC : List Value} (h : DF w W SC OC) (hb : Below W.heap.size W W2) : DF w W2 SC OC :=
  ⟨h.s.below hb, h.o.below hb, h.rs.below hb, h.rr.below hb, h.b.trans (hb.mono h.b.size), Nat.le_trans h.n hb.size⟩
theorem d_on {w W : World} {SC OC : List Value} {c n l : Int} {rp : Rp} {u lv : Value} {K : Nat} {xs : List Sub} (h : DF w W SC OC) (hon : ON K W u xs) (hK : w.heap.size + 4 ≤ K) (hlv : RLt 45 8 CM W lv rp.list) :
    ON w.heap.size ((W.setRow (w.heap.size + 2) (stC c n l u).toArray).setRow (w.heap.size + 3) (rpC rp lv).toArray) u xs ∧ RLt 45 8 CM ((W.setRow (w.heap.size + 2) (stC c n l u).toArray).setRow (w.heap.size + 3) (rpC rp lv).toArray) lv rp.list ∧ Below w.heap.size w ((W.setRow (w.heap.size + 2) (stC c n l u).toArray).setRow (w.heap.size + 3) (rpC rp lv).toArray) := by
  have g1 := grown_row W (w.heap.size + 2) (stC c n l u).toArray
  have g2 := grown_row (W.setRow (w.heap.size + 2) (stC c n l u).toArray) (w.heap.size + 3) (rpC rp lv).toArray
  have hs1 := h.rs
  have hr1 := h.rr.setOther (k := w.heap.size + 2) (by omega) (stC c n l u).toArray
  have o1 := hon.kept g1 (by omega) ⟨_, _, hs1, by decide, by decide⟩
  have o2 := o1.kept g2 (by omega) ⟨_, _, hr1, by decide, by decide⟩
  have l1 := hlv.grown fixed_cm g1 (fun g e => by cases e; exact ⟨_, _, hs1, by decide⟩)
  have l2 := l1.grown fixed_cm g2 (fun g e => by cases e; exact ⟨_, _, hr1, by decide⟩)
  exact ⟨o2.mono (by omega), l2, below_setRow (below_setRow h.b (by omega) _) (by omega) _⟩
section
variable {P : Program} {ops : Array Oper} {Q : Exit → Act → List Frame → World → Prop} {rest : List Nat} {a a' : Act} {cs cs' : List Frame} {w : World}
theorem opS_rec (i : Nat) {o : Oper} {v : Value} {cs2 : List Frame} (hi : ops[i]? = some o) (hg : Region.wanted o (yielded ops a.tmps) = true) (hr : (execOp a.eval o).run P w = .ok .recover w) (hc : recoverD cs = some (v, cs2)) (hp : a.put o.dst v = a') (h : wpOpsS P ops Q rest a' cs2 w) : wpOpsS P ops Q (i :: rest) a cs w := by
  unfold wpOpsS
  rw [hi]
  simp only [hg, if_true]
  rw [hr]
  simp only [hc]
  rw [hp]
  exact h
theorem opS_none (i : Nat) {o : Oper} (hi : ops[i]? = some o) (hg : Region.wanted o (yielded ops a.tmps) = true) (hr : (execOp a.eval o).run P w = .ok .recover w) (hc : recoverD cs = none) (hp : a.put o.dst .nilIface = a') (h : wpOpsS P ops Q rest a' cs w) : wpOpsS P ops Q (i :: rest) a cs w := by
  unfold wpOpsS
  rw [hi]
  simp only [hg, if_true]
  rw [hr]
  simp only [hc]
  rw [hp]
  exact h
end
theorem opS (P : Program) {ops : Array Oper} {Q : Exit → Act → List Frame → World → Prop} {rest : List Nat} {a a' : Act} {cs : List Frame} {w : World} (i : Nat) {o : Oper} {v : Value} (hi : ops[i]? = some o) (hg : Region.wanted o (yielded ops a.tmps) = true) (hr : (execOp a.eval o).run P w = .ok (.value v) w) (hp : a.put o.dst v = a') (h : wpOpsS P ops Q rest a' cs w) : wpOpsS P ops Q (i :: rest) a cs w := by
  unfold wpOpsS
  rw [hi]
  simp only [hg, if_true]
  rw [hr]
  simp only [Oper.upon]
  rw [hp]
  exact h
theorem ta_nil (w : World) : (Instr.typeAssert .nilIface 20 35 true).run Tryz.prog w = .ok (.tuple #[.int .u16 0, .bool false]) w := by
  unfold Instr.typeAssert
  simp only [Sem.run_bind, run_underlying Tryz.underlying35, Result.andThen, Sem.run_pure, if_true]
  rw [show (zeroValue 35).run Tryz.prog w = .ok (.int .u16 0) w from by go_simp]
theorem ta_err (k : Int) (w : World) : (Instr.typeAssert (.iface 35 (.int .u16 k)) 20 35 true).run Tryz.prog w = .ok (.tuple #[.int .u16 k, .bool true]) w := by
  unfold Instr.typeAssert
  simp only [Sem.run_bind, run_underlying Tryz.underlying35, Result.andThen, Sem.run_pure, if_true]
section
variable {P : Program} {ops : Array Oper} {Q : Exit → Act → List Frame → World → Prop} {rest : List Nat} {a a' : Act} {cs : List Frame} {w : World}
theorem opS_ta (i : Nat) {o : Oper} {v val : Value} {x : Operand} {t u : TypeId} {c : Bool} (hi : ops[i]? = some o) (hg : o.guard = none) (ho : o.op = .typeAssert x t u c) (hx : a.eval x = val) (hr : (Instr.typeAssert val t u c).run P w = .ok v w) (hp : a.put o.dst v = a') (h : wpOpsS P ops Q rest a' cs w) : wpOpsS P ops Q (i :: rest) a cs w :=
  opS P i hi (by simp [Region.wanted, hg]) (by simp [execOp, ho, hx, hr, Result.andThen]) hp h
theorem opS_mv (i : Nat) {o : Oper} {v : Value} {x : Operand} (hi : ops[i]? = some o) (hg : o.guard = none) (ho : o.op = .move x ∨ o.op = .assign x) (hx : a.eval x = v) (hp : a.put o.dst v = a') (h : wpOpsS P ops Q rest a' cs w) : wpOpsS P ops Q (i :: rest) a cs w :=
  opS P i hi (by simp [Region.wanted, hg]) (by rcases ho with ho | ho <;> simp [execOp, ho, hx]) hp h
theorem opS_ex (i : Nat) {o : Oper} {v : Value} {vs : Array Value} {x : Operand} {k : Nat} (hi : ops[i]? = some o) (hg : o.guard = none) (ho : o.op = .extract x k) (hx : a.eval x = .tuple vs) (hv : vs[k]? = some v) (hp : a.put o.dst v = a') (h : wpOpsS P ops Q rest a' cs w) : wpOpsS P ops Q (i :: rest) a cs w :=
  opS P i hi (by simp [Region.wanted, hg]) (by simp [execOp, ho, hx, hv, Instr.extract]) hp h
end
set_option maxRecDepth 100000 in
theorem doD_idle (a b c : Value) (w : World) :
    CallsD Tryz.prog 32 #[a, b, c] .returning w fun e u' w' => e = .returned (.tuple #[]) ∧ u' = .returning ∧ w' = w := by
  refine callsD_of_wpS Tryz.func32 rfl fun c₀ cs hu => ?_
  apply wpS_seq
  apply wpS_region
  have hc : recoverD (c₀ :: cs) = none := by
    simp only [recoverD]
    rw [hu]
  show wpOpsS _ _ _ [0, 1, 2, 3, 4, 5, 6] { tmps := #[a, b, c, undef, undef, undef, undef, undef, undef, undef, undef, undef, undef, undef, undef], defers := [] } _ _
  refine opS_none (a' := { tmps := #[a, b, c, undef, undef, undef, .nilIface, undef, undef, undef, undef, undef, undef, undef, undef], defers := [] }) 0 rfl rfl rfl hc rfl ?_
  refine opS_ta (a' := { tmps := #[a, b, c, undef, undef, undef, .nilIface, (.tuple #[.int .u16 0, .bool false]), undef, undef, undef, undef, undef, undef, undef], defers := [] }) 1 rfl rfl rfl rfl (ta_nil w) rfl ?_
  refine opS_mv (a' := { tmps := #[a, b, c, undef, undef, (.tuple #[.int .u16 0, .bool false]), .nilIface, (.tuple #[.int .u16 0, .bool false]), undef, undef, undef, undef, undef, undef, undef], defers := [] }) 2 rfl rfl (.inl rfl) rfl rfl ?_
  refine opS_ex (a' := { tmps := #[a, b, c, undef, undef, (.tuple #[.int .u16 0, .bool false]), .nilIface, (.tuple #[.int .u16 0, .bool false]), (.int .u16 0), undef, undef, undef, undef, undef, undef], defers := [] }) 3 rfl rfl rfl rfl rfl rfl ?_
  refine opS_ex (a' := { tmps := #[a, b, c, undef, undef, (.tuple #[.int .u16 0, .bool false]), .nilIface, (.tuple #[.int .u16 0, .bool false]), (.int .u16 0), (.bool false), undef, undef, undef, undef, undef], defers := [] }) 4 rfl rfl rfl rfl rfl rfl ?_
  refine opS_mv (a' := { tmps := #[a, b, c, (.int .u16 0), undef, (.tuple #[.int .u16 0, .bool false]), .nilIface, (.tuple #[.int .u16 0, .bool false]), (.int .u16 0), (.bool false), undef, undef, undef, undef, undef], defers := [] }) 5 rfl rfl (.inr rfl) rfl rfl ?_
  refine opS_mv (a' := { tmps := #[a, b, c, (.int .u16 0), (.bool false), (.tuple #[.int .u16 0, .bool false]), .nilIface, (.tuple #[.int .u16 0, .bool false]), (.int .u16 0), (.bool false), undef, undef, undef, undef, undef], defers := [] }) 6 rfl rfl (.inr rfl) rfl rfl ?_
  show Code.wpS _ _ _ _ _ _
  refine wpS_of_wp ?_
  go_wp2
  refine ⟨rfl, .returning, ?_, _, results_none rfl _ _ _, rfl, rfl, rfl⟩
  cases c₀
  simp_all
def DPost (p : World) (s : St) (v : Value) (OC : List Value) (k : Int) (w' : World) : Prop := ∃ X u K, DF p X (stC s.clock s.next s.last v) OC ∧ ON K X u s.subs ∧ p.heap.size + 4 ≤ K ∧ w' = (X.setRow (p.heap.size + 2) (stC s.clock s.next s.last u).toArray).setRow (p.heap.size + 3) (rpC ⟨k, 0, []⟩ (.slice none 0 0)).toArray
set_option maxRecDepth 100000 in
set_option maxHeartbeats 4000000 in
theorem doD_panic (s : St) (A : Option Addr) (ca : Nat) (k : Int) (p : World) (OC : List Value) (w : World) (h : RS w (.slice A s.subs.length ca) s.subs) (hr : Rt s) (hD : DF p w (stC s.clock s.next s.last (.slice A s.subs.length ca)) OC) :
    CallsD Tryz.prog 32 #[.pointer (some ⟨p.heap.size, 0, none⟩), .pointer (some ⟨p.heap.size + 2, 0, none⟩), .pointer (some ⟨p.heap.size + 3, 0, none⟩)] (.panicking (errP k)) w fun e u' w' => e = .returned (.tuple #[]) ∧ u' = .panicking [{ v := .iface 35 (.int .u16 k), recovered := true }] ∧
      DPost p s (.slice A s.subs.length ca) OC k w' := by
  obtain ⟨a, ha⟩ : ∃ a, a = Value.pointer (some ⟨p.heap.size, 0, none⟩) := ⟨_, rfl⟩
  obtain ⟨b, hb⟩ : ∃ a, a = Value.pointer (some ⟨p.heap.size + 2, 0, none⟩) := ⟨_, rfl⟩
  obtain ⟨c, hcc⟩ : ∃ a, a = Value.pointer (some ⟨p.heap.size + 3, 0, none⟩) := ⟨_, rfl⟩
  rw [← ha, ← hb, ← hcc]
  have HDD := Lib.hid hD
  have HZ := Lib.hid hr.sized
  have HLN := Lib.hid hr.len
  have HR := Lib.hid h
  have HST := Lib.hid hD.s.range
  have HCU := Lib.hid (show Cut (stC s.clock s.next s.last (.slice A s.subs.length ca)) from Cut.mk_ _ _ _ rfl)
  clear hD hr h
  refine callsD_of_wpS Tryz.func32 rfl fun c₀ cs hu => ?_
  apply wpS_seq
  apply wpS_region
  have hc : recoverD (c₀ :: cs) = some (.iface 35 (.int .u16 k), { c₀ with mode := .panicking [{ v := .iface 35 (.int .u16 k), recovered := true }] } :: cs) := by
    simp only [recoverD]
    rw [hu]
    rfl
  show wpOpsS _ _ _ [0, 1, 2, 3, 4, 5, 6] { tmps := #[a, b, c, undef, undef, undef, undef, undef, undef, undef, undef, undef, undef, undef, undef], defers := [] } _ _
  refine opS_rec (a' := { tmps := #[a, b, c, undef, undef, undef, (.iface 35 (.int .u16 k)), undef, undef, undef, undef, undef, undef, undef, undef], defers := [] }) 0 rfl rfl rfl hc rfl ?_
  refine opS_ta (a' := { tmps := #[a, b, c, undef, undef, undef, (.iface 35 (.int .u16 k)), (.tuple #[.int .u16 k, .bool true]), undef, undef, undef, undef, undef, undef, undef], defers := [] }) 1 rfl rfl rfl rfl (ta_err k w) rfl ?_
  refine opS_mv (a' := { tmps := #[a, b, c, undef, undef, (.tuple #[.int .u16 k, .bool true]), (.iface 35 (.int .u16 k)), (.tuple #[.int .u16 k, .bool true]), undef, undef, undef, undef, undef, undef, undef], defers := [] }) 2 rfl rfl (.inl rfl) rfl rfl ?_
  refine opS_ex (a' := { tmps := #[a, b, c, undef, undef, (.tuple #[.int .u16 k, .bool true]), (.iface 35 (.int .u16 k)), (.tuple #[.int .u16 k, .bool true]), (.int .u16 k), undef, undef, undef, undef, undef, undef], defers := [] }) 3 rfl rfl rfl rfl rfl rfl ?_
  refine opS_ex (a' := { tmps := #[a, b, c, undef, undef, (.tuple #[.int .u16 k, .bool true]), (.iface 35 (.int .u16 k)), (.tuple #[.int .u16 k, .bool true]), (.int .u16 k), (.bool true), undef, undef, undef, undef, undef], defers := [] }) 4 rfl rfl rfl rfl rfl rfl ?_
  refine opS_mv (a' := { tmps := #[a, b, c, (.int .u16 k), undef, (.tuple #[.int .u16 k, .bool true]), (.iface 35 (.int .u16 k)), (.tuple #[.int .u16 k, .bool true]), (.int .u16 k), (.bool true), undef, undef, undef, undef, undef], defers := [] }) 5 rfl rfl (.inr rfl) rfl rfl ?_
  refine opS_mv (a' := { tmps := #[a, b, c, (.int .u16 k), (.bool true), (.tuple #[.int .u16 k, .bool true]), (.iface 35 (.int .u16 k)), (.tuple #[.int .u16 k, .bool true]), (.int .u16 k), (.bool true), undef, undef, undef, undef, undef], defers := [] }) 6 rfl rfl (.inr rfl) rfl rfl ?_
  show Code.wpS _ _ _ _ _ _
  refine wpS_of_wp ?_
  rw [ha, hb, hcc]
  clear ha hb hcc hc hu
  generalize hcs : ({ c₀ with mode := .panicking [{ v := .iface 35 (.int .u16 k), recovered := true }] } :: cs : List Frame) = cs2
  have HCS := Lib.hid hcs
  clear hcs
  go_wp2_with (first | (refine wpList_load_midG (by rfl) 25 (.tmp 0) rfl p.heap.size 0 rfl _ _ HST.out Tryz.underlying25 rfl HCU.out.infoL ?_) | fail)
  refine (ownS_any s (.slice A s.subs.length ca) _ HR.out HZ.out (by have := HLN.out; omega)).mono ?_
  rintro e w5 ⟨u, zs, rfl, hzm, hot, hoz, hb5⟩
  have hon := own_on hot hoz
  rw [hzm] at hon
  have HON := Lib.hid hon
  have HD5 := Lib.hid (HDD.out.below hb5)
  have HSA := Lib.hid (st_all s.clock s.next s.last (rl_one hon.rs))
  have HN5 := Lib.hid HDD.out.n
  have HRR := Lib.hid (HD5.out.rr.setOther (k := p.heap.size + 2) (by omega) (stC s.clock s.next s.last u).toArray)
  clear hot hoz hzm hb5 hon
  go_wp2_with (first | (refine wpList_store_row rfl 25 (.tmp 1) (.tmp 12) rfl (p.heap.size + 2) (stC s.clock s.next s.last u).toArray rfl rfl 25 zT.toArray HD5.out.rs size24 rfl HSA.out ?_) | (refine wpList_store_row rfl 37 (.tmp 2) (.tmp 14) rfl (p.heap.size + 3) (rpC ⟨k, 0, []⟩ (.slice none 0 0)).toArray rfl rfl 37 zR.toArray HRR.out sizeR rfl (rp_all _ rfl) ?_) | fail)
  refine ⟨rfl, .panicking [{ v := .iface 35 (.int .u16 k), recovered := true }], ?_, _, results_none rfl _ _ _, rfl, rfl, ?_⟩
  · exact HCS.out.symm
  · exact ⟨w5, u, _, HD5.out, HON.out, HN5.out, rfl⟩
end Go.Proofs.YtodckdkbheapfaaGreat
