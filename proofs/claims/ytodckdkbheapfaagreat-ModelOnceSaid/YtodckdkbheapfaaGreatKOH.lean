/-
  Words for structs in boxes, by value (layer state). No program but the seat's types.; Words for what Find hands back (layer state). No program but the seat's types.; A whole struct read at a step of a drawn region. No program.; The contract of the document's own Find (layer state).
-/
import Derived.Laws.CopyOwn
import Derived.Test.YtodckdkbheapfaaGreatKOG
set_option linter.unusedVariables false
set_option linter.unusedVariables false
namespace Go.Proofs.YtodckdkbheapfaaGreat
open Go.RowKit Go.Rst Go.Tp Go.Ts
def Wh (w : World) (g : Nat) (cs : List Value) (t : TypeId) : Prop := w.heap[g]? = some (.cells cs.toArray t (0, 0))
theorem Wh.lt {w : World} {g : Nat} {cs : List Value} {t : TypeId} (h : Wh w g cs t) : g < w.heap.size := (Array.getElem?_eq_some_iff.1 h).1
theorem Wh.below {w w' : World} {g : Nat} {cs : List Value} {t : TypeId} (h : Wh w g cs t) (hb : Below w.heap.size w w') : Wh w' g cs t := (hb.block g h.lt).trans h
theorem Wh.kept {w w' : World} {g : Nat} {cs : List Value} {t : TypeId} {row : Option Nat} (h : Wh w g cs t) (hg : w.grownBy w' row) (hne : some g ≠ row) : Wh w' g cs t := (hg.block g h.lt hne).trans h
theorem Wh.new (w : World) (cs : List Value) (t : TypeId) : Wh (w.alloc (.cells cs.toArray t)) w.heap.size cs t := heap_alloc_new w _
theorem Wh.alloc {w : World} {g : Nat} {cs : List Value} {t : TypeId} (h : Wh w g cs t) (o : Obj) : Wh (w.alloc o) g cs t := (Below.heap_alloc _ _ _ h.lt).trans h
theorem Wh.bx {w : World} {g : Nat} {cs : List Value} {t : TypeId} (h : Wh w g cs t) : BX w g cs := ⟨h.lt, fun i hi => by rw [cell_of_row w g i cs.toArray t (0, 0) h]; simp [hi]⟩
theorem Wh.range {w : World} {g : Nat} {cs : List Value} {t : TypeId} (h : Wh w g cs t) : w.rangeAt g 0 cs := h.bx.range
theorem Wh.set {w : World} {g : Nat} {cs : List Value} {t : TypeId} (h : Wh w g cs t) (ds : List Value) : Wh (w.setRow g ds.toArray) g ds t := setRow_heap w g _ _ t (0, 0) h
theorem Wh.setOther {w : World} {g : Nat} {cs : List Value} {t : TypeId} (h : Wh w g cs t) {k : Nat} (hk : g ≠ k) (ds : Array Value) : Wh (w.setRow k ds) g cs t := (setRow_other w k g ds hk).trans h
theorem Wh.set1 {w : World} {g : Nat} {cs : List Value} {t : TypeId} (h : Wh w g cs t) (i : Nat) (v : Value) : Wh (w.setCell ⟨g, i, none⟩ v) g (cs.set i v) t := by
  rw [setCell_eq_setRow w g i cs.toArray t (0, 0) v h]
  have := h.set (cs.set i v)
  simpa using this
theorem Wh.set1Other {w : World} {g : Nat} {cs : List Value} {t : TypeId} (h : Wh w g cs t) {k : Nat} (hk : g ≠ k) (i : Nat) (v : Value) : Wh (w.setCell ⟨k, i, none⟩ v) g cs t := (Below.heap_setCell w _ _ g hk).trans h
theorem Wh.frozen {w : World} {g : Nat} {cs : List Value} {t : TypeId} (h : Wh w g cs t) (i : Nat) : w.frozen? ⟨g, i, none⟩ = false := by simp [World.frozen?, show w.heap[g]? = _ from h]
def stC (c n l : Int) (v : Value) : List Value := [.int .i64 c, .int .i64 n, .int .i64 l, v]
theorem size24 : (Tryz.prog.info? 25).map (·.size) = some 4 := by kernel_rfl
theorem rs_at {w : World} {A : Option Addr} {n c : Nat} {l : List Sub} (h : RS w (.slice A n c) l) {k : Nat} (hk : k < l.length) : ∃ b off av qv, A = some ⟨b, off, none⟩ ∧ b < w.heap.size ∧ w.rangeAt b (off + k * 10) (subC l[k] av qv) ∧ RI w av l[k].acks ∧ RM w qv l[k].queue := by
  obtain ⟨b, off, cs, rfl, hb, hcs, hcell⟩ := h.at_ hk
  obtain ⟨av, qv, rfl, h1, h2⟩ := hcs
  exact ⟨b, off, av, qv, rfl, hb, CellsAt.range hcell, h1, h2⟩
theorem rso_at {w0 w : World} {A : Option Addr} {n c : Nat} {l : List Sub} (h : RSo w0 w (.slice A n c) l) {k : Nat} (hk : k < l.length) : ∃ b off av qv, A = some ⟨b, off, none⟩ ∧ b < w.heap.size ∧ w.rangeAt b (off + k * 10) (subC l[k] av qv) ∧ RI w0 av l[k].acks ∧ RM w0 qv l[k].queue := by
  obtain ⟨b, off, cs, rfl, hb, hcs, hcell⟩ := h.at_ hk
  obtain ⟨av, qv, rfl, h1, h2⟩ := hcs
  exact ⟨b, off, av, qv, rfl, hb, CellsAt.range hcell, h1, h2⟩
theorem sub_all (x : Sub) {av qv : Value} (ha : av.oneCell' = true) (hq : qv.oneCell' = true) : (subC x av qv).toArray.all (·.oneCell') = true :=
  all_oneCell_toArray (by
    intro v hv
    simp only [subC, List.mem_cons, List.not_mem_nil, or_false] at hv
    rcases hv with rfl | rfl | rfl | rfl | rfl | rfl | rfl | rfl | rfl | rfl <;> first | rfl | assumption)
theorem st_all (c n l : Int) {v : Value} (hv : v.oneCell' = true) : (stC c n l v).toArray.all (·.oneCell') = true :=
  all_oneCell_toArray (by
    intro u hu
    simp only [stC, List.mem_cons, List.not_mem_nil, or_false] at hu
    rcases hu with rfl | rfl | rfl | rfl <;> first | rfl | assumption)
theorem rl_one {α : Type} {sz : Nat} {C : World → α → List Value → Prop} {w : World} {v : Value} {xs : List α} (h : RL sz C w v xs) : v.oneCell' = true := by
  obtain ⟨A, c, rfl, _⟩ := h; rfl
theorem results_row_tmp {P : Program} {fn : Func} {p u : Tmp} {ty : TypeId} (h : fn.results = #[.cell p ty, .tmp u]) (tmps : Array Value) (w : World) (g : Nat) (cs : List Value) {t : TypeId} {d : TypeDesc} (hp : tmps.getD p undef = .pointer (some ⟨g, 0, none⟩)) (hg : Wh w g cs t)
    (hu : P.underlying ty = some d) (hd : d.isRow = true) (hi : (P.info? ty).map (·.size) = some cs.length) : (results fn tmps).run P w = .ok (.tuple #[.agg cs.toArray, tmps.getD u undef]) w := by
  rw [results_cell_tmp h, hp]
  have hl := run_loadVar_mid w g 0 ty cs d hg.range hu hd hi
  simp [asAddr, hl, Result.andThen]
theorem range_below {w w' : World} {b off : Nat} {cs : List Value} {B : Nat} (h : w.rangeAt b off cs) (hb : b < B) (hw : Below B w w') : w'.rangeAt b off cs := fun j v hv => (hw.cell (p := ⟨b, off + j, none⟩) hb).trans (h j v hv)
end Go.Proofs.YtodckdkbheapfaaGreat
set_option linter.unusedVariables false
namespace Go.Ts
theorem find_drop {l : List Sub} {id : Int} {k : Nat} (hk : k < l.length) (h : ∀ j (hj : j < l.length), j < k → l[j].id ≠ id) (he : l[k].id = id) : findS l id = some l[k] := by
  unfold findS
  rw [List.find?_eq_some_iff_getElem]
  refine ⟨by simpa using he, k, hk, rfl, fun j hj => by simpa using h j (by omega) hj⟩
theorem find_none {l : List Sub} {id : Int} (h : ∀ j (hj : j < l.length), l[j].id ≠ id) : findS l id = none := by
  unfold findS
  rw [List.find?_eq_none]
  intro x hx
  obtain ⟨j, hj, rfl⟩ := List.getElem_of_mem hx
  simpa using h j hj
end Go.Ts
namespace Go.Proofs.YtodckdkbheapfaaGreat
open Go.RowKit Go.Rst Go.Tp Go.Ts
def GivesF (w : World) (o : Option Sub) (e : Ending) (w' : World) : Prop := ∃ av qv, e = .returned (.tuple #[.agg (subC (o.getD noSub) av qv).toArray, .bool o.isSome]) ∧ RI w' av (o.getD noSub).acks ∧ RM w' qv (o.getD noSub).queue ∧ Below w.heap.size w w'
end Go.Proofs.YtodckdkbheapfaaGreat
set_option linter.unusedVariables false
namespace Go.Proofs.YtodckdkbheapfaaGreat
open Go.RowKit Go.Rst Go.Tp Go.Ts
theorem exec_load_mid {P : Program} {a : Act} {oi : Oper} {W : World} (ty : TypeId) (x : Operand) (ho : oi.op = .load ty x) (b o : Nat) (hx : a.eval x = .pointer (some ⟨b, o, none⟩)) (cs : List Value) (d : TypeDesc) (hc : W.rangeAt b o cs)
    (hu : P.underlying ty = some d) (hd : d.isRow = true) (hi : (P.info? ty).map (·.size) = some cs.length) : (execOp a.eval oi).run P W = .ok (.value (.agg cs.toArray)) W := by
  unfold execOp
  simp only [ho, hx, Instr.loadAt, Instr.sureAddr, Sem.run_bind, Sem.run_pure, Result.andThen_ok, run_loadVar_mid W b o ty cs d hc hu hd hi]
end Go.Proofs.YtodckdkbheapfaaGreat
set_option linter.unusedVariables false
namespace Go.Proofs.YtodckdkbheapfaaGreat
open Go.RowKit Go.Rst Go.Tp Go.Ts
set_option maxRecDepth 100000 in
set_option maxHeartbeats 8000000 in
theorem find_any (c n l : Int) (v : Value) (xs : List Sub) (id : Int) (w : World) (h : RS w v xs) : Calls Tryz.prog 15 #[.agg (stC c n l v).toArray, .int .i64 id] w (GivesF w (findS xs id)) := by
  have HV := Lib.hid h
  obtain ⟨A, ca, rfl, hac, ham⟩ := h.shape
  unfold maxLen at ham
  clear h
  generalize hr : findS xs id = r
  have HR := Lib.hid hr
  clear hr
  unfold stC
  have hwh := (Wh.new (w.alloc (.cells #[.int .i64 c, .int .i64 n, .int .i64 l, .slice A xs.length ca] 25)) [.int .i64 0, .string ⟨#[]⟩, .string ⟨#[]⟩, .string ⟨#[]⟩, .int .i64 0, .int .i64 0, .int .i64 0, .slice none 0 0, .slice none 0 0, .string ⟨#[]⟩] 30)
  rw [World.size_alloc] at hwh
  have hst := (Wh.new w [.int .i64 c, .int .i64 n, .int .i64 l, .slice A xs.length ca] 25).alloc (.cells #[.int .i64 0, .string ⟨#[]⟩, .string ⟨#[]⟩, .string ⟨#[]⟩, .int .i64 0, .int .i64 0, .int .i64 0, .slice none 0 0, .slice none 0 0, .string ⟨#[]⟩] 30)
  have hbl := below_two w #[.int .i64 c, .int .i64 n, .int .i64 l, .slice A xs.length ca] #[.int .i64 0, .string ⟨#[]⟩, .string ⟨#[]⟩, .string ⟨#[]⟩, .int .i64 0, .int .i64 0, .int .i64 0, .slice none 0 0, .slice none 0 0, .string ⟨#[]⟩] 25 30
  go_enter Tryz.func15, Tryz.ntmps15
  go_wp2_with fail
  obtain ⟨W0, hW0⟩ : ∃ W0, W0 = (w.alloc (.cells #[.int .i64 c, .int .i64 n, .int .i64 l, .slice A xs.length ca] 25)).alloc (.cells #[.int .i64 0, .string ⟨#[]⟩, .string ⟨#[]⟩, .string ⟨#[]⟩, .int .i64 0, .int .i64 0, .int .i64 0, .slice none 0 0, .slice none 0 0, .string ⟨#[]⟩] 30) := ⟨_, rfl⟩
  rw [← hW0] at hwh hst hbl ⊢
  obtain ⟨Z, hZ⟩ : ∃ Z : List Value, Z = [.int .i64 0, .string ⟨#[]⟩, .string ⟨#[]⟩, .string ⟨#[]⟩, .int .i64 0, .int .i64 0, .int .i64 0, .slice none 0 0, .slice none 0 0, .string ⟨#[]⟩] := ⟨_, rfl⟩
  rw [← hZ] at hwh
  have HZL := Lib.hid (show Z.toArray.size = 10 by rw [hZ]; rfl)
  have HZ := Lib.hid hZ
  have c3 := hst.bx.cell (i := 3) (by simp)
  simp only [List.getElem_cons_succ, List.getElem_cons_zero] at c3
  have HWH := Lib.hid hwh
  have HBL := Lib.hid hbl
  clear hW0 hwh hst hbl hZ
  go_loopw [6] (fun i wr => ∃ k : Nat, k ≤ xs.length ∧ i = .int .i64 k ∧ (∀ j (hj : j < xs.length), j < k → xs[j].id ≠ id) ∧ wr = W0) (fun i _ => xs.length - (intOf i).toNat)
  case atStart => exact ⟨0, Nat.zero_le _, rfl, fun j _ h => by omega, rfl⟩
  case round =>
    obtain ⟨k, hk, rfl, hall, hwr⟩ := hrel
    subst wr
    have HALL := Lib.hid hall
    clear hall
    by_cases hlt : k < xs.length
    · obtain ⟨b, off, av, qv, rfl, hb, hrg0, hra, hrq⟩ := rs_at HV.out hlt
      have hrg := range_below hrg0 hb HBL.out
      clear hrg0
      have hc0 := hrg 0 (.int .i64 xs[k].id) rfl
      rw [Nat.add_zero] at hc0
      have hfd := fun e => find_drop (id := id) hlt HALL.out e
      obtain ⟨x, hx⟩ : ∃ x, x = xs[k] := ⟨_, rfl⟩
      rw [← hx] at hc0 hrg hra hrq hfd
      have HX := Lib.hid hx
      have HRG := Lib.hid hrg
      have hall2 := sub_all x (rl_one hra) (rl_one hrq)
      have HA2 := Lib.hid hall2
      have HRA := Lib.hid hra
      have HRQ := Lib.hid hrq
      have q1 : (k : Int) < (xs.length : Int) := by omega
      clear hx hrg hall2 hra hrq
      by_cases he : x.id = id
      · have q2 : (x.id == id) = true := by rw [he]; simp
        have HE := Lib.hid (show some x = r by rw [← HR.out]; exact (hfd he).symm)
        clear hfd he
        go_wp2_with (first
          | (refine wpList_load_midG (by rfl) 30 (.tmp 25) rfl b (off + k * 10) rfl _ _ HRG.out Tryz.underlying30 rfl size35 ?_)
          | (refine wpList_store_row rfl 30 (.tmp 4) (.tmp 26) rfl (w.heap.size + 1) (subC x av qv).toArray rfl rfl 30 Z.toArray HWH.out size35 HZL.out HA2.out ?_))
        refine bodyPost_ret (results_row_tmp rfl _ _ (w.heap.size + 1) (subC x av qv) rfl (HWH.out.set _) Tryz.underlying30 rfl size35) rfl ?_
        have hbs : Below w.heap.size w (W0.setRow (w.heap.size + 1) (subC x av qv).toArray) := below_setRow HBL.out (by omega) _
        rw [← HE.out]
        exact ⟨av, qv, rfl, HRA.out.below stays_ci hbs, HRQ.out.below stays_cm hbs, hbs⟩
      · have q2 : (x.id == id) = false := by simpa using he
        have HN := Lib.hid (show ∀ j (hj : j < xs.length), j < k + 1 → xs[j].id ≠ id from fun j hj hjk => by
          by_cases e : j < k
          · exact HALL.out j hj e
          · obtain rfl : j = k := by omega
            rw [← HX.out]; exact he)
        clear hfd he
        go_wp2
        go_roundw
        case rel => exact ⟨k + 1, by omega, by go_num, HN.out, trivial⟩
        case measure => simp [intOf]; omega
    · have q1 : ¬ (k : Int) < (xs.length : Int) := by omega
      have HE := Lib.hid (show r = none by rw [← HR.out]; exact find_none (fun j hj => HALL.out j hj (by omega)))
      go_wp2_with (refine wpList_store_row rfl 30 (.tmp 4) (.tmp 27) rfl (w.heap.size + 1) (subC noSub (.slice none 0 0) (.slice none 0 0)).toArray rfl rfl 30 Z.toArray HWH.out size35 HZL.out (sub_all noSub rfl rfl) ?_)
      refine bodyPost_ret (results_row_tmp rfl _ _ (w.heap.size + 1) (subC noSub (.slice none 0 0) (.slice none 0 0)) rfl (HWH.out.set _) Tryz.underlying30 rfl size35) rfl ?_
      rw [HE.out]
      exact ⟨_, _, rfl, RL.nil_ _ _ _ (Nat.zero_le _), RL.nil_ _ _ _ (Nat.zero_le _), below_setRow HBL.out (by omega) _⟩
end Go.Proofs.YtodckdkbheapfaaGreat
