/-
  What every method of an op stands on: its three boxes, and what it hands back (layer model).; The contracts of the program's look and unsubscribe (layer model).; The contracts of the program's subscribe (layer model).; The contracts of the program's annotate (layer model).; A queue of one of a state's own subscriptions is laid anew behind an append (layer model).; The contracts of slices.IndexFunc and slices.DeleteFunc on messages, for whatever predicate (layer model).; A message loaded, and laid anew, at a step of a drawn region (layer model).; The contracts of the program's publish (layer model).; The contracts of the program's four predicates on messages (layer model).; The contracts of the program's purge (layer model).
-/
import Derived.Test.YtodckdkbheapfaaGreatKOCF
import Derived.Test.YtodckdkbheapfaaGreatKOCJ
set_option linter.unusedVariables false
set_option linter.unusedVariables false
namespace Go.Proofs.YtodckdkbheapfaaGreat
open Go.RowKit Go.Rst Go.Tp Go.Ts Go.Md
def zR : List Value := [.int .u16 0, .int .i64 0, .slice none 0 0, .slice none 0 0]
def zT : List Value := [.int .i64 0, .int .i64 0, .int .i64 0, .slice none 0 0]
def A3 (w : World) (AC : List Value) : World := ((w.alloc (.cells AC.toArray 73)).alloc (.cells #[.int .i64 0, .int .i64 0, .int .i64 0, .slice none 0 0] 25)).alloc (.cells #[.int .u16 0, .int .i64 0, .slice none 0 0, .slice none 0 0] 37)
structure MF (w W : World) (AC : List Value) : Prop where
  a : Wh W w.heap.size AC 73
  s : Wh W (w.heap.size + 1) zT 25
  r : Wh W (w.heap.size + 2) zR 37
  b : Below w.heap.size w W
  n : w.heap.size + 3 ≤ W.heap.size
theorem MF.start (w : World) (AC : List Value) : MF w (A3 w AC) AC := by
  refine ⟨((Wh.new w AC _).alloc _).alloc _, ?_, ?_, ?_, ?_⟩
  · have := (Wh.new (w.alloc (.cells AC.toArray 73)) zT 25).alloc (.cells #[.int .u16 0, .int .i64 0, .slice none 0 0, .slice none 0 0] 37)
    rw [World.size_alloc] at this
    exact this
  · have := Wh.new ((w.alloc (.cells AC.toArray 73)).alloc (.cells #[.int .i64 0, .int .i64 0, .int .i64 0, .slice none 0 0] 25)) zR 37
    rw [World.size_alloc, World.size_alloc] at this
    exact this
  · exact (((Below.refl w.heap.size w).alloc (Nat.le_refl _) _).alloc (by simp) _).alloc (by simp; omega) _
  · simp [A3]
theorem MF.below {w W W2 : World} {AC : List Value} (h : MF w W AC) (hb : Below W.heap.size W W2) : MF w W2 AC :=
  ⟨h.a.below hb, h.s.below hb, h.r.below hb, h.b.trans (hb.mono h.b.size), Nat.le_trans h.n hb.size⟩
theorem MF.grown {w W W2 : World} {AC : List Value} (h : MF w W AC) {g : Nat} (hb : W.grownBy W2 (some g)) (hg : w.heap.size + 3 ≤ g) : MF w W2 AC :=
  ⟨h.a.kept hb (by simp; omega), h.s.kept hb (by simp; omega), h.r.kept hb (by simp; omega), below_grow h.b hb (fun k e => by cases e; omega) (by have := h.n; omega), Nat.le_trans h.n hb.size⟩
theorem MF.grownO {w W W2 : World} {AC : List Value} (h : MF w W AC) {row : Option Nat} (hb : W.grownBy W2 row) (hg : ∀ k, row = some k → w.heap.size + 3 ≤ k) : MF w W2 AC :=
  ⟨h.a.kept hb (fun e => by have := hg _ e.symm; omega), h.s.kept hb (fun e => by have := hg _ e.symm; omega), h.r.kept hb (fun e => by have := hg _ e.symm; omega), below_grow h.b hb (fun k e => by have := hg k e; omega) (by have := h.n; omega), Nat.le_trans h.n hb.size⟩
def MS (w : World) (AC : List Value) (X : World) : Prop := Below w.heap.size w X ∧ Wh X w.heap.size AC 73 ∧ w.heap.size + 3 ≤ X.heap.size
theorem MF.ms {w W : World} {AC : List Value} (h : MF w W AC) : MS w AC W.drew := by
  have := h.below (SB.b0 (SB.start W))
  exact ⟨this.b, this.a, this.n⟩
theorem MS.below {w X X2 : World} {AC : List Value} (h : MS w AC X) (hb : Below X.heap.size X X2) : MS w AC X2 := ⟨h.1.trans (hb.mono h.1.size), h.2.1.below hb, Nat.le_trans h.2.2 hb.size⟩
theorem MS.row {w X : World} {AC : List Value} (h : MS w AC X) {k : Nat} (hk : w.heap.size < k) (cs : Array Value) : MS w AC (X.setRow k cs) := ⟨below_setRow h.1 (by omega) _, h.2.1.setOther (by omega) _, by simp; exact h.2.2⟩
def MSB (w : World) (AC : List Value) (bb : Nat) (E : List Value) (X : World) : Prop := MS w AC X ∧ Wh X bb E 30
theorem MSB.below {w X X2 : World} {AC E : List Value} {bb : Nat} (h : MSB w AC bb E X) (hb : Below X.heap.size X X2) : MSB w AC bb E X2 := ⟨h.1.below hb, h.2.below hb⟩
theorem MSB.row {w X : World} {AC E : List Value} {bb : Nat} (h : MSB w AC bb E X) {k : Nat} (hk : w.heap.size < k) (hn : bb ≠ k) (cs : Array Value) : MSB w AC bb E (X.setRow k cs) := ⟨h.1.row hk cs, h.2.setOther hn _⟩
theorem MF.msb {w W : World} {AC E : List Value} {bb : Nat} (h : MF w W AC) (hx : Wh W bb E 30) : MSB w AC bb E W.drew := ⟨h.ms, hx.below (SB.b0 (SB.start W))⟩
theorem ask_part {w W : World} {s : St} {v : Value} {o : Md.Op} {dv : Value} (h : Wh W w.heap.size (askC s v o dv) 73) : W.rangeAt w.heap.size 0 (stC s.clock s.next s.last v) := h.part 0 _ (pre_part _ _)
theorem results_rows2 {P : Program} {fn : Func} {p q : Tmp} {ty ty2 : TypeId} (h : fn.results = #[.cell p ty, .cell q ty2]) (tmps : Array Value) (w : World) (g k : Nat) (cs ds : List Value) {t t2 : TypeId} {d d2 : TypeDesc} (hp : tmps.getD p undef = .pointer (some ⟨g, 0, none⟩)) (hg : Wh w g cs t)
    (hu : P.underlying ty = some d) (hd : d.isRow = true) (hi : (P.info? ty).map (·.size) = some cs.length) (hq : tmps.getD q undef = .pointer (some ⟨k, 0, none⟩)) (hk : Wh w k ds t2)
    (hu2 : P.underlying ty2 = some d2) (hd2 : d2.isRow = true) (hi2 : (P.info? ty2).map (·.size) = some ds.length) : (results fn tmps).run P w = .ok (.tuple #[.agg cs.toArray, .agg ds.toArray]) w := by
  have hl := run_loadVar_mid w g 0 ty cs d hg.range hu hd hi
  have hl2 := run_loadVar_mid w k 0 ty2 ds d2 hk.range hu2 hd2 hi2
  rw [Array.getD_eq_getD_getElem?] at hp hq
  unfold results
  rw [h]
  simp [hp, hq, asAddr, hl, hl2, Result.andThen]
theorem own_on {w : World} {B : Nat} {u : Value} {zs : List Tri} (h : OwnT w B u zs) (hz : OwnZ B w zs) : ON B w u (zs.map (·.1)) := by
  refine ⟨zs.map tC, by rw [List.length_map]; exact h, by simp, fun j h1 h2 => ?_⟩
  have hj : j < zs.length := by simpa using h1
  obtain ⟨ha, hq⟩ := hz.1 _ (List.getElem_mem hj)
  simp only [List.getElem_map]
  exact ⟨_, _, rfl, rlt_ints ha, rlt_msgs hq⟩
theorem ON.kept_wh {B : Nat} {w w2 : World} {u : Value} {ys : List Sub} (h : ON B w u ys) {g : Nat} (hg : w.grownBy w2 (some g)) {cs : List Value} {t : TypeId} (hw : Wh w g cs t) (h1 : 30 ≠ t) (h2 : t ≠ 3) (h3 : t ≠ 45) : ON B w2 u ys := by
  obtain ⟨css, ho, hl, hc⟩ := h
  refine ⟨css, ho.kept hg (.inr (own_ne_wh ho hw h1)), hl, fun j a b => ?_⟩
  obtain ⟨av, qv, c1, c2, c3⟩ := hc j a b
  exact ⟨av, qv, c1, c2.grown fixed_ci hg (fun g' e => by cases e; exact ⟨_, _, hw, h2⟩), c3.grown fixed_cm hg (fun g' e => by cases e; exact ⟨_, _, hw, h3⟩)⟩
theorem m_gives {w W : World} {AC : List Value} {t : St} {rp : Rp} {u lv : Value} {K : Nat} (h : MF w W AC) (hon : ON K W u t.subs) (hK : w.heap.size + 3 ≤ K) (hlv : RLt 45 8 CM W lv rp.list) :
    GivesDo w t rp (.returned (.tuple #[.agg (stC t.clock t.next t.last u).toArray, .agg (rpC rp lv).toArray])) ((W.setRow (w.heap.size + 1) (stC t.clock t.next t.last u).toArray).setRow (w.heap.size + 2) (rpC rp lv).toArray) := by
  have g1 := grown_row W (w.heap.size + 1) (stC t.clock t.next t.last u).toArray
  have g2 := grown_row (W.setRow (w.heap.size + 1) (stC t.clock t.next t.last u).toArray) (w.heap.size + 2) (rpC rp lv).toArray
  have hs1 := h.s
  have hr1 := h.r.setOther (k := w.heap.size + 1) (by omega) (stC t.clock t.next t.last u).toArray
  have o1 := hon.kept g1 (by omega) ⟨_, _, hs1, by decide, by decide⟩
  have o2 := o1.kept g2 (by omega) ⟨_, _, hr1, by decide, by decide⟩
  have l1 := hlv.grown fixed_cm g1 (fun g e => by cases e; exact ⟨_, _, hs1, by decide⟩)
  have l2 := l1.grown fixed_cm g2 (fun g e => by cases e; exact ⟨_, _, hr1, by decide⟩)
  exact ⟨u, lv, rfl, o2.mono (by omega), l2, below_setRow (below_setRow h.b (by omega) _) (by omega) _⟩
theorem m_res {w W : World} {AC : List Value} {fn : Func} {tmps : Array Value} {c n l : Int} {rp : Rp} {u lv : Value} (h : MF w W AC) (hf : fn.results = #[.cell 2 25, .cell 3 37])
    (h2 : tmps.getD 2 undef = .pointer (some ⟨w.heap.size + 1, 0, none⟩)) (h3 : tmps.getD 3 undef = .pointer (some ⟨w.heap.size + 2, 0, none⟩)) :
    (results fn tmps).run Tryz.prog ((W.setRow (w.heap.size + 1) (stC c n l u).toArray).setRow (w.heap.size + 2) (rpC rp lv).toArray) = .ok (.tuple #[.agg (stC c n l u).toArray, .agg (rpC rp lv).toArray]) ((W.setRow (w.heap.size + 1) (stC c n l u).toArray).setRow (w.heap.size + 2) (rpC rp lv).toArray) :=
  results_rows2 hf tmps _ _ _ _ _ h2 ((h.s.set _).setOther (by omega) _) Tryz.underlying25 rfl size24 h3 ((h.r.setOther (by omega) _).set _) Tryz.underlying37 rfl sizeR
theorem field_id (x : Sub) (av qv : Value) (W : World) : (Instr.field 30 (.agg (subC x av qv).toArray) 0).run Tryz.prog W = .ok (.int .i64 x.id) W := by
  unfold Instr.field
  simp [run_underlying Tryz.underlying30, subC, asAgg, part]
theorem field_q (x : Sub) (av qv : Value) (W : World) : (Instr.field 30 (.agg (subC x av qv).toArray) 8).run Tryz.prog W = .ok qv W := by
  unfold Instr.field
  simp [run_underlying Tryz.underlying30, subC, asAgg, part]
end Go.Proofs.YtodckdkbheapfaaGreat
set_option linter.unusedVariables false
set_option linter.unusedSimpArgs false
namespace Go.Proofs.YtodckdkbheapfaaGreat
open Go.RowKit Go.Rst Go.Tp Go.Ts Go.Md
set_option maxRecDepth 100000 in
set_option maxHeartbeats 8000000 in
theorem look_p (s : St) (v : Value) (o : Md.Op) (dv : Value) (w : World) (h : RS w v s.subs) (hr : Rt s) (ho : OpOk o) (hd : dv.oneCell' = true) :
    Calls Tryz.prog 55 #[.agg (askC s v o dv).toArray] w (GivesRes w (.yes s ⟨0, (s.subs.length : Nat), []⟩)) := by
  obtain ⟨A, ca, rfl, hca, hcm⟩ := h.shape
  obtain ⟨AC, hAC⟩ : ∃ AC, AC = askC s (.slice A s.subs.length ca) o dv := ⟨_, rfl⟩
  have HACE := Lib.hid hAC
  have HAI := Lib.hid (show (Tryz.prog.info? 73).map (·.size) = some AC.length by rw [hAC]; exact sizeA)
  have HPT := Lib.hid (fun W (h : Wh W w.heap.size AC 73) => ask_part (s := s) (v := .slice A s.subs.length ca) (o := o) (dv := dv) (by rw [← hAC]; exact h))
  have HR := Lib.hid h
  have HRT := Lib.hid hr
  have HOK := Lib.hid ho
  have HD := Lib.hid hd
  have HZ := Lib.hid hr.sized
  have HL := Lib.hid hr.len
  have HMF := Lib.hid (MF.start w AC)
  have HCV0 := Lib.hid (fun (W : World) (h : Wh W w.heap.size AC 73) => h.cv 0 (v := .int .i64 s.clock) (by rw [hAC]; rfl))
  have HCV1 := Lib.hid (fun (W : World) (h : Wh W w.heap.size AC 73) => h.cv 1 (v := .int .i64 s.next) (by rw [hAC]; rfl))
  have HCV2 := Lib.hid (fun (W : World) (h : Wh W w.heap.size AC 73) => h.cv 2 (v := .int .i64 s.last) (by rw [hAC]; rfl))
  have HCV3 := Lib.hid (fun (W : World) (h : Wh W w.heap.size AC 73) => h.cv 3 (v := .slice A s.subs.length ca) (by rw [hAC]; rfl))
  have HCV4 := Lib.hid (fun (W : World) (h : Wh W w.heap.size AC 73) => h.cv 4 (v := .int .i64 o.kind) (by rw [hAC]; rfl))
  have HCV5 := Lib.hid (fun (W : World) (h : Wh W w.heap.size AC 73) => h.cv 5 (v := .int .i64 o.sub) (by rw [hAC]; rfl))
  have HCV6 := Lib.hid (fun (W : World) (h : Wh W w.heap.size AC 73) => h.cv 6 (v := .int .i64 o.n) (by rw [hAC]; rfl))
  have HCV7 := Lib.hid (fun (W : World) (h : Wh W w.heap.size AC 73) => h.cv 7 (v := .int .i64 o.seq) (by rw [hAC]; rfl))
  have HCV8 := Lib.hid (fun (W : World) (h : Wh W w.heap.size AC 73) => h.cv 8 (v := sv o.name) (by rw [hAC]; rfl))
  have HCV9 := Lib.hid (fun (W : World) (h : Wh W w.heap.size AC 73) => h.cv 9 (v := sv o.topic) (by rw [hAC]; rfl))
  have HCV10 := Lib.hid (fun (W : World) (h : Wh W w.heap.size AC 73) => h.cv 10 (v := sv o.want) (by rw [hAC]; rfl))
  have HCV11 := Lib.hid (fun (W : World) (h : Wh W w.heap.size AC 73) => h.cv 11 (v := sv o.body) (by rw [hAC]; rfl))
  have HCV12 := Lib.hid (fun (W : World) (h : Wh W w.heap.size AC 73) => h.cv 12 (v := sv o.attr) (by rw [hAC]; rfl))
  have HCV13 := Lib.hid (fun (W : World) (h : Wh W w.heap.size AC 73) => h.cv 13 (v := dv) (by rw [hAC]; rfl))
  obtain ⟨W0, hW0⟩ : ∃ W0, W0 = A3 w AC := ⟨_, rfl⟩
  rw [← hW0] at HMF
  rw [← hAC]
  unfold A3 at hW0
  unfold maxLen at hcm
  clear h hr ho hd hAC
  go_enter Tryz.func55, Tryz.ntmps55
  go_wp2_with fail
  rw [← hW0]
  clear hW0
  refine wp_region_held_drew (S := MS w AC) (by kernel_rfl) HMF.out.ms (fun hHeld => ?_)
  refine tkC 0 ?_
  refine tkA 1 (v := .agg (stC s.clock s.next s.last (.slice A s.subs.length ca)).toArray) (fun W hSw => exec_load_mid 25 (.tmp 4) rfl w.heap.size 0 rfl _ _ (HPT.out W hSw.2.1) Tryz.underlying25 rfl size24) ?_
  try simp only [Act.put, zA, zB, zC]
  refine tkC 3 ?_
  refine tkC 4 ?_
  refine tkA 5 (v := .slice A s.subs.length ca) ?_ ?_
  · intro W hSw; have hq := HCV3.out W hSw.2.1
    go_simp; try (with_reducible rfl)
  try simp only [Act.put, zA, zB, zC]
  refine tkA 6 (v := .int .i64 (s.subs.length : Nat)) ?_ ?_
  · intro W hSw; go_simp; try (with_reducible rfl)
  try simp only [Act.put, zA, zB, zC]
  refine tkC 7 ?_
  refine rdA (rs := [2]) (arC (i := 2) fun K hK => ?_)
  go_simp
  refine (ownS_any s _ _ (HR.out.below stays_cs hHeld.1) HZ.out (by have := HL.out; omega)).mono ?_
  rintro e w5 ⟨u, zs, rfl, hzm, hot, hoz, hb5⟩
  try (go_wp2_with fail)
  have hHeld' := hHeld.below hb5
  refine hK.out _ _ ?_ (fun _ => ?_)
  · exact hHeld'
  clear hK K hHeld
  have hHeld := hHeld'
  clear hHeld'
  try simp only [Act.put, zA, zB, zC]
  have hmf := HMF.out.below ((SB.b0 (SB.start W0)).trans hb5)
  have hon := own_on hot hoz
  rw [hzm] at hon
  have hn := HMF.out.n
  have hdz : W0.drew.heap.size = W0.heap.size := by simp
  refine rdA (rs := [8]) (arC (i := 8) fun K hK => ?_)
  refine step_store_row rfl 25 (.tmp 2) (.tmp 6) rfl (w.heap.size + 1) (stC (s.clock) (s.next) (s.last) u).toArray rfl rfl 25 zT.toArray hmf.s size24 rfl (st_all _ _ _ (rl_one hon.rs)) ?_
  refine hK.out _ _ ?_ (fun _ => ?_)
  · exact hHeld.row (by omega) _
  clear hK K
  try simp only [Act.put, zA, zB, zC]
  refine rdA (rs := [9]) (arC (i := 9) fun K hK => ?_)
  refine step_store_row rfl 37 (.tmp 3) (.tmp 11) rfl (w.heap.size + 2) (rpC ⟨0, (s.subs.length : Nat), []⟩ (.slice none 0 0)).toArray rfl rfl 37 zR.toArray (hmf.r.setOther (by omega) _) sizeR rfl (rp_all _ rfl) ?_
  refine hK.out _ _ ?_ (fun _ => ?_)
  · exact (hHeld.row (by omega) _).row (by omega) _
  clear hK K
  try simp only [Act.put, zA, zB, zC]
  refine wpAnyH_done (by kernel_rfl) ?_ _
  clear hHeld
  go_wp2_with fail
  refine bodyPost_ret (m_res hmf rfl rfl rfl) rfl ?_
  exact m_gives (t := ⟨s.clock, s.next, s.last, _⟩) (rp := ⟨0, (s.subs.length : Nat), []⟩) hmf hon (by omega) (RLt.nil_ _ _ _ _ (by decide))
set_option maxRecDepth 100000 in
set_option maxHeartbeats 8000000 in
theorem unsub_p (s : St) (v : Value) (o : Md.Op) (dv : Value) (w : World) (h : RS w v s.subs) (hr : Rt s) (ho : OpOk o) (hd : dv.oneCell' = true) :
    Calls Tryz.prog 45 #[.agg (askC s v o dv).toArray] w (GivesRes w (withX s o fun x => .yes ⟨s.clock, s.next, s.last, outS s.subs x.id⟩ ⟨0, 0, []⟩)) := by
  obtain ⟨A, ca, rfl, hca, hcm⟩ := h.shape
  obtain ⟨AC, hAC⟩ : ∃ AC, AC = askC s (.slice A s.subs.length ca) o dv := ⟨_, rfl⟩
  have HACE := Lib.hid hAC
  have HAI := Lib.hid (show (Tryz.prog.info? 73).map (·.size) = some AC.length by rw [hAC]; exact sizeA)
  have HPT := Lib.hid (fun W (h : Wh W w.heap.size AC 73) => ask_part (s := s) (v := .slice A s.subs.length ca) (o := o) (dv := dv) (by rw [← hAC]; exact h))
  have HR := Lib.hid h
  have HRT := Lib.hid hr
  have HOK := Lib.hid ho
  have HD := Lib.hid hd
  have HZ := Lib.hid hr.sized
  have HL := Lib.hid hr.len
  have HMF := Lib.hid (MF.start w AC)
  have HCV0 := Lib.hid (fun (W : World) (h : Wh W w.heap.size AC 73) => h.cv 0 (v := .int .i64 s.clock) (by rw [hAC]; rfl))
  have HCV1 := Lib.hid (fun (W : World) (h : Wh W w.heap.size AC 73) => h.cv 1 (v := .int .i64 s.next) (by rw [hAC]; rfl))
  have HCV2 := Lib.hid (fun (W : World) (h : Wh W w.heap.size AC 73) => h.cv 2 (v := .int .i64 s.last) (by rw [hAC]; rfl))
  have HCV3 := Lib.hid (fun (W : World) (h : Wh W w.heap.size AC 73) => h.cv 3 (v := .slice A s.subs.length ca) (by rw [hAC]; rfl))
  have HCV4 := Lib.hid (fun (W : World) (h : Wh W w.heap.size AC 73) => h.cv 4 (v := .int .i64 o.kind) (by rw [hAC]; rfl))
  have HCV5 := Lib.hid (fun (W : World) (h : Wh W w.heap.size AC 73) => h.cv 5 (v := .int .i64 o.sub) (by rw [hAC]; rfl))
  have HCV6 := Lib.hid (fun (W : World) (h : Wh W w.heap.size AC 73) => h.cv 6 (v := .int .i64 o.n) (by rw [hAC]; rfl))
  have HCV7 := Lib.hid (fun (W : World) (h : Wh W w.heap.size AC 73) => h.cv 7 (v := .int .i64 o.seq) (by rw [hAC]; rfl))
  have HCV8 := Lib.hid (fun (W : World) (h : Wh W w.heap.size AC 73) => h.cv 8 (v := sv o.name) (by rw [hAC]; rfl))
  have HCV9 := Lib.hid (fun (W : World) (h : Wh W w.heap.size AC 73) => h.cv 9 (v := sv o.topic) (by rw [hAC]; rfl))
  have HCV10 := Lib.hid (fun (W : World) (h : Wh W w.heap.size AC 73) => h.cv 10 (v := sv o.want) (by rw [hAC]; rfl))
  have HCV11 := Lib.hid (fun (W : World) (h : Wh W w.heap.size AC 73) => h.cv 11 (v := sv o.body) (by rw [hAC]; rfl))
  have HCV12 := Lib.hid (fun (W : World) (h : Wh W w.heap.size AC 73) => h.cv 12 (v := sv o.attr) (by rw [hAC]; rfl))
  have HCV13 := Lib.hid (fun (W : World) (h : Wh W w.heap.size AC 73) => h.cv 13 (v := dv) (by rw [hAC]; rfl))
  obtain ⟨W0, hW0⟩ : ∃ W0, W0 = A3 w AC := ⟨_, rfl⟩
  rw [← hW0] at HMF
  rw [← hAC]
  unfold A3 at hW0
  unfold maxLen at hcm
  clear h hr ho hd hAC
  have hF := sub_p s (.slice A s.subs.length ca) o dv
  have hfi := fun x (h : findS s.subs o.sub = some x) => (find_some' h).2
  have HWX := Lib.hid (show withX s o (fun x => .yes ⟨s.clock, s.next, s.last, outS s.subs x.id⟩ ⟨0, 0, []⟩) = (match findS s.subs o.sub with | none => Res.no 30 | some x => .yes ⟨s.clock, s.next, s.last, outS s.subs x.id⟩ ⟨0, 0, []⟩) from rfl)
  rw [HWX.out]
  generalize findS s.subs o.sub = fo at hF hfi ⊢
  have HF := Lib.hid hF
  clear hF hfi HWX
  go_enter Tryz.func45, Tryz.ntmps45
  go_wp2_with fail
  rw [← hW0]
  clear hW0
  refine wp_region_held_drew (S := MS w AC) (by kernel_rfl) HMF.out.ms (fun hHeld => ?_)
  refine tkC 0 ?_
  refine tkA 1 (v := .agg (stC s.clock s.next s.last (.slice A s.subs.length ca)).toArray) (fun W hSw => exec_load_mid 25 (.tmp 4) rfl w.heap.size 0 rfl _ _ (HPT.out W hSw.2.1) Tryz.underlying25 rfl size24) ?_
  try simp only [Act.put, zA, zB, zC]
  refine tkA 2 (v := .agg AC.toArray) (fun W hSw => exec_load_mid 73 (.tmp 1) rfl w.heap.size 0 rfl _ _ (hSw.2.1.range) Tryz.underlying73 rfl HAI.out) ?_
  try simp only [Act.put, zA, zB, zC]
  refine tkC 6 ?_
  refine rdA (rs := [3]) (arC (i := 3) fun K hK => ?_)
  go_simp
  have hc := HF.out _ (HR.out.below stays_cs hHeld.1) HZ.out HD.out
  rw [← HACE.out] at hc
  refine hc.mono ?_
  clear hc
  rintro e w5 hg
  cases fo with
  | none =>
    obtain ⟨rfl, hb5⟩ := hg
    exact ⟨rfl, rfl, hHeld.1.trans (hb5.mono hHeld.1.size)⟩
  | some x =>
    obtain ⟨av, qv, rfl, hoa, hoq, hb5⟩ := hg
    try (go_wp2_with fail)
    have hHeld' := hHeld.below hb5
    refine hK.out _ _ ?_ (fun _ => ?_)
    · exact hHeld'
    clear hK K hHeld
    have hHeld := hHeld'
    clear hHeld'
    try simp only [Act.put, zA, zB, zC]
    refine tkA 4 (v := .int .i64 x.id) ?_ ?_
    · intro W hSw; have hq := field_id x av qv W; go_simp; try (with_reducible rfl)
    try simp only [Act.put, zA, zB, zC]
    refine rdA (rs := [5]) (arC (i := 5) fun K hK => ?_)
    go_simp
    refine (withoutP_any s.clock s.next s.last _ s.subs x.id _ (HR.out.below stays_cs hHeld.1) HZ.out (by have := HL.out; omega)).mono ?_
    rintro e w6 ⟨u, rfl, hon, hb6⟩
    try (go_wp2_with fail)
    have hHeld' := hHeld.below hb6
    refine hK.out _ _ ?_ (fun _ => ?_)
    · exact hHeld'
    clear hK K hHeld
    have hHeld := hHeld'
    clear hHeld'
    try simp only [Act.put, zA, zB, zC]
    have hmf := HMF.out.below (((SB.b0 (SB.start W0)).trans hb5).trans (hb6.mono (by have := hb5.size; simpa using this)))
    have hn := HMF.out.n
    have hdz : W0.drew.heap.size = W0.heap.size := by simp
    have hsz5 := hb5.size
    refine rdA (rs := [7]) (arC (i := 7) fun K hK => ?_)
    refine step_store_row rfl 25 (.tmp 2) (.tmp 9) rfl (w.heap.size + 1) (stC (s.clock) (s.next) (s.last) u).toArray rfl rfl 25 zT.toArray hmf.s size24 rfl (st_all _ _ _ (rl_one hon.rs)) ?_
    refine hK.out _ _ ?_ (fun _ => ?_)
    · exact hHeld.row (by omega) _
    clear hK K
    try simp only [Act.put, zA, zB, zC]
    refine rdA (rs := [8]) (arC (i := 8) fun K hK => ?_)
    refine step_store_row rfl 37 (.tmp 3) (.tmp 10) rfl (w.heap.size + 2) (rpC ⟨0, 0, []⟩ (.slice none 0 0)).toArray rfl rfl 37 zR.toArray (hmf.r.setOther (by omega) _) sizeR rfl (rp_all _ rfl) ?_
    refine hK.out _ _ ?_ (fun _ => ?_)
    · exact (hHeld.row (by omega) _).row (by omega) _
    clear hK K
    try simp only [Act.put, zA, zB, zC]
    refine wpAnyH_done (by kernel_rfl) ?_ _
    clear hHeld
    go_wp2_with fail
    refine bodyPost_ret (m_res hmf rfl rfl rfl) rfl ?_
    exact m_gives (t := ⟨s.clock, s.next, s.last, _⟩) (rp := ⟨0, 0, []⟩) hmf hon (by omega) (RLt.nil_ _ _ _ _ (by decide))
end Go.Proofs.YtodckdkbheapfaaGreat
set_option linter.unusedVariables false
set_option linter.unusedSimpArgs false
namespace Go.Proofs.YtodckdkbheapfaaGreat
open Go.RowKit Go.Rst Go.Tp Go.Ts Go.Md
set_option maxRecDepth 100000 in
set_option maxHeartbeats 8000000 in
theorem subscribe_p (s : St) (v : Value) (o : Md.Op) (dv : Value) (w : World) (h : RS w v s.subs) (hr : Rt s) (ho : OpOk o) (hd : dv.oneCell' = true) :
    Calls Tryz.prog 44 #[.agg (askC s v o dv).toArray] w (GivesRes w (subscribeR s o)) := by
  obtain ⟨A, ca, rfl, hca, hcm⟩ := h.shape
  obtain ⟨AC, hAC⟩ : ∃ AC, AC = askC s (.slice A s.subs.length ca) o dv := ⟨_, rfl⟩
  have HACE := Lib.hid hAC
  have HAI := Lib.hid (show (Tryz.prog.info? 73).map (·.size) = some AC.length by rw [hAC]; exact sizeA)
  have HPT := Lib.hid (fun W (h : Wh W w.heap.size AC 73) => ask_part (s := s) (v := .slice A s.subs.length ca) (o := o) (dv := dv) (by rw [← hAC]; exact h))
  have HR := Lib.hid h
  have HRT := Lib.hid hr
  have HOK := Lib.hid ho
  have HD := Lib.hid hd
  have HZ := Lib.hid hr.sized
  have HL := Lib.hid hr.len
  have HMF := Lib.hid (MF.start w AC)
  have HCV0 := Lib.hid (fun (W : World) (h : Wh W w.heap.size AC 73) => h.cv 0 (v := .int .i64 s.clock) (by rw [hAC]; rfl))
  have HCV1 := Lib.hid (fun (W : World) (h : Wh W w.heap.size AC 73) => h.cv 1 (v := .int .i64 s.next) (by rw [hAC]; rfl))
  have HCV2 := Lib.hid (fun (W : World) (h : Wh W w.heap.size AC 73) => h.cv 2 (v := .int .i64 s.last) (by rw [hAC]; rfl))
  have HCV3 := Lib.hid (fun (W : World) (h : Wh W w.heap.size AC 73) => h.cv 3 (v := .slice A s.subs.length ca) (by rw [hAC]; rfl))
  have HCV4 := Lib.hid (fun (W : World) (h : Wh W w.heap.size AC 73) => h.cv 4 (v := .int .i64 o.kind) (by rw [hAC]; rfl))
  have HCV5 := Lib.hid (fun (W : World) (h : Wh W w.heap.size AC 73) => h.cv 5 (v := .int .i64 o.sub) (by rw [hAC]; rfl))
  have HCV6 := Lib.hid (fun (W : World) (h : Wh W w.heap.size AC 73) => h.cv 6 (v := .int .i64 o.n) (by rw [hAC]; rfl))
  have HCV7 := Lib.hid (fun (W : World) (h : Wh W w.heap.size AC 73) => h.cv 7 (v := .int .i64 o.seq) (by rw [hAC]; rfl))
  have HCV8 := Lib.hid (fun (W : World) (h : Wh W w.heap.size AC 73) => h.cv 8 (v := sv o.name) (by rw [hAC]; rfl))
  have HCV9 := Lib.hid (fun (W : World) (h : Wh W w.heap.size AC 73) => h.cv 9 (v := sv o.topic) (by rw [hAC]; rfl))
  have HCV10 := Lib.hid (fun (W : World) (h : Wh W w.heap.size AC 73) => h.cv 10 (v := sv o.want) (by rw [hAC]; rfl))
  have HCV11 := Lib.hid (fun (W : World) (h : Wh W w.heap.size AC 73) => h.cv 11 (v := sv o.body) (by rw [hAC]; rfl))
  have HCV12 := Lib.hid (fun (W : World) (h : Wh W w.heap.size AC 73) => h.cv 12 (v := sv o.attr) (by rw [hAC]; rfl))
  have HCV13 := Lib.hid (fun (W : World) (h : Wh W w.heap.size AC 73) => h.cv 13 (v := dv) (by rw [hAC]; rfl))
  obtain ⟨W0, hW0⟩ : ∃ W0, W0 = A3 w AC := ⟨_, rfl⟩
  rw [← hW0] at HMF
  rw [← hAC]
  unfold A3 at hW0
  unfold maxLen at hcm
  clear h hr ho hd hAC
  have k8_ := HCV8.out W0 HMF.out.a
  rw [hW0] at k8_
  go_enter Tryz.func44, Tryz.ntmps44
  go_wp2_with fail
  rw [← hW0]
  clear hW0
  refine (named_any o.name HOK.out.nm _).mono ?_
  rintro e v1 ⟨rfl, hbv1⟩
  have HM1 := Lib.hid (HMF.out.below hbv1)
  clear hbv1 k8_
  go_wp2_with fail
  cases h1 : nameB o.name with
  | false =>
    have HRES := Lib.hid (show subscribeR s o = Res.no 40 by unfold subscribeR need; simp [h1])
    refine (must_no 40 _).mono ?_
    rintro e w9 ⟨rfl, rfl⟩
    refine ⟨rfl, ?_⟩
    show GivesRes w (subscribeR s o) _ _
    rw [HRES.out]
    exact ⟨rfl, HM1.out.b⟩
  | true =>
    refine (must_yes 40 _).mono ?_
    rintro e w9 ⟨rfl, rfl⟩
    have k9_ := HCV9.out _ HM1.out.a
    go_wp2_with fail
    refine (patP_any o.topic _).mono ?_
    rintro e v2 ⟨rfl, hbv2⟩
    have HM2 := Lib.hid (HM1.out.below hbv2)
    clear hbv2 k9_
    go_wp2_with fail
    cases h2 : patB o.topic with
    | false =>
      have HRES := Lib.hid (show subscribeR s o = Res.no 41 by unfold subscribeR need; simp [h1, h2])
      refine (must_no 41 _).mono ?_
      rintro e w9 ⟨rfl, rfl⟩
      refine ⟨rfl, ?_⟩
      show GivesRes w (subscribeR s o) _ _
      rw [HRES.out]
      exact ⟨rfl, HM2.out.b⟩
    | true =>
      refine (must_yes 41 _).mono ?_
      rintro e w9 ⟨rfl, rfl⟩
      have k10_ := HCV10.out _ HM2.out.a
      go_wp2_with fail
      refine (attrsP_any o.want _).mono ?_
      rintro e v3 ⟨rfl, hbv3⟩
      have HM3 := Lib.hid (HM2.out.below hbv3)
      clear hbv3 k10_
      go_wp2_with fail
      cases h3 : attrsB o.want with
      | false =>
        have HRES := Lib.hid (show subscribeR s o = Res.no 42 by unfold subscribeR need; simp [h1, h2, h3])
        refine (must_no 42 _).mono ?_
        rintro e w9 ⟨rfl, rfl⟩
        refine ⟨rfl, ?_⟩
        show GivesRes w (subscribeR s o) _ _
        rw [HRES.out]
        exact ⟨rfl, HM3.out.b⟩
      | true =>
        refine (must_yes 42 _).mono ?_
        rintro e w9 ⟨rfl, rfl⟩
        have k6_ := HCV6.out _ HM3.out.a
        have k7_ := HCV7.out _ HM3.out.a
        go_wp2_with fail
        refine (within_any o.n 1 1000 _).mono ?_
        rintro e v4 ⟨rfl, rfl⟩
        cases h4 : (decide (1 ≤ o.n) && decide (o.n ≤ 1000)) with
        | false =>
          clear k6_ k7_
          go_wp2_with fail
          have HRES := Lib.hid (show subscribeR s o = Res.no 1 by unfold subscribeR need; simp [h1, h2, h3, h4])
          refine (must_no 1 _).mono ?_
          rintro e w9 ⟨rfl, rfl⟩
          refine ⟨rfl, ?_⟩
          show GivesRes w (subscribeR s o) _ _
          rw [HRES.out]
          exact ⟨rfl, HM3.out.b⟩
        | true =>
          go_wp2_with fail
          refine (within_any o.seq 1 9 _).mono ?_
          rintro e v5 ⟨rfl, rfl⟩
          clear k6_ k7_
          go_wp2_with fail
          cases h5 : (decide (1 ≤ o.seq) && decide (o.seq ≤ 9)) with
          | false =>
            have HRES := Lib.hid (show subscribeR s o = Res.no 1 by unfold subscribeR need; simp [h1, h2, h3, h4, h5])
            refine (must_no 1 _).mono ?_
            rintro e w9 ⟨rfl, rfl⟩
            refine ⟨rfl, ?_⟩
            show GivesRes w (subscribeR s o) _ _
            rw [HRES.out]
            exact ⟨rfl, HM3.out.b⟩
          | true =>
            refine (must_yes 1 _).mono ?_
            rintro e w9 ⟨rfl, rfl⟩
            have k3_ := HCV3.out _ HM3.out.a
            by_cases h6 : s.subs.length < 20
            case neg =>
              have q1 : decide ((s.subs.length : Int) < 20) = false := decide_eq_false (by omega)
              go_wp2_with fail
              have HRES := Lib.hid (show subscribeR s o = Res.no 31 by unfold subscribeR need; simp [h1, h2, h3, h4, h5, h6])
              refine (must_no 31 _).mono ?_
              rintro e w9 ⟨rfl, rfl⟩
              refine ⟨rfl, ?_⟩
              show GivesRes w (subscribeR s o) _ _
              rw [HRES.out]
              exact ⟨rfl, HM3.out.b⟩
            have q1 : (s.subs.length : Int) < 20 := by omega
            go_wp2_with fail
            refine (must_yes 31 _).mono ?_
            rintro e w9 ⟨rfl, rfl⟩
            clear q1 k3_
            have k2_ := HCV2.out _ HM3.out.a
            by_cases h7 : s.last < 1073741824
            case neg =>
              have q1 : decide (s.last < 1073741824) = false := decide_eq_false (by omega)
              go_wp2_with fail
              have HRES := Lib.hid (show subscribeR s o = Res.no 32 by unfold subscribeR need; simp [h1, h2, h3, h4, h5, h6, h7])
              refine (must_no 32 _).mono ?_
              rintro e w9 ⟨rfl, rfl⟩
              refine ⟨rfl, ?_⟩
              show GivesRes w (subscribeR s o) _ _
              rw [HRES.out]
              exact ⟨rfl, HM3.out.b⟩
            have q1 : s.last < 1073741824 := h7
            go_wp2_with fail
            refine (must_yes 32 _).mono ?_
            rintro e w9 ⟨rfl, rfl⟩
            have l0 := HRT.out.l0
            have n0 := HRT.out.n0
            have n1 := HRT.out.n1
            have e4 : wrap64 (s.last + 1) = s.last + 1 := by unfold wrap64; omega
            have e5 : wrap64 (s.next - 1) = s.next - 1 := by unfold wrap64; omega
            have k1_ := HCV1.out _ HM3.out.a
            have k6_ := HCV6.out _ HM3.out.a
            have k7_ := HCV7.out _ HM3.out.a
            have k8_ := HCV8.out _ HM3.out.a
            have k9_ := HCV9.out _ HM3.out.a
            have k10_ := HCV10.out _ HM3.out.a
            have HP2 := Lib.hid (HPT.out _ HM3.out.a)
            have HRES := Lib.hid (show subscribeR s o = Res.yes ⟨s.clock, s.next, s.last + 1, putS s.subs (newS s o)⟩ ⟨0, s.last + 1, []⟩ by unfold subscribeR need; simp [h1, h2, h3, h4, h5, h6, h7])
            clear h1 h2 h3 h4 h5 h6 h7
            go_wp2_with (first | (refine wpList_load_midG (by rfl) 25 (.tmp 47) rfl w.heap.size 0 rfl _ _ HP2.out Tryz.underlying25 rfl size24 ?_) | fail)
            refine (putP_any s.clock s.next s.last (.slice A s.subs.length ca) s.subs (newS s o) (.slice none 0 0) (.slice none 0 0) _ (HR.out.below stays_cs HM3.out.b) HZ.out (by have := HL.out; omega) (RL.nil_ _ _ _ (by decide)) (RL.nil_ _ _ _ (by decide)) (Sized.few (Nat.zero_le _) (Nat.zero_le _))).mono ?_
            rintro e w5 ⟨u, rfl, hon, hb5⟩
            clear HP2 k1_ k2_ k6_ k7_ k8_ k9_ k10_ e4 e5 q1
            obtain ⟨T, hT⟩ : ∃ T, T = stC s.clock s.next s.last u := ⟨_, rfl⟩
            have HT := Lib.hid (show Cut T by rw [hT]; exact Cut.mk_ _ _ _ (rl_one hon.rs))
            have HTE := Lib.hid hT
            rw [← hT]
            have hmb := HM3.out.below (hb5.trans ((boxT_below w5 T).mono hb5.size))
            have hbx := boxT_wh w5 T
            have f2 := hbx.frozen 2
            have k2 := hbx.cv 2 (v := .int .i64 s.last) (by rw [hT]; rfl)
            have hgr := grown_cell (boxT w5 T) w5.heap.size 2 (.int .i64 (s.last + 1))
            have hb2 := hbx.set1 2 (.int .i64 (s.last + 1))
            have hn5 : w.heap.size + 3 ≤ w5.heap.size := Nat.le_trans HM3.out.n hb5.size
            have HM9 := Lib.hid (hmb.grown hgr hn5)
            have hon2 := hon.below (boxT_below w5 T)
            have HON := Lib.hid (hon2.kept_wh hgr hbx (by decide) (by decide) (by decide))
            obtain ⟨T2, hT2⟩ : ∃ T2, T2 = T.set 2 (.int .i64 (s.last + 1)) := ⟨_, rfl⟩
            rw [← hT2] at hb2
            have HTE2 := Lib.hid (show T2 = stC s.clock s.next (s.last + 1) u by rw [hT2, hT]; rfl)
            have HT2 := Lib.hid (show Cut T2 by rw [HTE2.out]; exact Cut.mk_ _ _ _ (rl_one hon.rs))
            have HB2 := Lib.hid hb2.range
            have hK : w.heap.size + 3 ≤ w9.heap.size := HM3.out.n
            clear hT2 hT hb2 hgr hbx hon2 hmb hon hb5
            have HST := Lib.hid (show Value.agg T2.toArray = .agg (stC (s.clock) (s.next) (s.last + 1) u).toArray by rw [HTE2.out])
            have HS9 := Lib.hid HM9.out.s
            have HR9 := Lib.hid (HM9.out.r.setOther (k := w.heap.size + 1) (by omega) (stC (s.clock) (s.next) (s.last + 1) u).toArray)
            have HSA9 := Lib.hid (st_all (s.clock) (s.next) (s.last + 1) (rl_one HON.out.rs))
            go_wp2_with (first | (refine wpList_store_row rfl 25 (.tmp 5) (.tmp 70) rfl w5.heap.size T.toArray rfl rfl 25 #[.int .i64 0, .int .i64 0, .int .i64 0, .slice none 0 0] (boxT_old w5) HT.out.info HT.out.old HT.out.all ?_; rw [boxT_def]) | (refine wpList_load_midG (by rfl) 25 (.tmp 5) rfl w5.heap.size 0 rfl _ _ HB2.out Tryz.underlying25 rfl HT2.out.infoL ?_) | (refine wpList_store_row rfl 25 (.tmp 2) (.tmp 73) rfl (w.heap.size + 1) (stC (s.clock) (s.next) (s.last + 1) u).toArray rfl HST.out 25 zT.toArray HS9.out size24 rfl HSA9.out ?_) | (refine wpList_store_row rfl 37 (.tmp 3) (.tmp 75) rfl (w.heap.size + 2) (rpC ⟨0, s.last + 1, []⟩ (.slice none 0 0)).toArray rfl rfl 37 zR.toArray HR9.out sizeR rfl (rp_all ⟨0, s.last + 1, []⟩ rfl) ?_) | fail)
            refine bodyPost_ret (m_res HM9.out rfl rfl rfl) rfl ?_
            show GivesRes w (subscribeR s o) _ _
            rw [HRES.out]
            exact m_gives (t := ⟨s.clock, s.next, s.last + 1, _⟩) (rp := ⟨0, s.last + 1, []⟩) HM9.out HON.out (by omega) (RLt.nil_ _ _ _ _ (by decide))
end Go.Proofs.YtodckdkbheapfaaGreat
set_option linter.unusedVariables false
set_option linter.unusedSimpArgs false
namespace Go.Proofs.YtodckdkbheapfaaGreat
open Go.RowKit Go.Rst Go.Tp Go.Ts Go.Md
set_option maxRecDepth 100000 in
set_option maxHeartbeats 8000000 in
theorem annotate_p (s : St) (v : Value) (o : Md.Op) (dv : Value) (w : World) (h : RS w v s.subs) (hr : Rt s) (ho : OpOk o) (hd : dv.oneCell' = true) :
    Calls Tryz.prog 54 #[.agg (askC s v o dv).toArray] w (GivesRes w (withX s o fun x => annotR s x o)) := by
  obtain ⟨A, ca, rfl, hca, hcm⟩ := h.shape
  obtain ⟨AC, hAC⟩ : ∃ AC, AC = askC s (.slice A s.subs.length ca) o dv := ⟨_, rfl⟩
  have HACE := Lib.hid hAC
  have HAI := Lib.hid (show (Tryz.prog.info? 73).map (·.size) = some AC.length by rw [hAC]; exact sizeA)
  have HPT := Lib.hid (fun W (h : Wh W w.heap.size AC 73) => ask_part (s := s) (v := .slice A s.subs.length ca) (o := o) (dv := dv) (by rw [← hAC]; exact h))
  have HR := Lib.hid h
  have HRT := Lib.hid hr
  have HOK := Lib.hid ho
  have HD := Lib.hid hd
  have HZ := Lib.hid hr.sized
  have HL := Lib.hid hr.len
  have HMF := Lib.hid (MF.start w AC)
  have HCV0 := Lib.hid (fun (W : World) (h : Wh W w.heap.size AC 73) => h.cv 0 (v := .int .i64 s.clock) (by rw [hAC]; rfl))
  have HCV1 := Lib.hid (fun (W : World) (h : Wh W w.heap.size AC 73) => h.cv 1 (v := .int .i64 s.next) (by rw [hAC]; rfl))
  have HCV2 := Lib.hid (fun (W : World) (h : Wh W w.heap.size AC 73) => h.cv 2 (v := .int .i64 s.last) (by rw [hAC]; rfl))
  have HCV3 := Lib.hid (fun (W : World) (h : Wh W w.heap.size AC 73) => h.cv 3 (v := .slice A s.subs.length ca) (by rw [hAC]; rfl))
  have HCV4 := Lib.hid (fun (W : World) (h : Wh W w.heap.size AC 73) => h.cv 4 (v := .int .i64 o.kind) (by rw [hAC]; rfl))
  have HCV5 := Lib.hid (fun (W : World) (h : Wh W w.heap.size AC 73) => h.cv 5 (v := .int .i64 o.sub) (by rw [hAC]; rfl))
  have HCV6 := Lib.hid (fun (W : World) (h : Wh W w.heap.size AC 73) => h.cv 6 (v := .int .i64 o.n) (by rw [hAC]; rfl))
  have HCV7 := Lib.hid (fun (W : World) (h : Wh W w.heap.size AC 73) => h.cv 7 (v := .int .i64 o.seq) (by rw [hAC]; rfl))
  have HCV8 := Lib.hid (fun (W : World) (h : Wh W w.heap.size AC 73) => h.cv 8 (v := sv o.name) (by rw [hAC]; rfl))
  have HCV9 := Lib.hid (fun (W : World) (h : Wh W w.heap.size AC 73) => h.cv 9 (v := sv o.topic) (by rw [hAC]; rfl))
  have HCV10 := Lib.hid (fun (W : World) (h : Wh W w.heap.size AC 73) => h.cv 10 (v := sv o.want) (by rw [hAC]; rfl))
  have HCV11 := Lib.hid (fun (W : World) (h : Wh W w.heap.size AC 73) => h.cv 11 (v := sv o.body) (by rw [hAC]; rfl))
  have HCV12 := Lib.hid (fun (W : World) (h : Wh W w.heap.size AC 73) => h.cv 12 (v := sv o.attr) (by rw [hAC]; rfl))
  have HCV13 := Lib.hid (fun (W : World) (h : Wh W w.heap.size AC 73) => h.cv 13 (v := dv) (by rw [hAC]; rfl))
  obtain ⟨W0, hW0⟩ : ∃ W0, W0 = A3 w AC := ⟨_, rfl⟩
  rw [← hW0] at HMF
  rw [← hAC]
  unfold A3 at hW0
  unfold maxLen at hcm
  clear h hr ho hd hAC
  have hla := HMF.out.a.range
  rw [hW0] at hla
  have HLA := Lib.hid hla
  clear hla
  have hF := sub_p s (.slice A s.subs.length ca) o dv
  have hfi := fun x (h : findS s.subs o.sub = some x) => find_some' h
  have HWX := Lib.hid (show withX s o (fun x => annotR s x o) = (match findS s.subs o.sub with | none => Res.no 30 | some x => (fun x => annotR s x o) x) from rfl)
  rw [HWX.out]
  generalize findS s.subs o.sub = fo at hF hfi ⊢
  have HF := Lib.hid hF
  have HFI := Lib.hid hfi
  clear hF hfi HWX
  go_enter Tryz.func54, Tryz.ntmps54
  go_wp2_with (first | (refine wpList_load_midG (by rfl) 73 (.tmp 1) rfl w.heap.size 0 rfl _ _ HLA.out Tryz.underlying73 rfl HAI.out ?_) | fail)
  rw [← hW0]
  clear hW0 HLA
  have hc := HF.out _ (HR.out.below stays_cs HMF.out.b) HZ.out HD.out
  rw [← HACE.out] at hc
  refine hc.mono ?_
  clear hc
  rintro e w5 hg
  cases fo with
  | none =>
    obtain ⟨rfl, hb5⟩ := hg
    exact ⟨rfl, rfl, HMF.out.b.trans (hb5.mono HMF.out.b.size)⟩
  | some x =>
    obtain ⟨av, qv, rfl, hoa, hoq, hb5⟩ := hg
    have HX := Lib.hid (HFI.out x rfl)
    have HXG := Lib.hid (HRT.out.gd HX.out.1)
    obtain ⟨E, hE⟩ : ∃ E, E = subC x av qv := ⟨_, rfl⟩
    have HE := Lib.hid (show Cub E by rw [hE]; exact Cub.mk_ x (rl_one (OwnA.ri hoa)) (rl_one (OwnQ.rm hoq)))
    have HEE := Lib.hid hE
    rw [← hE]
    have HM1 := Lib.hid (HMF.out.below (hb5.trans ((box_below w5 E).mono hb5.size)))
    have HOA := Lib.hid (own_below hoa (box_below w5 E))
    have HOQ := Lib.hid (own_below hoq (box_below w5 E))
    have HBX := Lib.hid (box_wh w5 E)
    have HN5 := Lib.hid (show w.heap.size + 3 ≤ w5.heap.size from Nat.le_trans HMF.out.n hb5.size)
    have HNW := Lib.hid HMF.out.n
    clear hE hoa hoq hb5
    have hon5 := HOK.out.nm
    have k8_ := HCV8.out _ HM1.out.a
    by_cases h30 : o.name.length ≤ 30
    case neg =>
      have q1 : decide ((o.name.length : Int) ≤ 30) = false := decide_eq_false (by omega)
      have HRES := Lib.hid (show annotR s x o = Res.no 3 by unfold annotR need; simp [h30])
      go_wp2_with (first | (refine wpList_store_row rfl 30 (.tmp 4) (.tmp 6) rfl w5.heap.size E.toArray rfl rfl 30 #[.int .i64 0, .string ⟨#[]⟩, .string ⟨#[]⟩, .string ⟨#[]⟩, .int .i64 0, .int .i64 0, .int .i64 0, .slice none 0 0, .slice none 0 0, .string ⟨#[]⟩] (box_old w5) HE.out.info HE.out.old HE.out.all ?_; rw [box_def]) | fail)
      refine (must_no 3 _).mono ?_
      rintro e w9 ⟨rfl, rfl⟩
      refine ⟨rfl, ?_⟩
      show GivesRes w (annotR s x o) _ _
      rw [HRES.out]
      exact ⟨rfl, HM1.out.b⟩
    have q1 : ((o.name.length : Int) ≤ 30) := by omega
    have HRES := Lib.hid (show annotR s x o = Res.yes (putSt s { x with note := o.name }) ⟨0, 0, []⟩ by unfold annotR need; simp [h30])
    go_wp2_with (first | (refine wpList_store_row rfl 30 (.tmp 4) (.tmp 6) rfl w5.heap.size E.toArray rfl rfl 30 #[.int .i64 0, .string ⟨#[]⟩, .string ⟨#[]⟩, .string ⟨#[]⟩, .int .i64 0, .int .i64 0, .int .i64 0, .slice none 0 0, .slice none 0 0, .string ⟨#[]⟩] (box_old w5) HE.out.info HE.out.old HE.out.all ?_; rw [box_def]) | fail)
    refine (must_yes 3 _).mono ?_
    rintro e w9 ⟨rfl, rfl⟩
    have f9 := HBX.out.frozen 9
    have k9 := HBX.out.cv 9 (v := sv x.note) (by rw [HEE.out]; rfl)
    have hgr := grown_cell (boxW w5 E) w5.heap.size 9 (sv o.name)
    have hb2 := HBX.out.set1 9 (sv o.name)
    have HM2 := Lib.hid (HM1.out.grown hgr HN5.out)
    have HOA2 := Lib.hid (show OwnA ((boxW w5 E).setCell ⟨w5.heap.size, 9, none⟩ (sv o.name)) _ _ _ from HOA.out.kept hgr (.inr (own_ne_wh HOA.out HBX.out (by decide))))
    have HOQ2 := Lib.hid (show OwnQ ((boxW w5 E).setCell ⟨w5.heap.size, 9, none⟩ (sv o.name)) _ _ _ from HOQ.out.kept hgr (.inr (own_ne_wh HOQ.out HBX.out (by decide))))
    obtain ⟨E2, hE2⟩ : ∃ E2, E2 = E.set 9 (sv o.name) := ⟨_, rfl⟩
    rw [← hE2] at hb2
    have HEE2 := Lib.hid (show E2 = subC { x with note := o.name } av qv by rw [hE2, HEE.out]; rfl)
    have HE2 := Lib.hid (show Cub E2 by rw [HEE2.out]; exact Cub.mk_ { x with note := o.name } (rl_one (OwnA.ri HOA.out)) (rl_one (OwnQ.rm HOQ.out)))
    have HB2 := Lib.hid hb2.range
    have HP2 := Lib.hid (HPT.out _ HM2.out.a)
    clear hgr hb2 hE2
    go_wp2_with (first | (refine wpList_load_midG (by rfl) 25 (.tmp 17) rfl w.heap.size 0 rfl _ _ HP2.out Tryz.underlying25 rfl size24 ?_) | (refine wpList_load_midG (by rfl) 30 (.tmp 4) rfl w5.heap.size 0 rfl _ _ HB2.out Tryz.underlying30 rfl HE2.out.infoL ?_) | fail)
    obtain ⟨W2, hW2⟩ : ∃ W2, W2 = ((boxW w5 E).setCell ⟨w5.heap.size, 9, none⟩ (sv o.name)) := ⟨_, rfl⟩
    rw [← hW2] at HM2 HOA2 HOQ2 ⊢
    clear hW2 f9 k9 HB2 HP2
    have hc := putP_any s.clock s.next s.last (.slice A s.subs.length ca) s.subs { x with note := o.name } av qv _ (HR.out.below stays_cs HM2.out.b) HZ.out (by have := HL.out; omega) (OwnA.ri HOA2.out) (OwnQ.rm HOQ2.out) HXG.out.sized
    rw [← HEE2.out] at hc
    refine hc.mono ?_
    clear hc
    rintro e w6 ⟨u, rfl, hon, hb6⟩
    have hmf := HM2.out.below hb6
    have hn := HM2.out.n
    have HS9 := Lib.hid hmf.s
    have HR9 := Lib.hid (hmf.r.setOther (k := w.heap.size + 1) (by omega) (stC (s.clock) (s.next) (s.last) u).toArray)
    have HSA9 := Lib.hid (st_all (s.clock) (s.next) (s.last) (rl_one hon.rs))
    go_wp2_with (first | (refine wpList_store_row rfl 25 (.tmp 2) (.tmp 20) rfl (w.heap.size + 1) (stC (s.clock) (s.next) (s.last) u).toArray rfl rfl 25 zT.toArray HS9.out size24 rfl HSA9.out ?_) | (refine wpList_store_row rfl 37 (.tmp 3) (.tmp 21) rfl (w.heap.size + 2) (rpC ⟨0, 0, []⟩ (.slice none 0 0)).toArray rfl rfl 37 zR.toArray HR9.out sizeR rfl (rp_all ⟨0, 0, []⟩ rfl) ?_) | fail)
    refine bodyPost_ret (m_res hmf rfl rfl rfl) rfl ?_
    show GivesRes w (annotR s x o) _ _
    rw [HRES.out]
    exact m_gives (t := ⟨s.clock, s.next, s.last, _⟩) (rp := ⟨0, 0, []⟩) hmf hon (by omega) (RLt.nil_ _ _ _ _ (by decide))
end Go.Proofs.YtodckdkbheapfaaGreat
set_option linter.unusedVariables false
namespace Go.Proofs.YtodckdkbheapfaaGreat
open Go.RowKit Go.Rst Go.Tp Go.Ts Go.Md
theorem step_own3 {P : Program} {w : World} {ops : Array Oper} {o : Oper} {a : Act} {K : Act → World → Prop} {Q : Exit → Act → World → Prop} {E : Prop} (hgd : o.guard = none) (s x : Operand) (t tx : TypeId)
    (ho : o.op = .call { callee := .builtin .append, args := #[s, x], argTypes := #[t, tx] })
    (base : Nat) (e : TypeId) (z : Value) (size bytes : Nat) (ht : P.underlying t = some (.slice e)) (hinfo : (P.info? e).map (fun i => (i.zero, i.size, i.bytes)) = some (some z, size, bytes))
    (hzs : z.cells.size = size)
    {v : Value} {n : Nat} {xs : List Value} (hs : a.eval s = v) (hown : w.ownsRow base e size v n xs)
    {xv : Value} {m : Nat} {news : List Value} (hx : a.eval x = xv) (hsrc : Src P size tx xv m news w)
    (h63 : n + m ≤ maxLen) (hbytes : (n + m) * bytes ≤ 140737488355328) (hbase : base ≤ w.heap.size)
    (h : ∀ v' w', w'.ownsRow base e size v' (n + m) (xs ++ news) → w.grownBy w' v.ownBlock → (v'.ownBlock = v.ownBlock ∨ v'.ownBlock = some w.heap.size) → K (a.put o.dst v') w') :
    if Region.wanted o (yielded ops a.tmps) = true then Oper.wp P o a w K Q else E := by
  have hw : Region.wanted o (yielded ops a.tmps) = true := by simp [Region.wanted, hgd]
  rw [if_pos hw]
  obtain ⟨i, hi, hz, hsz, hb⟩ := info_parts hinfo
  exact wp_append_src s x t tx ho base e i z size bytes ht hi hz hsz hb hzs hs hown hx hsrc h63 hbytes hbase fun v' w' h1 h2 h3 => h v' w' h1 h2 h3
theorem ownZ_set {K : Nat} {w w9 : World} {zs : List Tri} (hz : OwnZ K w zs) {i : Nat} (hi : i < zs.length) {v : Value} {q : List Msg} (hg : w.grownBy w9 zs[i].2.2.ownBlock) (hq : OwnQ w9 K v q)
    (hb : v.ownBlock = zs[i].2.2.ownBlock ∨ v.ownBlock = some w.heap.size) : OwnZ K w9 (zs.set i ({ zs[i].1 with queue := q }, (zs[i].2.1, v))) := by
  have hoi := (hz.1 _ (List.getElem_mem hi)).2
  have hp := List.pairwise_iff_getElem.1 hz.2
  have hlt : ∀ j (hj : j < zs.length) k, zs[j].2.2.ownBlock = some k → k < w.heap.size := fun j hj k h => ((hz.1 _ (List.getElem_mem hj)).2.lt k h).2
  refine ⟨fun z hzm => ?_, ?_⟩
  · obtain ⟨j, hj, rfl⟩ := List.getElem_of_mem hzm
    rw [List.length_set] at hj
    rw [List.getElem_set]
    split
    · rename_i e
      subst e
      exact ⟨(hz.1 _ (List.getElem_mem hi)).1.kept hg (own_ne_own (hz.1 _ (List.getElem_mem hi)).1 hoi (by decide)), hq⟩
    · rename_i e
      have hzj := hz.1 _ (List.getElem_mem hj)
      refine ⟨hzj.1.kept hg (own_ne_own hzj.1 hoi (by decide)), hzj.2.kept hg ?_⟩
      rcases Nat.lt_or_gt_of_ne e with hl | hl
      · exact hp i j hi hj hl
      · rcases hp j i hj hi hl with h6 | h6
        · cases h7 : zs[j].2.2.ownBlock with
          | none => exact .inl rfl
          | some k => exact .inr (by rw [h6]; simp)
        · exact .inr (fun h7 => h6 h7.symm)
  · rw [List.pairwise_iff_getElem]
    intro a b ha hb2 hab
    rw [List.length_set] at ha hb2
    rw [List.getElem_set, List.getElem_set]
    split
    · rename_i e
      subst e
      rw [if_neg (by omega)]
      rcases hb with hb | hb
      · show v.ownBlock = none ∨ v.ownBlock ≠ zs[a].2.2.ownBlock
        rw [hb]
        exact hp a _ ha hb2 hab
      · refine .inr (fun h => ?_)
        have h2 := hlt a ha w.heap.size (h.symm.trans hb)
        omega
    · split
      · rename_i e1 e
        subst e
        show zs[b].2.2.ownBlock = none ∨ zs[b].2.2.ownBlock ≠ v.ownBlock
        rcases hb with hb | hb
        · rw [hb]
          exact hp _ b ha hb2 hab
        · refine .inr (fun h => ?_)
          have h2 := hlt b hb2 w.heap.size (h.trans hb)
          omega
      · exact hp a b ha hb2 hab
end Go.Proofs.YtodckdkbheapfaaGreat
set_option linter.unusedVariables false
set_option linter.unusedSimpArgs false
namespace Go.Md
open Go Go.Tp Go.Ts
def IdxM (p : Msg → Bool) (xs : List Msg) (r : Int) : Prop := (∃ k : Nat, ∃ h : k < xs.length, r = k ∧ p xs[k] = true ∧ ∀ j (hj : j < xs.length), j < k → p xs[j] = false) ∨ (r = -1 ∧ ∀ j (hj : j < xs.length), p xs[j] = false)
structure DelM (p : Msg → Bool) (xs : List Msg) (i j : Nat) (cs : List Msg) : Prop where
  len : cs.length = xs.length
  ij : i < j
  jn : j ≤ xs.length
  lo : cs.take i = (xs.take j).filter (fun m => !p m)
  hi : cs.drop j = xs.drop j
theorem filter_all {p : Msg → Bool} {xs : List Msg} (h : ∀ j (hj : j < xs.length), p xs[j] = false) : xs.filter (fun m => !p m) = xs := by
  rw [List.filter_eq_self]
  intro m hm
  obtain ⟨j, hj, rfl⟩ := List.getElem_of_mem hm
  simp [h j hj]
theorem DelM.start {p : Msg → Bool} {xs : List Msg} {k : Nat} (hk : k < xs.length) (h1 : p xs[k] = true) (h2 : ∀ j (hj : j < xs.length), j < k → p xs[j] = false) : DelM p xs k (k + 1) xs := by
  refine ⟨rfl, by omega, by omega, ?_, rfl⟩
  rw [List.take_succ_eq_append_getElem hk, List.filter_append]
  rw [filter_all (xs := xs.take k) (fun j hj => by rw [List.getElem_take]; rw [List.length_take] at hj; exact h2 j (by omega) (by omega))]
  simp [h1]
theorem DelM.skip {p : Msg → Bool} {xs : List Msg} {i j : Nat} {cs : List Msg} (h : DelM p xs i j cs) (hj : j < xs.length) (hx : p xs[j] = true) : DelM p xs i (j + 1) cs := by
  refine ⟨h.len, by have := h.ij; omega, by omega, ?_, ?_⟩
  · rw [h.lo, List.take_succ_eq_append_getElem hj, List.filter_append]
    simp [hx]
  · have := congrArg (List.drop 1) h.hi
    rwa [List.drop_drop, List.drop_drop] at this
theorem DelM.keep {p : Msg → Bool} {xs : List Msg} {i j : Nat} {cs : List Msg} (h : DelM p xs i j cs) (hj : j < xs.length) (hx : p xs[j] = false) : DelM p xs (i + 1) (j + 1) (cs.set i xs[j]) := by
  have hij := h.ij
  have hl := h.len
  refine ⟨by rw [List.length_set, hl], by omega, by omega, ?_, ?_⟩
  · rw [List.take_succ_eq_append_getElem (by rw [List.length_set]; omega), List.take_set_of_le (Nat.le_refl _), List.getElem_set_self, h.lo, List.take_succ_eq_append_getElem hj, List.filter_append]
    simp [hx]
  · rw [List.drop_set_of_lt (by omega)]
    have := congrArg (List.drop 1) h.hi
    rwa [List.drop_drop, List.drop_drop] at this
theorem DelM.at_ {p : Msg → Bool} {xs : List Msg} {i j : Nat} {cs : List Msg} (h : DelM p xs i j cs) (hj : j < xs.length) : cs[j]'(by rw [h.len]; exact hj) = xs[j] := by
  have h1 : (cs.drop j)[0]? = (xs.drop j)[0]? := by rw [h.hi]
  rw [List.getElem?_drop, List.getElem?_drop, Nat.add_zero, List.getElem?_eq_getElem (by rw [h.len]; exact hj), List.getElem?_eq_getElem hj] at h1
  injection h1
end Go.Md
namespace Go.Proofs.YtodckdkbheapfaaGreat
open Go.RowKit Go.Rst Go.Tp Go.Ts Go.Md
def Ent (f : FuncId) : Prop := ∀ (args : Array Value) (W : World), (callFunc f args).run Tryz.prog W = .ok (.enter f args) W
theorem Ent.mk_ {f : FuncId} {fn : Func} {c : Code} (hf : Tryz.prog.funcs[f]? = some fn) (hname : (fn.name == "runtime.NumGoroutine") = false) (hb : fn.body = some c) : Ent f := fun args W => by
  have h2 : ¬ fn.name = "runtime.NumGoroutine" := by simpa using hname
  unfold callFunc
  simp [hf, h2, hb]
def PredM (S : World → Prop) (f : FuncId) (cap : Array Value) (p : Msg → Bool) : Prop := ∀ m W, S W → Calls Tryz.prog f (#[.agg (msgC m).toArray] ++ cap) W fun e w' => e = .returned (.bool (p m)) ∧ Below W.heap.size W w'
theorem own_n {w : World} {B : Nat} {e : TypeId} {sz g n c k : Nat} {xs : List Value} (h : w.ownsRow B e sz (.slice (some ⟨g, 0, none⟩) n c) k xs) : n = k := by
  obtain ⟨A, c2, h1, _⟩ := own_shape h
  injection h1
theorem OwnQ.at2 {w : World} {B g c n : Nat} {q : List Msg} (h : OwnQ w B (.slice (some ⟨g, 0, none⟩) n c) q) {i : Nat} (hi : i < q.length) : w.rangeAt g (i * 8) (msgC q[i]) := by
  obtain rfl := own_n h
  exact OwnQ.at_ h hi
theorem OwnQ.there2 {w : World} {B g c n : Nat} {q : List Msg} (h : OwnQ w B (.slice (some ⟨g, 0, none⟩) n c) q) {i : Nat} (hi : i < q.length) : w.there g (i * 8) 8 := by
  obtain rfl := own_n h
  exact OwnQ.there h hi
theorem OwnQ.set2 {w : World} {B g c n : Nat} {q : List Msg} (h : OwnQ w B (.slice (some ⟨g, 0, none⟩) n c) q) {i : Nat} (hi : i < q.length) (m : Msg) :
    OwnQ (w.setCells g (i * 8) (msgC m)) B (.slice (some ⟨g, 0, none⟩) n c) (q.set i m) ∧ w.grownBy (w.setCells g (i * 8) (msgC m)) (some g) := by
  obtain rfl := own_n h
  exact OwnQ.set_ h hi m
theorem OwnQ.fz_ {w : World} {B g c n : Nat} {q : List Msg} (h : OwnQ w B (.slice (some ⟨g, 0, none⟩) n c) q) (k : Nat) : w.frozen? ⟨g, k, none⟩ = false := by
  obtain rfl := own_n h
  exact h.frozenAt k
theorem OwnQ.cells_ {w : World} {B g c n : Nat} {q : List Msg} (h : OwnQ w B (.slice (some ⟨g, 0, none⟩) n c) q) (k : Nat) (hk : k < q.length * 8) : (w.cell? ⟨g, k, none⟩).isSome = true := by
  obtain rfl := own_n h
  rw [h.cellAt k hk, List.getElem?_eq_getElem (by rw [flat_len]; exact hk)]
  rfl
theorem own_prefix {w : World} {B : Nat} {e : TypeId} {sz g n c i : Nat} {xs : List Value} (h : w.ownsRow B e sz (.slice (some ⟨g, 0, none⟩) n c) n xs) (hi : i ≤ n) : w.ownsRow B e sz (.slice (some ⟨g, 0, none⟩) i c) i (xs.take (i * sz)) := by
  obtain ⟨h1, h2⟩ := h
  rcases h2 with ⟨h2, _⟩ | ⟨g', cap, cur, h2, hb, hg, hl, hm, hs, ht⟩
  · cases h2
  · injection h2 with e1 e2 e3
    injection e1 with e1
    injection e1 with e1 _ _
    subst e1
    subst e3
    have hm2 : i * sz ≤ n * sz := Nat.mul_le_mul_right _ hi
    refine ⟨by rw [List.length_take, h1]; omega, .inr ⟨g, c, cur, rfl, hb, hg, by omega, hm, hs, ?_⟩⟩
    rw [← ht, List.take_take, Nat.min_eq_left hm2]
theorem setL_take : ∀ (vs : List Value) (xs : List Value) (o k : Nat), k ≤ o → (setL xs o vs).take k = xs.take k
  | [], _, _, _, _ => rfl
  | v :: r, xs, o, k, h => by
    unfold setL
    rw [setL_take r (xs.set o v) (o + 1) k (by omega), List.take_set_of_le h]
theorem flat_take (q : List Msg) (i : Nat) : (q.map msgC).flatten.take (i * 8) = ((q.take i).map msgC).flatten := by
  by_cases hi : i ≤ q.length
  · have h1 : q = q.take i ++ q.drop i := by rw [List.take_append_drop]
    conv => lhs; rw [h1]
    rw [List.map_append, List.flatten_append, List.take_append_of_le_length (by rw [flat_len, List.length_take]; omega), List.take_of_length_le (by rw [flat_len, List.length_take]; omega)]
  · rw [List.take_of_length_le (by rw [flat_len]; omega), List.take_of_length_le (by omega)]
theorem zero45 : ∀ w : World, (zeroValue 45).run Tryz.prog w = .ok (.agg #[.int .i64 0, .string .empty, .string .empty, .int .i64 0, .int .i64 0, .bool false, .string .empty, .int .i64 0]) w := fun w => by
  obtain ⟨i, hi, hz, _⟩ := info_parts infoMsg
  simp [zeroValue, typeInfo, hi, hz]
def boxM (w : World) (C : List Value) : World := (w.alloc (.cells #[.int .i64 0, .string ⟨#[]⟩, .string ⟨#[]⟩, .int .i64 0, .int .i64 0, .bool false, .string ⟨#[]⟩, .int .i64 0] 45)).setRow w.heap.size C.toArray
theorem boxM_def (w : World) (C : List Value) : (w.alloc (.cells #[.int .i64 0, .string ⟨#[]⟩, .string ⟨#[]⟩, .int .i64 0, .int .i64 0, .bool false, .string ⟨#[]⟩, .int .i64 0] 45)).setRow w.heap.size C.toArray = boxM w C := rfl
theorem boxM_below (w : World) (C : List Value) : Below w.heap.size w (boxM w C) := below_setRow ((Below.refl _ w).alloc (Nat.le_refl _) _) (Nat.le_refl _) _
theorem boxM_wh (w : World) (C : List Value) : Wh (boxM w C) w.heap.size C 45 := (Wh.new w [.int .i64 0, .string ⟨#[]⟩, .string ⟨#[]⟩, .int .i64 0, .int .i64 0, .bool false, .string ⟨#[]⟩, .int .i64 0] 45).set C
theorem boxM_old (w : World) : Wh (w.alloc (.cells #[.int .i64 0, .string ⟨#[]⟩, .string ⟨#[]⟩, .int .i64 0, .int .i64 0, .bool false, .string ⟨#[]⟩, .int .i64 0] 45)) w.heap.size [.int .i64 0, .string ⟨#[]⟩, .string ⟨#[]⟩, .int .i64 0, .int .i64 0, .bool false, .string ⟨#[]⟩, .int .i64 0] 45 := Wh.new w _ _
set_option maxRecDepth 100000 in
set_option maxHeartbeats 4000000 in
theorem idx_msgs (v : Value) (xs : List Msg) (S : World → Prop) (f : FuncId) (cap : Array Value) (p : Msg → Bool) (w : World) (hv : RM w v xs) (hS : S w) (hSb : ∀ W W2, S W → w.heap.size ≤ W.heap.size → Below W.heap.size W W2 → S W2) (he : Ent f) (hp : PredM S f cap p) :
    Calls Tryz.prog 110 #[v, .func (.func f) #[] cap] w fun e w' => (∃ r : Int, e = .returned (.int .i64 r) ∧ IdxM p xs r) ∧ Below w.heap.size w w' := by
  have HV := Lib.hid hv
  have HS := Lib.hid hS
  have HSB := Lib.hid hSb
  have HP := Lib.hid hp
  obtain ⟨A, c, rfl, hc1, hc2⟩ := hv.shape
  unfold maxLen at hc2
  have hen : ∀ (args : Array Value) (W : World), Sem.run Tryz.prog (callFunc f args) W = .ok (.enter f args) W := he
  clear hv hS hSb hp he
  go_enter Tryz.func110, Tryz.ntmps110
  go_wp2
  go_loopw [8] (fun i wr => ∃ k : Nat, k ≤ xs.length ∧ i = .int .i64 k ∧ (∀ j (hj : j < xs.length), j < k → p xs[j] = false) ∧ S wr ∧ Below w.heap.size w wr) (fun i _ => xs.length - (intOf i).toNat)
  case atStart => exact ⟨0, Nat.zero_le _, rfl, fun j _ h => by omega, HS.out, Below.refl _ _⟩
  case round =>
    obtain ⟨k, hk, rfl, hall, hsw, hbw⟩ := hrel
    have HALL := Lib.hid hall
    have HSW := Lib.hid hsw
    have HBW := Lib.hid hbw
    clear hall hsw hbw
    by_cases hlt : k < xs.length
    · obtain ⟨g, off, cs, rfl, hg, hcs, hcell⟩ := (HV.out.below stays_cm HBW.out).at_ hlt
      obtain rfl := hcs
      have q1 : (k : Int) < (xs.length : Int) := by omega
      have HK := Lib.hid (HP.out xs[k] wr HSW.out)
      have HRG := Lib.hid (CellsAt.range hcell)
      have HNX := Lib.hid (fun h : p xs[k] = false => (fun j hj hjk => by
        by_cases e : j = k
        · subst e; exact h
        · exact HALL.out j hj (by omega) : ∀ j (hj : j < xs.length), j < k + 1 → p xs[j] = false))
      have HST := Lib.hid (fun h : p xs[k] = true => (.inl ⟨k, hlt, rfl, h, HALL.out⟩ : IdxM p xs k))
      obtain ⟨m, hm⟩ : ∃ m, m = xs[k] := ⟨_, rfl⟩
      rw [← hm] at HRG HK HNX HST
      clear hm hcell
      obtain ⟨M, hM⟩ : ∃ M, M = msgC m := ⟨_, rfl⟩
      have HMS := Lib.hid (show (Tryz.prog.info? 45).map (·.size) = some M.length by rw [hM]; exact size45)
      rw [← hM] at HRG HK
      clear hM
      cases hq : p m with
      | true =>
        rw [hq] at HK
        go_wp2_with (first
          | (refine wpList_load_midG (by rfl) 45 (.tmp 14) rfl g (off + k * 8) rfl _ _ HRG.out Tryz.underlying45 rfl HMS.out ?_)
          | fail)
        refine HK.out.mono ?_
        rintro e w3 ⟨rfl, hb3⟩
        go_wp2_with fail
        go_ret
        exact ⟨⟨_, rfl, HST.out hq⟩, HBW.out.trans (hb3.mono HBW.out.size)⟩
      | false =>
        rw [hq] at HK
        go_wp2_with (first
          | (refine wpList_load_midG (by rfl) 45 (.tmp 14) rfl g (off + k * 8) rfl _ _ HRG.out Tryz.underlying45 rfl HMS.out ?_)
          | fail)
        refine HK.out.mono ?_
        rintro e w3 ⟨rfl, hb3⟩
        have H3 := Lib.hid hb3
        clear hb3
        go_wp2_with fail
        go_roundw
        case rel => exact ⟨k + 1, by omega, by go_num, HNX.out hq, HSB.out _ _ HSW.out HBW.out.size H3.out, HBW.out.trans (H3.out.mono HBW.out.size)⟩
        case measure => simp [intOf]; omega
    · have q1 : ¬ (k : Int) < (xs.length : Int) := by omega
      go_wp2
      go_ret
      exact ⟨⟨_, rfl, .inr ⟨rfl, fun j hj => HALL.out j hj (by omega)⟩⟩, HBW.out⟩
def GivesDelM (B : Nat) (w : World) (v : Value) (ys : List Msg) (e : Ending) (w' : World) : Prop := ∃ u, e = .returned u ∧ OwnQ w' B u ys ∧ w.grownBy w' v.ownBlock ∧ ∀ k, u.ownBlock = some k → v.ownBlock = some k
set_option maxRecDepth 100000 in
set_option maxHeartbeats 8000000 in
theorem del_msgs (v : Value) (xs : List Msg) (B : Nat) (S : World → Prop) (f : FuncId) (cap : Array Value) (p : Msg → Bool) (w : World) (hv : OwnQ w B v xs) (hS : S w) (hSb : ∀ W W2, S W → w.heap.size ≤ W.heap.size → W.grownBy W2 v.ownBlock → S W2) (he : Ent f) (hp : PredM S f cap p) (hl : xs.length ≤ 1000000) :
    Calls Tryz.prog 79 #[v, .func (.func f) #[] cap] w (GivesDelM B w v (xs.filter (fun m => !p m))) := by
  have HIX := Lib.hid (idx_msgs v xs S f cap p w (OwnQ.rm hv) hS (fun W W2 h1 h2 h3 => hSb W W2 h1 h2 (grown_of_below h3 _)) he hp)
  obtain ⟨A, c, rfl, hc1⟩ := own_shape hv
  have HC1 := Lib.hid hc1
  have HV := Lib.hid hv
  have HS := Lib.hid hS
  have HSB := Lib.hid hSb
  have HP := Lib.hid hp
  have hen : ∀ (args : Array Value) (W : World), Sem.run Tryz.prog (callFunc f args) W = .ok (.enter f args) W := he
  clear hv hc1 hS hSb hp he
  go_enter Tryz.func79, Tryz.ntmps79
  go_wp2_with fail
  refine HIX.out.mono ?_
  rintro e w2 ⟨⟨r, rfl, hr⟩, hb2⟩
  have HB2 := Lib.hid hb2
  clear hb2
  rcases hr with ⟨k, hk, hrk, h1, h2⟩ | ⟨hrk, hall⟩
  case inr =>
    subst hrk
    have HU := Lib.hid (filter_all hall)
    clear hall
    go_wp2
    go_ret
    exact ⟨_, rfl, by rw [HU.out]; exact own_below HV.out HB2.out, grown_of_below HB2.out _, fun k h => h⟩
  subst hrk
  obtain ⟨g, rfl⟩ : ∃ g, A = some ⟨g, 0, none⟩ := by
    rcases HV.out.2 with ⟨h, h0⟩ | ⟨g, cap, cur, h, _⟩
    · omega
    · injection h with h3 _ h4
      exact ⟨g, h3⟩
  have hcap : xs.length ≤ c := HC1.out
  have HGL := Lib.hid (HV.out.lt g rfl)
  have HD0 := Lib.hid (DelM.start hk h1 h2)
  have HV2 := Lib.hid (own_below HV.out HB2.out)
  have HS2 := Lib.hid (HSB.out _ _ HS.out (Nat.le_refl _) (grown_of_below HB2.out _))
  have hkl : (k : Int) < 9223372036854775807 := by omega
  clear h1 h2
  have hxl : (xs.length : Int) ≤ 4611686018427387904 := by omega
  have hk1 : (k : Int) ≠ -1 := by omega
  have q0 : ((k : Int) == -1) = false := beq_eq_false_iff_ne.2 hk1
  go_wp2_with fail
  go_loopw [5, 6] (fun iv jv wr => ∃ (i j : Nat) (cs : List Msg), iv = .int .i64 i ∧ jv = .int .i64 j ∧ DelM p xs i j cs ∧ OwnQ wr B (.slice (some ⟨g, 0, none⟩) xs.length c) cs ∧ S wr ∧ w.grownBy wr (some g)) (fun _ jv _ => xs.length - (intOf jv).toNat)
  case atStart => exact ⟨k, k + 1, _, rfl, by go_num, HD0.out, HV2.out, HS2.out, grown_of_below HB2.out _⟩
  case round =>
    obtain ⟨i, j, cs, rfl, rfl, hd, how, hsw, hgr⟩ := hrel
    have hij := hd.ij
    have hjn := hd.jn
    have hcl := hd.len
    have HD := Lib.hid hd
    have HO := Lib.hid how
    have HSW := Lib.hid hsw
    have HG := Lib.hid hgr
    clear hd how hsw hgr
    by_cases hlt : j < xs.length
    · have q1 : (j : Int) < (xs.length : Int) := by omega
      obtain ⟨m, hm⟩ : ∃ m, m = xs[j] := ⟨_, rfl⟩
      obtain ⟨M, hM⟩ : ∃ M, M = msgC m := ⟨_, rfl⟩
      have HME := Lib.hid hM
      have HRG := Lib.hid (show wr.rangeAt g (j * 8) M by have := OwnQ.at2 HO.out (i := j) (by omega); rw [HD.out.at_ hlt, ← hm, ← hM] at this; exact this)
      have HMS := Lib.hid (show (Tryz.prog.info? 45).map (·.size) = some M.length by rw [hM]; exact size45)
      have HMT := Lib.hid (show (Tryz.prog.info? 45).map (·.size) = some M.toArray.size by rw [hM]; exact size45)
      have HMO := Lib.hid (show (#[.int .i64 0, .string ⟨#[]⟩, .string ⟨#[]⟩, .int .i64 0, .int .i64 0, .bool false, .string ⟨#[]⟩, .int .i64 0] : Array Value).size = M.toArray.size by rw [hM]; rfl)
      have HMA := Lib.hid (show M.toArray.all (·.oneCell') = true by rw [hM]; exact msg_all m)
      have HSK := Lib.hid (fun h : p m = true => HD.out.skip hlt (by rw [← hm]; exact h))
      have HKP := Lib.hid (fun h : p m = false => (by have := HD.out.keep hlt (by rw [← hm]; exact h); rw [← hm] at this; exact this : DelM p xs (i + 1) (j + 1) (cs.set i m)))
      have hbm := boxM_below wr M
      have HBM := Lib.hid hbm
      have HGB := Lib.hid (grown_below HG.out hbm)
      have HSX := Lib.hid (HSB.out _ _ HSW.out HG.out.size (grown_of_below hbm _))
      have HK := Lib.hid (HP.out m (boxM wr M) HSX.out)
      have HOX := Lib.hid (own_below HO.out hbm)
      have HRB := Lib.hid (boxM_wh wr M).range
      rw [← HME.out] at HK
      clear hm hM hbm
      cases hq : p m with
      | true =>
        rw [hq] at HK
        go_wp2_with (first
          | (refine wpList_load_midG (by rfl) 45 (.tmp 24) rfl g (j * 8) rfl _ _ HRG.out Tryz.underlying45 rfl HMS.out ?_)
          | (refine wpList_store_row rfl 45 (.tmp 7) (.tmp 25) rfl wr.heap.size M.toArray rfl rfl 45 #[.int .i64 0, .string ⟨#[]⟩, .string ⟨#[]⟩, .int .i64 0, .int .i64 0, .bool false, .string ⟨#[]⟩, .int .i64 0] (boxM_old wr) HMT.out HMO.out HMA.out ?_; rw [boxM_def])
          | (refine wpList_load_midG (by rfl) 45 (.tmp 7) rfl wr.heap.size 0 rfl _ _ HRB.out Tryz.underlying45 rfl HMS.out ?_)
          | fail)
        refine HK.out.mono ?_
        rintro e w3 ⟨rfl, hb3⟩
        have H3 := Lib.hid hb3
        clear hb3
        go_wp2_with fail
        go_roundw
        case rel => exact ⟨i, j + 1, cs, rfl, by go_num, HSK.out hq, own_below HOX.out H3.out, HSB.out _ _ HSX.out HGB.out.size (grown_of_below H3.out _), grown_below HGB.out H3.out⟩
        case measure => simp [intOf]; omega
      | false =>
        rw [hq] at HK
        go_wp2_with (first
          | (refine wpList_load_midG (by rfl) 45 (.tmp 24) rfl g (j * 8) rfl _ _ HRG.out Tryz.underlying45 rfl HMS.out ?_)
          | (refine wpList_store_row rfl 45 (.tmp 7) (.tmp 25) rfl wr.heap.size M.toArray rfl rfl 45 #[.int .i64 0, .string ⟨#[]⟩, .string ⟨#[]⟩, .int .i64 0, .int .i64 0, .bool false, .string ⟨#[]⟩, .int .i64 0] (boxM_old wr) HMT.out HMO.out HMA.out ?_; rw [boxM_def])
          | (refine wpList_load_midG (by rfl) 45 (.tmp 7) rfl wr.heap.size 0 rfl _ _ HRB.out Tryz.underlying45 rfl HMS.out ?_)
          | fail)
        refine HK.out.mono ?_
        rintro e w3 ⟨rfl, hb3⟩
        have H3 := Lib.hid hb3
        have HO3 := Lib.hid (own_below HOX.out hb3)
        have hth := OwnQ.there2 HO3.out (i := i) (by omega)
        have HTH := Lib.hid (show w3.there g (i * 8) M.toArray.size by rw [HME.out]; exact hth)
        have HRB3 := Lib.hid ((boxM_wh wr M).below hb3).range
        have hst := OwnQ.set2 HO3.out (i := i) (by omega) m
        rw [← HME.out] at hst
        have HST := Lib.hid hst
        have q3 : (i : Int) < (xs.length : Int) := by omega
        clear hb3 hth hst
        go_wp2_with (first
          | (refine wpList_load_midG (by rfl) 45 (.tmp 7) rfl wr.heap.size 0 rfl _ _ HRB3.out Tryz.underlying45 rfl HMS.out ?_)
          | (refine wpList_store_mid rfl 45 (.tmp 33) (.tmp 32) rfl g (i * 8) M.toArray rfl rfl HTH.out HMT.out HMA.out ?_)
          | fail)
        go_roundw
        case rel => exact ⟨i + 1, j + 1, cs.set i m, by go_num, by go_num, HKP.out hq, HST.out.1, HSB.out _ _ (HSB.out _ _ HSX.out HGB.out.size (grown_of_below H3.out _)) (Nat.le_trans HGB.out.size H3.out.size) HST.out.2, grown_more (grown_below HGB.out H3.out) HST.out.2⟩
        case measure => simp [intOf]; omega
    · have q1 : ¬ (j : Int) < (xs.length : Int) := by omega
      obtain rfl : j = xs.length := by omega
      have hcn := OwnQ.cells_ HO.out
      have hfz := OwnQ.fz_ HO.out
      have hcl := fun ty => run_clearS (P := Tryz.prog) wr 28 45 ty (.agg #[.int .i64 0, .string .empty, .string .empty, .int .i64 0, .int .i64 0, .bool false, .string .empty, .int .i64 0]) Tryz.underlying28 zero45 (by simp [Value.cells, Value.oneCell']) g (i * 8) (xs.length - i) (c - i) (by omega)
        (fun t ht => hcn _ (by simp only [Value.cells, List.size_toArray, List.length_cons, List.length_nil] at ht; omega)) (fun t _ => hfz _)
      have e1 : ((i : Int)).toNat = i := by omega
      have q8 : ¬ c = i := by omega
      have q9 : i ≤ c := by omega
      have q10 : i ≤ xs.length := by omega
      clear hcn hfz
      go_wp2_with (simp only [hcl])
      go_ret
      have ho := HO.out
      have hlo := HD.out.lo
      rw [List.take_length] at hlo
      have hcs := HD.out.len
      have hil : (xs.filter (fun m => !p m)).length = i := by rw [← hlo, List.length_take]; omega
      unfold OwnQ at ho
      rw [hcs] at ho
      obtain ⟨g1, g2⟩ := own_setCells (Builtin.zeroCells #[Value.int IntKind.i64 0, Value.string ByteArray.empty, Value.string ByteArray.empty, Value.int IntKind.i64 0, Value.int IntKind.i64 0, Value.bool false, Value.string ByteArray.empty, Value.int IntKind.i64 0] (xs.length - i)).toList (i * 8) wr _ ho
      have g3 := own_prefix g1 (i := i) (by omega)
      rw [setL_take _ _ _ _ (Nat.le_refl _), flat_take, hlo] at g3
      refine ⟨_, rfl, ?_, grown_more HG.out g2, fun k h => h⟩
      show World.ownsRow _ _ _ _ _ (xs.filter (fun m => !p m)).length _
      rw [hil]
      exact g3
end Go.Proofs.YtodckdkbheapfaaGreat
set_option linter.unusedVariables false
namespace Go.Proofs.YtodckdkbheapfaaGreat
open Go
theorem step_load_mid {P : Program} {ops : Array Oper} {o : Oper} {a : Act} {w : World} {K : Act → World → Prop} {Q : Exit → Act → World → Prop} {E : Prop} (hgd : o.guard = none) (ty : TypeId) (x : Operand) (ho : o.op = .load ty x)
    (b off : Nat) (cs : List Value) (d : TypeDesc) (hx : a.eval x = .pointer (some ⟨b, off, none⟩)) (hc : w.rangeAt b off cs) (hu : P.underlying ty = some d) (hd : d.isRow = true) (hi : (P.info? ty).map (·.size) = some cs.length)
    (h : K (a.put o.dst (.agg cs.toArray)) w) : if Region.wanted o (yielded ops a.tmps) = true then Oper.wp P o a w K Q else E := by
  have hw : Region.wanted o (yielded ops a.tmps) = true := by simp [Region.wanted, hgd]
  rw [if_pos hw]
  exact wp_load_mid ty x ho b off hx cs d hc hu hd hi h
theorem step_store_mid {P : Program} {ops : Array Oper} {o : Oper} {a : Act} {w : World} {K : Act → World → Prop} {Q : Exit → Act → World → Prop} {E : Prop} (hgd : o.guard = none) (ty : TypeId) (x y : Operand) (ho : o.op = .store ty x y)
    (b off : Nat) (cells : Array Value) (hx : a.eval x = .pointer (some ⟨b, off, none⟩)) (hy : a.eval y = .agg cells) (ht : w.there b off cells.size) (hi : (P.info? ty).map (·.size) = some cells.size) (h1 : cells.all (·.oneCell') = true)
    (h : K (a.put o.dst undef) (w.setCells b off cells.toList)) : if Region.wanted o (yielded ops a.tmps) = true then Oper.wp P o a w K Q else E := by
  have hw : Region.wanted o (yielded ops a.tmps) = true := by simp [Region.wanted, hgd]
  rw [if_pos hw]
  exact wp_store_mid ty x y ho b off cells hx hy ht hi h1 h
end Go.Proofs.YtodckdkbheapfaaGreat
set_option linter.unusedVariables false
set_option linter.unusedSimpArgs false
namespace Go.Proofs.YtodckdkbheapfaaGreat
open Go.RowKit Go.Rst Go.Tp Go.Ts Go.Md
theorem map_next {α : Type} (f : α → α) (xs : List α) (i : Nat) (h : i < xs.length) : ((xs.take i).map f ++ xs.drop i).set i (f xs[i]) = (xs.take (i + 1)).map f ++ xs.drop (i + 1) := by
  rw [List.set_append_right _ _ (by simp; omega)]
  have h1 : i - ((xs.take i).map f).length = 0 := by simp; omega
  rw [h1, List.take_succ_eq_append_getElem h, List.map_append, List.append_assoc]
  congr 1
  have h2 : xs.drop i = xs[i] :: xs.drop (i + 1) := List.drop_eq_getElem_cons h
  rw [h2]
  rfl
theorem map_same {α : Type} (f : α → α) (xs : List α) (i : Nat) (h : i < xs.length) (hf : f xs[i] = xs[i]) : (xs.take i).map f ++ xs.drop i = (xs.take (i + 1)).map f ++ xs.drop (i + 1) := by
  rw [List.take_succ_eq_append_getElem h, List.map_append, List.append_assoc, List.drop_eq_getElem_cons h]
  simp [hf]
theorem all_next {α : Type} (p : α → Bool) (xs : List α) (i : Nat) (h : i < xs.length) (ha : (xs.take i).all p = true) (hp : p xs[i] = true) : (xs.take (i + 1)).all p = true := by
  rw [List.take_succ_eq_append_getElem h, List.all_append, ha]
  simp [hp]
set_option maxRecDepth 100000 in
set_option maxHeartbeats 8000000 in
theorem publish_p (s : St) (v : Value) (o : Md.Op) (dv : Value) (w : World) (h : RS w v s.subs) (hr : Rt s) (ho : OpOk o) (hd : dv.oneCell' = true) :
    Calls Tryz.prog 46 #[.agg (askC s v o dv).toArray] w (GivesRes w (publishR s o)) := by
  obtain ⟨A, ca, rfl, hca, hcm⟩ := h.shape
  obtain ⟨AC, hAC⟩ : ∃ AC, AC = askC s (.slice A s.subs.length ca) o dv := ⟨_, rfl⟩
  have HACE := Lib.hid hAC
  have HAI := Lib.hid (show (Tryz.prog.info? 73).map (·.size) = some AC.length by rw [hAC]; exact sizeA)
  have HPT := Lib.hid (fun W (h : Wh W w.heap.size AC 73) => ask_part (s := s) (v := .slice A s.subs.length ca) (o := o) (dv := dv) (by rw [← hAC]; exact h))
  have HR := Lib.hid h
  have HRT := Lib.hid hr
  have HOK := Lib.hid ho
  have HD := Lib.hid hd
  have HZ := Lib.hid hr.sized
  have HL := Lib.hid hr.len
  have HMF := Lib.hid (MF.start w AC)
  have HCV0 := Lib.hid (fun (W : World) (h : Wh W w.heap.size AC 73) => h.cv 0 (v := .int .i64 s.clock) (by rw [hAC]; rfl))
  have HCV1 := Lib.hid (fun (W : World) (h : Wh W w.heap.size AC 73) => h.cv 1 (v := .int .i64 s.next) (by rw [hAC]; rfl))
  have HCV2 := Lib.hid (fun (W : World) (h : Wh W w.heap.size AC 73) => h.cv 2 (v := .int .i64 s.last) (by rw [hAC]; rfl))
  have HCV3 := Lib.hid (fun (W : World) (h : Wh W w.heap.size AC 73) => h.cv 3 (v := .slice A s.subs.length ca) (by rw [hAC]; rfl))
  have HCV4 := Lib.hid (fun (W : World) (h : Wh W w.heap.size AC 73) => h.cv 4 (v := .int .i64 o.kind) (by rw [hAC]; rfl))
  have HCV5 := Lib.hid (fun (W : World) (h : Wh W w.heap.size AC 73) => h.cv 5 (v := .int .i64 o.sub) (by rw [hAC]; rfl))
  have HCV6 := Lib.hid (fun (W : World) (h : Wh W w.heap.size AC 73) => h.cv 6 (v := .int .i64 o.n) (by rw [hAC]; rfl))
  have HCV7 := Lib.hid (fun (W : World) (h : Wh W w.heap.size AC 73) => h.cv 7 (v := .int .i64 o.seq) (by rw [hAC]; rfl))
  have HCV8 := Lib.hid (fun (W : World) (h : Wh W w.heap.size AC 73) => h.cv 8 (v := sv o.name) (by rw [hAC]; rfl))
  have HCV9 := Lib.hid (fun (W : World) (h : Wh W w.heap.size AC 73) => h.cv 9 (v := sv o.topic) (by rw [hAC]; rfl))
  have HCV10 := Lib.hid (fun (W : World) (h : Wh W w.heap.size AC 73) => h.cv 10 (v := sv o.want) (by rw [hAC]; rfl))
  have HCV11 := Lib.hid (fun (W : World) (h : Wh W w.heap.size AC 73) => h.cv 11 (v := sv o.body) (by rw [hAC]; rfl))
  have HCV12 := Lib.hid (fun (W : World) (h : Wh W w.heap.size AC 73) => h.cv 12 (v := sv o.attr) (by rw [hAC]; rfl))
  have HCV13 := Lib.hid (fun (W : World) (h : Wh W w.heap.size AC 73) => h.cv 13 (v := dv) (by rw [hAC]; rfl))
  obtain ⟨W0, hW0⟩ : ∃ W0, W0 = A3 w AC := ⟨_, rfl⟩
  rw [← hW0] at HMF
  rw [← hAC]
  unfold A3 at hW0
  unfold maxLen at hcm
  clear h hr ho hd hAC
  have k9_ := HCV9.out W0 HMF.out.a
  rw [hW0] at k9_
  go_enter Tryz.func46, Tryz.ntmps46
  go_wp2_with fail
  rw [← hW0]
  clear hW0
  refine (rightP_any o.topic _).mono ?_
  rintro e v1 ⟨rfl, hbv1⟩
  have HM1 := Lib.hid (HMF.out.below hbv1)
  clear hbv1 k9_
  go_wp2_with fail
  cases h1 : rightB o.topic with
  | false =>
    have HRES := Lib.hid (show publishR s o = Res.no 41 by unfold publishR need; simp [h1])
    refine (must_no 41 _).mono ?_
    rintro e w9 ⟨rfl, rfl⟩
    refine ⟨rfl, ?_⟩
    show GivesRes w (publishR s o) _ _
    rw [HRES.out]
    exact ⟨rfl, HM1.out.b⟩
  | true =>
    refine (must_yes 41 _).mono ?_
    rintro e w9 ⟨rfl, rfl⟩
    have k11_ := HCV11.out _ HM1.out.a
    have hbl := HOK.out.bd
    by_cases h2 : o.body.length ≤ 60
    case neg =>
      have q1 : decide ((o.body.length : Int) ≤ 60) = false := decide_eq_false (by omega)
      go_wp2_with fail
      have HRES := Lib.hid (show publishR s o = Res.no 3 by unfold publishR need; simp [h1, h2])
      refine (must_no 3 _).mono ?_
      rintro e w9 ⟨rfl, rfl⟩
      refine ⟨rfl, ?_⟩
      show GivesRes w (publishR s o) _ _
      rw [HRES.out]
      exact ⟨rfl, HM1.out.b⟩
    have q1 : (o.body.length : Int) ≤ 60 := by omega
    go_wp2_with fail
    refine (must_yes 3 _).mono ?_
    rintro e w9 ⟨rfl, rfl⟩
    clear q1 k11_
    have k12_ := HCV12.out _ HM1.out.a
    go_wp2_with fail
    refine (attrsP_any o.attr _).mono ?_
    rintro e v3 ⟨rfl, hbv3⟩
    have HM3 := Lib.hid (HM1.out.below hbv3)
    clear hbv3 k12_
    go_wp2_with fail
    cases h3 : attrsB o.attr with
    | false =>
      have HRES := Lib.hid (show publishR s o = Res.no 42 by unfold publishR need; simp [h1, h2, h3])
      refine (must_no 42 _).mono ?_
      rintro e w9 ⟨rfl, rfl⟩
      refine ⟨rfl, ?_⟩
      show GivesRes w (publishR s o) _ _
      rw [HRES.out]
      exact ⟨rfl, HM3.out.b⟩
    | true =>
      refine (must_yes 42 _).mono ?_
      rintro e w9 ⟨rfl, rfl⟩
      have k6_ := HCV6.out _ HM3.out.a
      go_wp2_with fail
      refine (within_any o.n 0 9 _).mono ?_
      rintro e v4 ⟨rfl, rfl⟩
      clear k6_
      go_wp2_with fail
      cases h4 : (decide (0 ≤ o.n) && decide (o.n ≤ 9)) with
      | false =>
        have HRES := Lib.hid (show publishR s o = Res.no 1 by unfold publishR need; simp [h1, h2, h3, h4])
        refine (must_no 1 _).mono ?_
        rintro e w9 ⟨rfl, rfl⟩
        refine ⟨rfl, ?_⟩
        show GivesRes w (publishR s o) _ _
        rw [HRES.out]
        exact ⟨rfl, HM3.out.b⟩
      | true =>
        refine (must_yes 1 _).mono ?_
        rintro e w9 ⟨rfl, rfl⟩
        have k1_ := HCV1.out _ HM3.out.a
        by_cases h5 : s.next < 1073741824
        case neg =>
          have q1 : decide (s.next < 1073741824) = false := decide_eq_false (by omega)
          go_wp2_with fail
          have HRES := Lib.hid (show publishR s o = Res.no 32 by unfold publishR need; simp [h1, h2, h3, h4]; intro hh; omega)
          refine (must_no 32 _).mono ?_
          rintro e w9 ⟨rfl, rfl⟩
          refine ⟨rfl, ?_⟩
          show GivesRes w (publishR s o) _ _
          rw [HRES.out]
          exact ⟨rfl, HM3.out.b⟩
        have q1 : s.next < 1073741824 := h5
        go_wp2_with fail
        refine (must_yes 32 _).mono ?_
        rintro e w9 ⟨rfl, rfl⟩
        have k6_ := HCV6.out _ HM3.out.a
        have k11_ := HCV11.out _ HM3.out.a
        have k12_ := HCV12.out _ HM3.out.a
        have HRES := Lib.hid (show publishR s o = need (s.subs.all fun x => !hasB x o || decide (x.queue.length < 30)) 31 (.yes ⟨s.clock, s.next + 1, s.last, s.subs.map (pubX s o)⟩ ⟨0, s.next, []⟩) by unfold publishR; simp only [h1, h3, h4, h2, h5, need, decide_true, if_true]; try rfl)
        have HTL := Lib.hid (right_parts h1).2
        obtain ⟨M, hM⟩ : ∃ M, M = msgC (msgP s o) := ⟨_, rfl⟩
        have HME := Lib.hid hM
        have HMT := Lib.hid (show (Tryz.prog.info? 45).map (·.size) = some M.toArray.size by rw [hM]; exact size45)
        have HMO := Lib.hid (show (#[.int .i64 0, .string ⟨#[]⟩, .string ⟨#[]⟩, .int .i64 0, .int .i64 0, .bool false, .string ⟨#[]⟩, .int .i64 0] : Array Value).size = M.toArray.size by rw [hM]; rfl)
        have HMA := Lib.hid (show M.toArray.all (·.oneCell') = true by rw [hM]; exact msg_all _)
        have HMV := Lib.hid (show Value.agg M.toArray = .agg #[.int .i64 s.next, sv o.body, sv o.attr, .int .i64 0, .int .i64 0, .bool false, .string ⟨#[]⟩, .int .i64 o.n] by rw [hM]; rfl)
        obtain ⟨W5, hW5⟩ : ∃ W5, W5 = w9 := ⟨_, rfl⟩
        subst hW5
        have HMW := Lib.hid (boxM_wh W5 M)
        have HMB := Lib.hid (boxM_below W5 M)
        have HM5W := Lib.hid HM3.out.n
        have HM6 := Lib.hid (HM3.out.below (boxM_below W5 M))
        have HP2 := Lib.hid (HPT.out _ HM6.out.a)
        clear h1 h2 h3 h4 h5 hM
        go_wp2_with (first | (refine wpList_store_row rfl 45 (.tmp 4) (.tmp 46) rfl W5.heap.size M.toArray rfl (by exact HMV.out.symm) 45 #[.int .i64 0, .string ⟨#[]⟩, .string ⟨#[]⟩, .int .i64 0, .int .i64 0, .bool false, .string ⟨#[]⟩, .int .i64 0] (boxM_old W5) HMT.out HMO.out HMA.out ?_; rw [boxM_def]) | (refine wpList_load_midG (by rfl) 25 (.tmp 47) rfl w.heap.size 0 rfl _ _ HP2.out Tryz.underlying25 rfl size24 ?_) | fail)
        obtain ⟨W6, hW6⟩ : ∃ W6, W6 = boxM W5 M := ⟨_, rfl⟩
        rw [← hW6] at HMW HMB HM6 HP2 ⊢
        clear hW6
        refine (ownS_any s (.slice A s.subs.length ca) _ (HR.out.below stays_cs HM6.out.b) HZ.out (by have := HL.out; omega)).mono ?_
        rintro e w7 ⟨u, zs, rfl, hzm, hot, hoz, hb7⟩
        clear HP2 k1_ k6_ k11_ k12_ q1
        obtain ⟨T, hT⟩ : ∃ T, T = stC s.clock s.next s.last u := ⟨_, rfl⟩
        have hu1 := rl_one (own_on hot hoz).rs
        have HT := Lib.hid (show Cut T by rw [hT]; exact Cut.mk_ _ _ _ hu1)
        have HTE := Lib.hid hT
        rw [← hT]
        have hbt7 := boxT_below w7 T
        have hmb := HM6.out.below (hb7.trans (hbt7.mono hb7.size))
        have HM9 := Lib.hid hmb
        have hmm := HMW.out.below (hb7.trans (hbt7.mono hb7.size))
        have HMM := Lib.hid hmm
        have HBT := Lib.hid (boxT_wh w7 T)
        have hn7 : w.heap.size + 3 ≤ w7.heap.size := Nat.le_trans HM6.out.n hb7.size
        have HN7 := Lib.hid hn7
        have HNK := Lib.hid HM6.out.n
        have HM5N := Lib.hid (show W5.heap.size < W6.heap.size from (Array.getElem?_eq_some_iff.1 HMW.out).1)
        have HK7 := Lib.hid hb7.size
        have HOT := Lib.hid (own_below hot hbt7)
        have HOZ := Lib.hid (hoz.below hbt7)
        have HZM := Lib.hid hzm
        obtain ⟨Au, ku, hu, hku⟩ : ∃ Au ku, u = .slice Au s.subs.length ku ∧ s.subs.length ≤ ku := by
          obtain ⟨A1, k1, h1, h2⟩ := own_shape hot
          rw [← hzm, List.length_map]
          exact ⟨A1, k1, h1, h2⟩
        have HUU := Lib.hid hu
        have k3 := HBT.out.cv 3 (v := u) (by rw [hT]; rfl)
        rw [hu] at k3
        clear hT hmb hmm hbt7 hot hoz hzm hb7 hu hn7
        go_wp2_with (first | (refine wpList_store_row rfl 25 (.tmp 5) (.tmp 49) rfl w7.heap.size T.toArray rfl rfl 25 #[.int .i64 0, .int .i64 0, .int .i64 0, .slice none 0 0] (boxT_old w7) HT.out.info HT.out.old HT.out.all ?_; rw [boxT_def]) | fail)
        go_loopw [53] (fun iv wr => ∃ (i : Nat) (zs : List Tri), i ≤ s.subs.length ∧ iv = .int .i64 i ∧ zs.map (·.1) = (s.subs.take i).map (pubX s o) ++ s.subs.drop i ∧ ((s.subs.take i).all fun x => !hasB x o || decide (x.queue.length < 30)) = true ∧ MF w wr AC ∧ OwnT wr W6.heap.size (.slice Au s.subs.length ku) zs ∧ OwnZ W6.heap.size wr zs ∧ Wh wr w7.heap.size T 25 ∧ Wh wr W5.heap.size M 45) (fun iv _ => s.subs.length - (intOf iv).toNat)
        case atStart =>
          have ho := HOT.out
          rw [HUU.out] at ho
          exact ⟨0, zs, Nat.zero_le _, rfl, by rw [HZM.out]; rfl, rfl, HM9.out, ho, HOZ.out, HBT.out, HMM.out⟩
        case round =>
          clear k3 HM9 HMM HBT HOT HOZ HZM
          obtain ⟨i, zs, hi, rfl, hzl, hall, hmf, hot, hoz, hbt, hbm⟩ := hrel
          obtain ⟨Wo, hWo⟩ : ∃ W, W = wr := ⟨_, rfl⟩
          subst hWo
          have HZL := Lib.hid hzl
          have HALL := Lib.hid hall
          have HM := Lib.hid hmf
          have HOT := Lib.hid hot
          have HOZ := Lib.hid hoz
          have HBT := Lib.hid hbt
          have HBM := Lib.hid hbm
          have hzn : zs.length = s.subs.length := by
            have h1 : (zs.map (·.1)).length = s.subs.length := by rw [hzl, List.length_append, List.length_map, List.length_take, List.length_drop]; omega
            rwa [List.length_map] at h1
          have HZN := Lib.hid hzn
          clear hzl hall hmf hot hoz hbt hbm hzn
          have hL20 := HL.out
          have n0 := HRT.out.n0
          have n1 := HRT.out.n1
          by_cases hin : i < s.subs.length
          case neg =>
            have q1 : ¬ ((i : Int) < (s.subs.length : Int)) := by omega
            have hie : i = s.subs.length := by omega
            have e5 : wrap64 (s.next + 1) = s.next + 1 := by unfold wrap64; omega
            have hall := HALL.out
            rw [hie, List.take_length] at hall
            have HRES2 := Lib.hid (show publishR s o = Res.yes ⟨s.clock, s.next + 1, s.last, s.subs.map (pubX s o)⟩ ⟨0, s.next, []⟩ by rw [HRES.out, hall]; rfl)
            clear HRES
            have HRES := HRES2
            clear HRES2
            have hon1 := own_on HOT.out HOZ.out
            rw [HZL.out, hie, List.take_length, List.drop_length, List.append_nil, ← HUU.out] at hon1
            have f1 := HBT.out.frozen 1
            have k1 := HBT.out.cv 1 (v := .int .i64 s.next) (by rw [HTE.out]; rfl)
            have hgr := grown_cell Wo w7.heap.size 1 (.int .i64 (s.next + 1))
            have hb2 := HBT.out.set1 1 (.int .i64 (s.next + 1))
            have hm0 := HBM.out.kept hgr (by have := HM5N.out; have := HK7.out; simp; omega)
            have k0 := hm0.cv 0 (v := .int .i64 s.next) (by rw [HME.out]; rfl)
            have HMN := Lib.hid (HM.out.grown hgr HN7.out)
            have HON := Lib.hid (hon1.kept_wh hgr HBT.out (by decide) (by decide) (by decide))
            obtain ⟨T2, hT2⟩ : ∃ T2, T2 = T.set 1 (.int .i64 (s.next + 1)) := ⟨_, rfl⟩
            rw [← hT2] at hb2
            have HTE2 := Lib.hid (show T2 = stC s.clock (s.next + 1) s.last u by rw [hT2, HTE.out]; rfl)
            have HT2 := Lib.hid (show Cut T2 by rw [HTE2.out]; exact Cut.mk_ _ _ _ (rl_one hon1.rs))
            rw [HTE2.out] at hb2
            have HB2 := Lib.hid hb2
            have HMM2 := Lib.hid hm0
            have hK := HNK.out
            have hKK := HK7.out
            have hN7 := HN7.out
            have hM5 := HM5N.out
            clear hT2 hb2 hgr hon1 hie hall
            go_wp2_with fail
            obtain ⟨W8, hW8⟩ : ∃ X, X = Wo.setCell ⟨w7.heap.size, 1, none⟩ (.int .i64 (s.next + 1)) := ⟨_, rfl⟩
            rw [← hW8] at HMN HON HB2 HMM2 ⊢
            clear hW8 f1 k1 hm0 k0
            have hN5 : w.heap.size + 3 ≤ W5.heap.size := HM5W.out
            have hbd := SB.b0 (SB.start W8)
            refine wp_region_held_drew (S := fun X => MS w AC X ∧ Wh X w7.heap.size (stC s.clock (s.next + 1) s.last u) 25 ∧ Wh X W5.heap.size M 45) (by kernel_rfl) ⟨HMN.out.ms, HB2.out.below hbd, HMM2.out.below hbd⟩ (fun hHeld => ?_)
            refine tkC 1 ?_
            refine tkA 2 (v := .int .i64 s.next) ?_ ?_
            · intro W hSw; have hq := hSw.2.2.cv 0 (v := .int .i64 s.next) (by rw [HME.out]; rfl)
              go_simp; try (with_reducible rfl)
            try simp only [Act.put, zA, zB, zC]
            refine tkA 0 (v := .agg (stC s.clock (s.next + 1) s.last u).toArray) (fun W hSw => exec_load_mid 25 (.tmp 5) rfl w7.heap.size 0 rfl _ _ (hSw.2.1.range) Tryz.underlying25 rfl size24) ?_
            try simp only [Act.put, zA, zB, zC]
            refine tkC 3 ?_
            have hmf := HMN.out.below hbd
            have hon := HON.out.below hbd
            refine rdA (rs := [4]) (arC (i := 4) fun K hK => ?_)
            refine step_store_row rfl 25 (.tmp 2) (.tmp 92) rfl (w.heap.size + 1) (stC (s.clock) (s.next + 1) (s.last) u).toArray rfl rfl 25 zT.toArray hmf.s size24 rfl (st_all _ _ _ (rl_one hon.rs)) ?_
            refine hK.out _ _ ?_ (fun _ => ?_)
            · exact ⟨hHeld.1.row (by omega) _, hHeld.2.1.setOther (by omega) _, hHeld.2.2.setOther (by omega) _⟩
            clear hK K
            try simp only [Act.put, zA, zB, zC]
            refine rdA (rs := [5]) (arC (i := 5) fun K hK => ?_)
            refine step_store_row rfl 37 (.tmp 3) (.tmp 95) rfl (w.heap.size + 2) (rpC ⟨0, s.next, []⟩ (.slice none 0 0)).toArray rfl rfl 37 zR.toArray (hmf.r.setOther (by omega) _) sizeR rfl (rp_all _ rfl) ?_
            refine hK.out _ _ ?_ (fun _ => ?_)
            · exact ⟨(hHeld.1.row (by omega) _).row (by omega) _, (hHeld.2.1.setOther (by omega) _).setOther (by omega) _, (hHeld.2.2.setOther (by omega) _).setOther (by omega) _⟩
            clear hK K
            try simp only [Act.put, zA, zB, zC]
            refine wpAnyH_done (by kernel_rfl) ?_ _
            clear hHeld
            go_wp2_with fail
            refine bodyPost_ret (m_res hmf rfl rfl rfl) rfl ?_
            show GivesRes w (publishR s o) _ _
            rw [HRES.out]
            exact m_gives (t := ⟨s.clock, s.next + 1, s.last, _⟩) (rp := ⟨0, s.next, []⟩) hmf hon (by omega) (RLt.nil_ _ _ _ _ (by decide))
          have q1 : (i : Int) < (s.subs.length : Int) := by omega
          have q2 : (0 : Int) ≤ (i : Int) := by omega
          have hiz : i < zs.length := by have := HZN.out; omega
          have hot := HOT.out
          rw [show (Value.slice Au s.subs.length ku) = .slice Au zs.length ku by rw [HZN.out]] at hot
          obtain ⟨g, cc, hfm, hgb, hgl, hcl, hcm⟩ := hot.form (by omega)
          injection hfm with e1 _ e3
          subst e1
          subst e3
          have HRG := Lib.hid (hot.at_ hiz)
          obtain ⟨z, hz⟩ : ∃ z, z = zs[i] := ⟨_, rfl⟩
          rw [← hz] at HRG
          obtain ⟨xi, hxi⟩ : ∃ xi, xi = s.subs[i]'hin := ⟨_, rfl⟩
          have hz1 : z.1 = xi := by
            have h2 : (zs.map (·.1))[i]? = some z.1 := by rw [List.getElem?_map, List.getElem?_eq_getElem hiz, ← hz]; rfl
            rw [HZL.out, List.getElem?_append_right (by simp; omega), List.getElem?_drop] at h2
            rw [show i + (i - ((s.subs.take i).map (pubX s o)).length) = i by simp; omega, List.getElem?_eq_getElem hin] at h2
            rw [hxi]
            exact (Option.some.inj h2).symm
          have HZI := Lib.hid hz
          have HZ1 := Lib.hid hz1
          have hoz := HOZ.out.1 z (by rw [hz]; exact List.getElem_mem hiz)
          have HXG := Lib.hid (show Gd xi s.clock s.next by rw [hxi]; exact HRT.out.gd (List.getElem_mem hin))
          have HXI := Lib.hid hxi
          obtain ⟨E, hE⟩ : ∃ E, E = tC z := ⟨_, rfl⟩
          have HE := Lib.hid (show Cub E by rw [hE]; exact Cub.mk_ z.1 (rl_one (OwnA.ri hoz.1)) (rl_one (OwnQ.rm hoz.2)))
          have HEE := Lib.hid hE
          have HRG2 := Lib.hid (show Wo.rangeAt g (i * 10) E by rw [hE]; exact HRG.out)
          have HOZ2 := Lib.hid hoz
          have hb6 := box_wh Wo E
          have k2 := hb6.cv 2 (v := sv xi.topic) (by rw [hE, ← hz1]; rfl)
          have k3 := hb6.cv 3 (v := sv xi.want) (by rw [hE, ← hz1]; rfl)
          have HB6 := Lib.hid hb6
          have HBW := Lib.hid (box_below Wo E)
          have HM6 := Lib.hid (HM.out.below (box_below Wo E))
          have k9 := HCV9.out _ HM6.out.a
          have k12 := HCV12.out _ HM6.out.a
          have w3 : wrap64 ((i : Int) + 1) = (i : Int) + 1 := by unfold wrap64; omega
          have HGL := Lib.hid (And.intro hgb hgl)
          have hTPL : xi.topic.length ≤ 30 := by have h := HXG.out.pd.hd.tp; unfold patB at h; rw [Bool.and_eq_true] at h; exact of_decide_eq_true h.2
          clear hot hz hz1 hoz hE HRG hb6 hxi hku hgb hgl hcl
          go_wp2_with (first | (refine wpList_load_midG (by rfl) 30 (.tmp 56) rfl g (i * 10) rfl _ _ HRG2.out Tryz.underlying30 rfl HE.out.infoL ?_) | (refine wpList_store_row rfl 30 (.tmp 7) (.tmp 57) rfl Wo.heap.size E.toArray rfl rfl 30 #[.int .i64 0, .string ⟨#[]⟩, .string ⟨#[]⟩, .string ⟨#[]⟩, .int .i64 0, .int .i64 0, .int .i64 0, .slice none 0 0, .slice none 0 0, .string ⟨#[]⟩] (box_old Wo) HE.out.info HE.out.old HE.out.all ?_; rw [box_def]) | fail)
          refine (matchP_any xi.topic o.topic (by omega) (by have := HTL.out; omega) _).mono ?_
          rintro e w10 ⟨rfl, hb10⟩
          have hbw := HBW.out.trans (hb10.mono HBW.out.size)
          have HB10 := Lib.hid hbw
          have HM10 := Lib.hid (HM.out.below hbw)
          have hb62 := HB6.out.below hb10
          have HB62 := Lib.hid hb62
          clear k2 k3 k9 k12 hbw hb10
          cases hm1 : matB xi.topic o.topic with
          | false =>
            have HHB := Lib.hid (show hasB xi o = false by unfold hasB; rw [hm1]; rfl)
            clear hb62 hm1
            go_wp2_with fail
            go_roundw
            case rel => exact ⟨i + 1, zs, by omega, by go_num, by rw [HZL.out]; exact map_same (pubX s o) s.subs i hin (by rw [← HXI.out]; unfold pubX; rw [if_neg (by rw [HHB.out]; simp)]), all_next _ s.subs i hin HALL.out (by rw [← HXI.out, HHB.out]; rfl), HM.out.below HB10.out, own_below HOT.out HB10.out, HOZ.out.below HB10.out, HBT.out.below HB10.out, HBM.out.below HB10.out⟩
            case measure => simp [intOf]; omega
          | true =>
            have k3 := hb62.cv 3 (v := sv xi.want) (by rw [HEE.out, ← HZ1.out]; rfl)
            have k12 := HCV12.out _ HM10.out.a
            clear hb62
            go_wp2_with fail
            refine (wantP_any xi.want o.attr _).mono ?_
            rintro e w11 ⟨rfl, hb11⟩
            have hbw := HB10.out.trans (hb11.mono HB10.out.size)
            have HB11 := Lib.hid hbw
            have HM11 := Lib.hid (HM.out.below hbw)
            have hb63 := HB62.out.below hb11
            have HB63 := Lib.hid hb63
            clear k3 k12 hbw hb11
            cases hm2 : wantB xi.want o.attr with
            | false =>
              have HHB := Lib.hid (show hasB xi o = false by unfold hasB; rw [hm1, hm2]; rfl)
              clear hb63 hm1 hm2
              go_wp2_with fail
              go_roundw
              case rel => exact ⟨i + 1, zs, by omega, by go_num, by rw [HZL.out]; exact map_same (pubX s o) s.subs i hin (by rw [← HXI.out]; unfold pubX; rw [if_neg (by rw [HHB.out]; simp)]), all_next _ s.subs i hin HALL.out (by rw [← HXI.out, HHB.out]; rfl), HM.out.below HB11.out, own_below HOT.out HB11.out, HOZ.out.below HB11.out, HBT.out.below HB11.out, HBM.out.below HB11.out⟩
              case measure => simp [intOf]; omega
            | true =>
              have HHB := Lib.hid (show hasB xi o = true by unfold hasB; rw [hm1, hm2]; rfl)
              clear hm1 hm2
              obtain ⟨Aq, cq, hqs, hqc⟩ : ∃ Aq cq, z.2.2 = .slice Aq xi.queue.length cq ∧ xi.queue.length ≤ cq := by
                obtain ⟨A1, k1, h1, h2⟩ := own_shape HOZ2.out.2
                rw [← HZ1.out]
                exact ⟨A1, k1, h1, h2⟩
              have k8 := hb63.cv 8 (v := .slice Aq xi.queue.length cq) (by rw [HEE.out, ← hqs]; rfl)
              have HQS := Lib.hid hqs
              have hql := HXG.out.pd.ql
              clear hb63 hqs hqc
              by_cases h30 : xi.queue.length < 30
              case neg =>
                have q3 : decide ((xi.queue.length : Int) < 30) = false := decide_eq_false (by omega)
                have HRES2 := Lib.hid (show publishR s o = Res.no 31 by
                  rw [HRES.out, show (s.subs.all fun x => !hasB x o || decide (x.queue.length < 30)) = false from by
                    rw [Bool.eq_false_iff]
                    intro hall
                    have := List.all_eq_true.1 hall xi (by rw [HXI.out]; exact List.getElem_mem hin)
                    rw [HHB.out] at this
                    simp at this
                    omega]
                  rfl)
                clear HRES
                have HRES := HRES2
                clear HRES2
                go_wp2_with fail
                refine (must_no 31 _).mono ?_
                rintro e w9 ⟨rfl, rfl⟩
                refine ⟨rfl, ?_⟩
                show GivesRes w (publishR s o) _ _
                rw [HRES.out]
                exact ⟨rfl, HM11.out.b⟩
              have q3 : (xi.queue.length : Int) < 30 := by omega
              go_wp2_with fail
              refine (must_yes 31 _).mono ?_
              rintro e w9 ⟨rfl, rfl⟩
              have HBv := HB11
              have hotv := own_below HOT.out HBv.out
              have hozv := HOZ.out.below HBv.out
              have hbtv := HBT.out.below HBv.out
              have hbmv := HBM.out.below HBv.out
              have hbxv := HB63.out
              have hSo := HBv.out.size
              have hM5 := HM5N.out
              have hgl := HGL.out
              clear k8 q3
              go_wp2_with fail
              have hMC : M = [.int .i64 s.next, sv o.body, sv o.attr, .int .i64 0, .int .i64 0, .bool false, .string ⟨#[]⟩, .int .i64 o.n] := by rw [HME.out]; rfl
              have HMS := Lib.hid (show (Tryz.prog.info? 45).map (·.size) = some M.length by rw [HME.out]; exact size45)
              refine wp_region_held_drew (S := fun X => Wh X w7.heap.size T 25 ∧ Wh X Wo.heap.size E 30 ∧ Wh X W5.heap.size [.int .i64 s.next, sv o.body, sv o.attr, .int .i64 0, .int .i64 0, .bool false, .string ⟨#[]⟩, .int .i64 o.n] 45) (by kernel_rfl) ⟨hbtv.below (SB.b0 (SB.start _)), hbxv.below (SB.b0 (SB.start _)), by rw [← hMC]; exact hbmv.below (SB.b0 (SB.start _))⟩ (fun hHeld => ?_)
              refine tkC 0 ?_
              refine tkA 1 (v := .slice (some ⟨g, 0, none⟩) s.subs.length ku) ?_ ?_
              · intro W hSw; have hq := hSw.1.cv 3 (v := .slice (some ⟨g, 0, none⟩) s.subs.length ku) (by rw [HTE.out, ← HUU.out]; rfl)
                go_simp; try (with_reducible rfl)
              try simp only [Act.put, zA, zB, zC]
              refine tkC 2 ?_
              refine tkC 3 ?_
              refine tkA 4 (v := .slice Aq xi.queue.length cq) ?_ ?_
              · intro W hSw; have hq := hSw.2.1.cv 8 (v := .slice Aq xi.queue.length cq) (by rw [HEE.out, ← HQS.out]; rfl)
                go_simp; try (with_reducible rfl)
              try simp only [Act.put, zA, zB, zC]
              refine tkA 5 (v := .agg ([.int .i64 s.next, sv o.body, sv o.attr, .int .i64 0, .int .i64 0, .bool false, .string ⟨#[]⟩, .int .i64 o.n]).toArray) (fun W hSw => exec_load_mid 45 (.tmp 4) rfl W5.heap.size 0 rfl _ _ (hSw.2.2.range) Tryz.underlying45 rfl size45) ?_
              try simp only [Act.put, zA, zB, zC]
              refine rdA (rs := [6]) (arC (i := 6) fun K hK => ?_)
              have hbl : Below w9.heap.size w9 (w9.drew.alloc (.cells #[.int .i64 s.next, sv o.body, sv o.attr, .int .i64 0, .int .i64 0, .bool false, .string ⟨#[]⟩, .int .i64 o.n] 45)) := (SB.b0 (SB.start w9)).alloc (Nat.le_refl _) _
              have hbl2 : Below w9.drew.heap.size w9.drew (w9.drew.alloc (.cells #[.int .i64 s.next, sv o.body, sv o.attr, .int .i64 0, .int .i64 0, .bool false, .string ⟨#[]⟩, .int .i64 o.n] 45)) := (Below.refl _ w9.drew).alloc (Nat.le_refl _) _
              have hHeld8 := And.intro (hHeld.1.below hbl2) (And.intro (hHeld.2.1.below hbl2) (hHeld.2.2.below hbl2))
              have hsr := src_cells w9.drew (g := w9.heap.size) rfl Tryz.underlying28 45 [.int .i64 s.next, sv o.body, sv o.attr, .int .i64 0, .int .i64 0, .bool false, .string ⟨#[]⟩, .int .i64 o.n] (by simp [Value.oneCell'])
              go_simp
              try (go_wp2_with fail)
              refine hK.out _ _ ?_ (fun _ => ?_)
              · exact hHeld8
              clear hK K hHeld hbl2
              obtain ⟨V8, hV8⟩ : ∃ V8, V8 = (w9.alloc (.cells #[.int .i64 s.next, sv o.body, sv o.attr, .int .i64 0, .int .i64 0, .bool false, .string ⟨#[]⟩, .int .i64 o.n] 45)).drew := ⟨_, rfl⟩
              have hE8 : w9.drew.alloc (.cells #[.int .i64 s.next, sv o.body, sv o.attr, .int .i64 0, .int .i64 0, .bool false, .string ⟨#[]⟩, .int .i64 o.n] 45) = V8 := by rw [hV8]; rfl
              have hsr8 : Src Tryz.prog 8 28 (.slice (some ⟨w9.heap.size, 0, none⟩) 1 1) 1 [.int .i64 s.next, sv o.body, sv o.attr, .int .i64 0, .int .i64 0, .bool false, .string ⟨#[]⟩, .int .i64 o.n] V8 := by rw [← hE8]; exact hsr
              rw [hE8] at hbl hHeld8
              try rw [← hV8]
              clear hsr hV8 hE8
              try simp only [Act.put, zA, zB, zC]
              have hot8 := own_below hotv hbl
              have hoz8 := hozv.below hbl
              have hbt8 := hbtv.below hbl
              have hbm8 := hbmv.below hbl
              have hbx8 := hbxv.below hbl
              have hm8 := HM11.out.below hbl
              have hV8s := hbl.size
              have hzq : zs[i].2.2 = .slice Aq xi.queue.length cq := by rw [← HZI.out]; exact HQS.out
              have hoq8 : OwnQ V8 W6.heap.size (.slice Aq xi.queue.length cq) xi.queue := by
                have h := (hoz8.1 _ (List.getElem_mem hiz)).2
                rw [hzq, ← HZI.out, HZ1.out] at h
                exact h
              clear hotv hozv hbtv hbmv hbxv hbl
              refine rdA (rs := [7]) (arC (i := 7) fun K hK => ?_)
              refine step_own3 rfl (.tmp 81) (.tmp 83) 28 28 rfl W6.heap.size 45 (.agg #[.int .i64 0, .string ⟨#[]⟩, .string ⟨#[]⟩, .int .i64 0, .int .i64 0, .bool false, .string ⟨#[]⟩, .int .i64 0]) 8 88 Tryz.underlying28 infoMsg rfl rfl hoq8 rfl hsr8 ?_ ?_ ?_ ?_
              · unfold maxLen; omega
              · omega
              · have := (hot8.lt g rfl).1; have := (hot8.lt g rfl).2; omega
              intro u9 w12 how hgr9 hub
              obtain ⟨A9, k9, rfl, hk9⟩ := own_shape how
              have hou : OwnQ w12 W6.heap.size (.slice A9 (xi.queue.length + 1) k9) (xi.queue ++ [msgP s o]) := by
                have h : [.int .i64 s.next, sv o.body, sv o.attr, .int .i64 0, .int .i64 0, .bool false, .string ⟨#[]⟩, .int .i64 o.n] = msgC (msgP s o) := rfl
                rw [h] at how
                unfold OwnQ
                simpa using how
              have hoz9 := ownZ_set hoz8 hiz (v := .slice A9 (xi.queue.length + 1) k9) (q := xi.queue ++ [msgP s o]) (by rw [hzq]; exact hgr9) hou (by rw [hzq]; exact hub)
              have hot9 : OwnT w12 W6.heap.size (.slice (some ⟨g, 0, none⟩) s.subs.length ku) zs := hot8.kept hgr9 (own_ne_own hot8 hoq8 (by decide))
              have hbt9 := hbt8.kept hgr9 (fun e => own_ne_wh hoq8 hbt8 (by decide) e.symm)
              have hbx9 := hbx8.kept hgr9 (fun e => own_ne_wh hoq8 hbx8 (by decide) e.symm)
              have hbm9 := hbm8.kept hgr9 (fun e => by have := (hoq8.lt _ e.symm).1; omega)
              have hm9 := hm8.grownO hgr9 (fun k e => Nat.le_trans HNK.out (hoq8.lt k e).1)
              have hHeld9 := And.intro (hHeld8.1.kept hgr9 (fun e => own_ne_wh hoq8 hbt8 (by decide) e.symm)) (And.intro (hHeld8.2.1.kept hgr9 (fun e => own_ne_wh hoq8 hbx8 (by decide) e.symm)) (hHeld8.2.2.kept hgr9 (fun e => by have := (hoq8.lt _ e.symm).1; omega)))
              refine hK.out _ _ ?_ (fun _ => ?_)
              · exact hHeld9
              clear hK K hHeld8 hsr8 hoz8 hbm8 hbx8 hm8 hub how hoq8 hbt8 hot8 hgr9
              try simp only [Act.put, zA, zB, zC]
              refine tkA 8 (v := .pointer (some ⟨g, i * 10, none⟩)) ?_ ?_
              · intro W hSw; go_simp; try (with_reducible rfl)
              try simp only [Act.put, zA, zB, zC]
              refine tkA 9 (v := .pointer (some ⟨g, i * 10 + 8, none⟩)) ?_ ?_
              · intro W hSw; go_simp; try (with_reducible rfl)
              try simp only [Act.put, zA, zB, zC]
              refine rdA (rs := [10]) (arC (i := 10) fun K hK => ?_)
              obtain ⟨m, hme⟩ : ∃ m : Tri, m = ({ zs[i].1 with queue := xi.queue ++ [msgP s o] }, (zs[i].2.1, .slice A9 (xi.queue.length + 1) k9)) := ⟨_, rfl⟩
              rw [← hme] at hoz9
              obtain ⟨hot10, hgr10⟩ := hot9.cell_ hiz (k := 8) (by omega) (.slice A9 (xi.queue.length + 1) k9) m (by rw [hme]; rfl)
              have f8 := hot9.fz (i * 10 + 8)
              have k8 := hot9.cv hiz 8 (v := zs[i].2.2) rfl
              obtain ⟨cur9, hcur9⟩ := own_kind (by have h := hot9; rwa [show s.subs.length = zs.length from HZN.out.symm] at h)
              have hoz10 := hoz9.kept hgr10 hcur9 (by decide) (by decide)
              have hbt10 := hbt9.kept hgr10 (fun e => own_ne_wh hot9 hbt9 (by decide) e.symm)
              have hbx10 := hbx9.kept hgr10 (by simp; omega)
              have hbm10 := hbm9.kept hgr10 (by simp; omega)
              have hm10 := hm9.grown hgr10 (by have := HNK.out; omega)
              have hHeld10 := And.intro hbt10 (And.intro hbx10 (by rw [hMC] at hbm10; exact hbm10))
              have hm1 : m.1 = pubX s o s.subs[i] := by
                have h1 : zs[i].1 = xi := by rw [← HZI.out]; exact HZ1.out
                rw [hme, h1, ← HXI.out]
                unfold pubX
                rw [if_pos HHB.out]
              have hmap : (zs.set i m).map (·.1) = (s.subs.take (i + 1)).map (pubX s o) ++ s.subs.drop (i + 1) := by
                rw [List.map_set, HZL.out, hm1, map_next _ _ _ hin]
              have HMAP := Lib.hid hmap
              have H1 := Lib.hid hm10
              have H2 := Lib.hid hot10
              have H3 := Lib.hid hoz10
              have H4 := Lib.hid hbt10
              have H5 := Lib.hid hbm10
              clear hmap hm1 hme hm10 hot10 hoz10 hbt10 hbm10 hbx10 hoz9 hot9 hbt9 hbx9 hbm9 hm9 hcur9 hgr10 hou
              go_simp
              try (go_wp2_with fail)
              refine hK.out _ _ ?_ (fun _ => ?_)
              · exact hHeld10
              clear hK K f8 k8 hHeld9
              refine wpAnyH_done (by kernel_rfl) ?_ _
              clear hHeld10
              go_wp2_with fail
              go_roundw
              case rel => exact ⟨i + 1, _, by omega, by go_num, HMAP.out, all_next _ s.subs i hin HALL.out (by rw [← HXI.out]; simp [h30]), H1.out, H2.out, H3.out, H4.out, H5.out⟩
              case measure => simp [intOf]; omega
end Go.Proofs.YtodckdkbheapfaaGreat
set_option linter.unusedVariables false
set_option linter.unusedSimpArgs false
namespace Go.Proofs.YtodckdkbheapfaaGreat
open Go.RowKit Go.Rst Go.Tp Go.Ts Go.Md
set_option maxRecDepth 100000 in
theorem dead1_ent : Ent 82 := Ent.mk_ Tryz.func82 (by kernel_rfl) rfl
set_option maxRecDepth 100000 in
set_option maxHeartbeats 2000000 in
theorem dead1_pred : PredM (fun _ => True) 82 #[] (fun m => !m.dead) := by
  intro m W hS
  obtain ⟨seq, body, attr, tries, til, dead, why, prio⟩ := m
  simp only [msgC, List.append_eq, Array.append_empty]
  go_enter Tryz.func82, Tryz.ntmps82
  go_wp2
  go_ret
  exact ⟨rfl, (Below.refl _ _).alloc (Nat.le_refl _) _⟩
set_option maxRecDepth 100000 in
theorem purge1_ent : Ent 83 := Ent.mk_ Tryz.func83 (by kernel_rfl) rfl
set_option maxRecDepth 100000 in
set_option maxHeartbeats 2000000 in
theorem purge1_pred : PredM (fun _ => True) 83 #[] (fun m => m.dead) := by
  intro m W hS
  obtain ⟨seq, body, attr, tries, til, dead, why, prio⟩ := m
  simp only [msgC, List.append_eq, Array.append_empty]
  go_enter Tryz.func83, Tryz.ntmps83
  go_wp2
  go_ret
  exact ⟨rfl, (Below.refl _ _).alloc (Nat.le_refl _) _⟩
set_option maxRecDepth 100000 in
theorem ackTo1_ent : Ent 80 := Ent.mk_ Tryz.func80 (by kernel_rfl) rfl
set_option maxRecDepth 100000 in
set_option maxHeartbeats 2000000 in
theorem ackTo1_pred (b : Nat) (k : Int) : PredM (fun W => W.cell? ⟨b, 7, none⟩ = some (.int .i64 k)) 80 #[.pointer (some ⟨b, 0, none⟩)] (fun m => decide (m.seq ≤ k)) := by
  intro m W hS
  obtain ⟨seq, body, attr, tries, til, dead, why, prio⟩ := m
  simp only [msgC, List.append_eq, Array.append_empty]
  have hlt := block_lt_of_cell hS
  go_enter Tryz.func80, Tryz.ntmps80
  go_wp2
  go_ret
  exact ⟨rfl, (Below.refl _ _).alloc (Nat.le_refl _) _⟩
set_option maxRecDepth 100000 in
theorem leased1_ent : Ent 111 := Ent.mk_ Tryz.func111 (by kernel_rfl) rfl
set_option maxRecDepth 100000 in
set_option maxHeartbeats 2000000 in
theorem leased1_pred (b : Nat) (k : Int) : PredM (fun W => W.cell? ⟨b, 7, none⟩ = some (.int .i64 k)) 111 #[.pointer (some ⟨b, 0, none⟩)] (fun m => m.seq == k) := by
  intro m W hS
  obtain ⟨seq, body, attr, tries, til, dead, why, prio⟩ := m
  simp only [msgC, List.append_eq, Array.append_empty]
  have hlt := block_lt_of_cell hS
  go_enter Tryz.func111, Tryz.ntmps111
  go_wp2
  go_ret
  exact ⟨rfl, (Below.refl _ _).alloc (Nat.le_refl _) _⟩
end Go.Proofs.YtodckdkbheapfaaGreat
set_option linter.unusedVariables false
set_option linter.unusedSimpArgs false
namespace Go.Md
open Go Go.Tp Go.Ts
theorem live_dead (l : List Msg) : (l.length : Int) - ((l.filter fun m => !m.dead).length : Nat) = ((l.filter fun m => m.dead).length : Nat) := by
  induction l with
  | nil => rfl
  | cons m l ih =>
    cases hd : m.dead <;> simp only [List.filter_cons, hd, List.length_cons, Bool.not_true, Bool.not_false, if_true, Bool.false_eq_true, if_false] <;> omega
end Go.Md
namespace Go.Proofs.YtodckdkbheapfaaGreat
open Go.RowKit Go.Rst Go.Tp Go.Ts Go.Md
set_option maxRecDepth 100000 in
set_option maxHeartbeats 8000000 in
theorem purge_p (s : St) (v : Value) (o : Md.Op) (dv : Value) (w : World) (h : RS w v s.subs) (hr : Rt s) (ho : OpOk o) (hd : dv.oneCell' = true) :
    Calls Tryz.prog 53 #[.agg (askC s v o dv).toArray] w (GivesRes w (withX s o fun x => purgeR s x)) := by
  obtain ⟨A, ca, rfl, hca, hcm⟩ := h.shape
  obtain ⟨AC, hAC⟩ : ∃ AC, AC = askC s (.slice A s.subs.length ca) o dv := ⟨_, rfl⟩
  have HACE := Lib.hid hAC
  have HAI := Lib.hid (show (Tryz.prog.info? 73).map (·.size) = some AC.length by rw [hAC]; exact sizeA)
  have HPT := Lib.hid (fun W (h : Wh W w.heap.size AC 73) => ask_part (s := s) (v := .slice A s.subs.length ca) (o := o) (dv := dv) (by rw [← hAC]; exact h))
  have HR := Lib.hid h
  have HRT := Lib.hid hr
  have HOK := Lib.hid ho
  have HD := Lib.hid hd
  have HZ := Lib.hid hr.sized
  have HL := Lib.hid hr.len
  have HMF := Lib.hid (MF.start w AC)
  have HCV0 := Lib.hid (fun (W : World) (h : Wh W w.heap.size AC 73) => h.cv 0 (v := .int .i64 s.clock) (by rw [hAC]; rfl))
  have HCV1 := Lib.hid (fun (W : World) (h : Wh W w.heap.size AC 73) => h.cv 1 (v := .int .i64 s.next) (by rw [hAC]; rfl))
  have HCV2 := Lib.hid (fun (W : World) (h : Wh W w.heap.size AC 73) => h.cv 2 (v := .int .i64 s.last) (by rw [hAC]; rfl))
  have HCV3 := Lib.hid (fun (W : World) (h : Wh W w.heap.size AC 73) => h.cv 3 (v := .slice A s.subs.length ca) (by rw [hAC]; rfl))
  have HCV4 := Lib.hid (fun (W : World) (h : Wh W w.heap.size AC 73) => h.cv 4 (v := .int .i64 o.kind) (by rw [hAC]; rfl))
  have HCV5 := Lib.hid (fun (W : World) (h : Wh W w.heap.size AC 73) => h.cv 5 (v := .int .i64 o.sub) (by rw [hAC]; rfl))
  have HCV6 := Lib.hid (fun (W : World) (h : Wh W w.heap.size AC 73) => h.cv 6 (v := .int .i64 o.n) (by rw [hAC]; rfl))
  have HCV7 := Lib.hid (fun (W : World) (h : Wh W w.heap.size AC 73) => h.cv 7 (v := .int .i64 o.seq) (by rw [hAC]; rfl))
  have HCV8 := Lib.hid (fun (W : World) (h : Wh W w.heap.size AC 73) => h.cv 8 (v := sv o.name) (by rw [hAC]; rfl))
  have HCV9 := Lib.hid (fun (W : World) (h : Wh W w.heap.size AC 73) => h.cv 9 (v := sv o.topic) (by rw [hAC]; rfl))
  have HCV10 := Lib.hid (fun (W : World) (h : Wh W w.heap.size AC 73) => h.cv 10 (v := sv o.want) (by rw [hAC]; rfl))
  have HCV11 := Lib.hid (fun (W : World) (h : Wh W w.heap.size AC 73) => h.cv 11 (v := sv o.body) (by rw [hAC]; rfl))
  have HCV12 := Lib.hid (fun (W : World) (h : Wh W w.heap.size AC 73) => h.cv 12 (v := sv o.attr) (by rw [hAC]; rfl))
  have HCV13 := Lib.hid (fun (W : World) (h : Wh W w.heap.size AC 73) => h.cv 13 (v := dv) (by rw [hAC]; rfl))
  obtain ⟨W0, hW0⟩ : ∃ W0, W0 = A3 w AC := ⟨_, rfl⟩
  rw [← hW0] at HMF
  rw [← hAC]
  unfold A3 at hW0
  unfold maxLen at hcm
  clear h hr ho hd hAC
  have hla := HMF.out.a.range
  rw [hW0] at hla
  have HLA := Lib.hid hla
  clear hla
  have hF := sub_p s (.slice A s.subs.length ca) o dv
  have hfi := fun x (h : findS s.subs o.sub = some x) => find_some' h
  have HWX := Lib.hid (show withX s o (fun x => purgeR s x) = (match findS s.subs o.sub with | none => Res.no 30 | some x => (fun x => purgeR s x) x) from rfl)
  rw [HWX.out]
  generalize findS s.subs o.sub = fo at hF hfi ⊢
  have HF := Lib.hid hF
  have HFI := Lib.hid hfi
  clear hF hfi HWX
  go_enter Tryz.func53, Tryz.ntmps53
  go_wp2_with (first | (refine wpList_load_midG (by rfl) 73 (.tmp 1) rfl w.heap.size 0 rfl _ _ HLA.out Tryz.underlying73 rfl HAI.out ?_) | fail)
  rw [← hW0]
  clear hW0 HLA
  have hc := HF.out _ (HR.out.below stays_cs HMF.out.b) HZ.out HD.out
  rw [← HACE.out] at hc
  refine hc.mono ?_
  clear hc
  rintro e w5 hg
  cases fo with
  | none =>
    obtain ⟨rfl, hb5⟩ := hg
    exact ⟨rfl, rfl, HMF.out.b.trans (hb5.mono HMF.out.b.size)⟩
  | some x =>
    obtain ⟨av, qv, rfl, hoa, hoq, hb5⟩ := hg
    have HX := Lib.hid (HFI.out x rfl)
    have HXG := Lib.hid (HRT.out.gd HX.out.1)
    obtain ⟨E, hE⟩ : ∃ E, E = subC x av qv := ⟨_, rfl⟩
    have HE := Lib.hid (show Cub E by rw [hE]; exact Cub.mk_ x (rl_one (OwnA.ri hoa)) (rl_one (OwnQ.rm hoq)))
    have HEE := Lib.hid hE
    rw [← hE]
    have HM1 := Lib.hid (HMF.out.below (hb5.trans ((box_below w5 E).mono hb5.size)))
    have HOA := Lib.hid (own_below hoa (box_below w5 E))
    have HOQ := Lib.hid (own_below hoq (box_below w5 E))
    have HBX := Lib.hid (box_wh w5 E)
    have HN5 := Lib.hid (show w.heap.size + 3 ≤ w5.heap.size from Nat.le_trans HMF.out.n hb5.size)
    have HNW := Lib.hid HMF.out.n
    clear hE hoa hoq hb5
    have k8 := HBX.out.cv 8 (v := qv) (by rw [HEE.out]; rfl)
    obtain ⟨Aq, cq, hqs, _⟩ := own_shape HOQ.out
    have HDL := Lib.hid (del_msgs qv x.queue W0.heap.size (fun _ => True) 83 #[] (fun m => m.dead) (boxW w5 E) HOQ.out trivial (fun _ _ _ _ _ => trivial) purge1_ent purge1_pred (by have := HXG.out.pd.ql; omega))
    have HQL := Lib.hid (fun k h => Nat.le_trans HNW.out (HOQ.out.lt k h).1)
    have HQN := Lib.hid (own_ne_wh HOQ.out HBX.out (by decide))
    have HAQ := Lib.hid (own_ne_own HOA.out HOQ.out (by decide))
    rw [hqs] at k8
    have HQS := Lib.hid hqs
    clear hqs
    go_wp2_with (first | (refine wpList_store_row rfl 30 (.tmp 4) (.tmp 7) rfl w5.heap.size E.toArray rfl rfl 30 #[.int .i64 0, .string ⟨#[]⟩, .string ⟨#[]⟩, .string ⟨#[]⟩, .int .i64 0, .int .i64 0, .int .i64 0, .slice none 0 0, .slice none 0 0, .string ⟨#[]⟩] (box_old w5) HE.out.info HE.out.old HE.out.all ?_; rw [box_def]) | fail)
    rw [← HQS.out]
    refine HDL.out.mono ?_
    rintro e w6 ⟨lv, rfl, hol, hgr6, _⟩
    have hol2 : OwnQ w6 W0.heap.size lv (liveL x) := hol
    have hbx6 := HBX.out.kept hgr6 (fun h => HQN.out h.symm)
    have f8 := hbx6.frozen 8
    have k8 := hbx6.cv 8 (v := qv) (by rw [HEE.out]; rfl)
    rw [HQS.out] at k8
    have hm6 := HM1.out.grownO hgr6 HQL.out
    have hoa6 : OwnA w6 W0.heap.size av x.acks := HOA.out.kept hgr6 HAQ.out
    obtain ⟨Al, cl, hls, _⟩ := own_shape hol2
    subst hls
    have hgr := grown_cell w6 w5.heap.size 8 (.slice Al (liveL x).length cl)
    have hb7 := hbx6.set1 8 (.slice Al (liveL x).length cl)
    have hm7 := hm6.grown hgr HN5.out
    have hoa7 : OwnA _ W0.heap.size av x.acks := hoa6.kept hgr (.inr (own_ne_wh hoa6 hbx6 (by decide)))
    have hol7 : OwnQ _ W0.heap.size _ (liveL x) := hol2.kept hgr (.inr (own_ne_wh hol2 hbx6 (by decide)))
    obtain ⟨E2, hE2⟩ : ∃ E2, E2 = E.set 8 (.slice Al (liveL x).length cl) := ⟨_, rfl⟩
    rw [← hE2] at hb7
    have HEE2 := Lib.hid (show E2 = subC { x with queue := liveL x } av (.slice Al (liveL x).length cl) by rw [hE2, HEE.out]; rfl)
    have HE2 := Lib.hid (show Cub E2 by rw [HEE2.out]; exact Cub.mk_ { x with queue := liveL x } (rl_one (OwnA.ri hoa7)) (rl_one (OwnQ.rm hol7)))
    have HM6 := Lib.hid hm6
    clear hE2 hm6 hol hol2
    go_wp2_with fail
    obtain ⟨W7, hW7⟩ : ∃ W7, W7 = w6.setCell ⟨w5.heap.size, 8, none⟩ (.slice Al (liveL x).length cl) := ⟨_, rfl⟩
    rw [← hW7] at hm7 hoa7 hol7 hb7 ⊢
    have HM7 := Lib.hid hm7
    have HOA7 := Lib.hid (OwnA.ri hoa7)
    have HOQ7 := Lib.hid (OwnQ.rm hol7)
    have HB7 := Lib.hid hb7
    have k8v : E2[8]? = some (.slice Al (liveL x).length cl) := by rw [HEE2.out]; rfl
    have K8V := Lib.hid k8v
    have hN5 := HN5.out
    clear hW7 hm7 hoa7 hol7 hb7 hgr hoa6 hbx6 f8 k8 hgr6 k8v
    refine wp_region_held_drew (S := MSB w AC (w5.heap.size) E2) (by kernel_rfl) (HM7.out.msb HB7.out) (fun hHeld => ?_)
    refine tkC 0 ?_
    refine tkA 1 (v := .agg (stC s.clock s.next s.last (.slice A s.subs.length ca)).toArray) (fun W hSw => exec_load_mid 25 (.tmp 15) rfl w.heap.size 0 rfl _ _ (HPT.out W hSw.1.2.1) Tryz.underlying25 rfl size24) ?_
    try simp only [Act.put, zA, zB, zC]
    refine tkA 2 (v := .agg E2.toArray) (fun W hSw => exec_load_mid 30 (.tmp 4) rfl w5.heap.size 0 rfl _ _ (hSw.2.range) Tryz.underlying30 rfl HE2.out.infoL) ?_
    try simp only [Act.put, zA, zB, zC]
    refine tkC 3 ?_
    refine tkC 4 ?_
    refine tkA 5 (v := .int .i64 s.next) ?_ ?_
    · intro W hSw; have hq := HCV1.out W hSw.1.2.1
      go_simp; try (with_reducible rfl)
    try simp only [Act.put, zA, zB, zC]
    refine tkC 8 ?_
    refine tkC 9 ?_
    refine tkA 10 (v := .slice Al (liveL x).length cl) ?_ ?_
    · intro W hSw; have hq := hSw.2.cv 8 K8V.out
      go_simp; try (with_reducible rfl)
    try simp only [Act.put, zA, zB, zC]
    refine tkA 11 (v := .int .i64 ((liveL x).length : Nat)) ?_ ?_
    · intro W hSw; go_simp; try (with_reducible rfl)
    try simp only [Act.put, zA, zB, zC]
    have hfl : (liveL x).length ≤ x.queue.length := List.length_filter_le _ _
    have hql := HXG.out.pd.ql
    have hdl := live_dead x.queue
    have HDD := Lib.hid (show wrap64 ((x.queue.length : Int) - ((liveL x).length : Nat)) = ((deadL x).length : Nat) from by unfold wrap64 liveL deadL at *; omega)
    clear hdl
    refine tkA 12 (v := .int .i64 ((deadL x).length : Nat)) ?_ ?_
    · intro W hSw; go_simp; try (first | (rw [HDD.out]) | (simp only [IntKind.wrap_i64]; have := HDD.out; unfold wrap64 at this; omega))
    try simp only [Act.put, zA, zB, zC]
    refine tkC 13 ?_
    have HSZ2 := Lib.hid (show Sized { x with queue := liveL x } from Sized.few (by have := HXG.out.al; show x.acks.length ≤ 1000000; omega) (by show (liveL x).length ≤ 1000000; omega))
    have HSZ3 := Lib.hid (show Sized (settleS { x with queue := liveL x } s.next) from Sized.few (Nat.le_trans (List.length_filter_le _ _) (by have := HXG.out.al; show x.acks.length ≤ 1000000; omega)) (by show (liveL x).length ≤ 1000000; omega))
    refine rdA (rs := [6]) (arC (i := 6) fun K hK => ?_)
    go_simp
    have hc := settleP_any { x with queue := liveL x } av (.slice Al (liveL x).length cl) s.next _ (HOA7.out.below stays_ci (SB.b0 (SB.start _))) (HOQ7.out.below stays_cm (SB.b0 (SB.start _))) HSZ2.out
    rw [← HEE2.out] at hc
    refine hc.mono ?_
    clear hc
    rintro e w8 ⟨a8, q8, rfl, ha8, hq8, hb8⟩
    try (go_wp2_with fail)
    have hHeld' := hHeld.below hb8
    refine hK.out _ _ ?_ (fun _ => ?_)
    · exact hHeld'
    clear hK K hHeld
    have hHeld := hHeld'
    clear hHeld'
    try simp only [Act.put, zA, zB, zC]
    refine rdA (rs := [7]) (arC (i := 7) fun K hK => ?_)
    go_simp
    refine (putP_any s.clock s.next s.last (.slice A s.subs.length ca) s.subs _ a8 q8 _ (HR.out.below stays_cs hHeld.1.1) HZ.out (by have := HL.out; omega) ha8 hq8 HSZ3.out).mono ?_
    rintro e w9 ⟨u, rfl, hon, hb9⟩
    try (go_wp2_with fail)
    have hHeld' := hHeld.below hb9
    refine hK.out _ _ ?_ (fun _ => ?_)
    · exact hHeld'
    clear hK K hHeld
    have hHeld := hHeld'
    clear hHeld'
    try simp only [Act.put, zA, zB, zC]
    have hmf := HM7.out.below (((SB.b0 (SB.start W7)).trans hb8).trans (hb9.mono (by have := hb8.size; simpa using this)))
    have hn := HM7.out.n
    have hdz : W7.drew.heap.size = W7.heap.size := by simp
    have hs8 := hb8.size
    have HRES := Lib.hid (show purgeR s x = Res.yes (putSt s (settleS { x with queue := liveL x } s.next)) ⟨0, ((deadL x).length : Nat), []⟩ from rfl)
    refine rdA (rs := [14]) (arC (i := 14) fun K hK => ?_)
    refine step_store_row rfl 25 (.tmp 2) (.tmp 22) rfl (w.heap.size + 1) (stC (s.clock) (s.next) (s.last) u).toArray rfl rfl 25 zT.toArray hmf.s size24 rfl (st_all _ _ _ (rl_one hon.rs)) ?_
    refine hK.out _ _ ?_ (fun _ => ?_)
    · exact hHeld.row (by omega) (by omega) _
    clear hK K
    try simp only [Act.put, zA, zB, zC]
    refine rdA (rs := [15]) (arC (i := 15) fun K hK => ?_)
    refine step_store_row rfl 37 (.tmp 3) (.tmp 28) rfl (w.heap.size + 2) (rpC ⟨0, ((deadL x).length : Nat), []⟩ (.slice none 0 0)).toArray rfl rfl 37 zR.toArray (hmf.r.setOther (by omega) _) sizeR rfl (rp_all _ rfl) ?_
    refine hK.out _ _ ?_ (fun _ => ?_)
    · exact (hHeld.row (by omega) (by omega) _).row (by omega) (by omega) _
    clear hK K
    try simp only [Act.put, zA, zB, zC]
    refine wpAnyH_done (by kernel_rfl) ?_ _
    clear hHeld
    go_wp2_with fail
    refine bodyPost_ret (m_res hmf rfl rfl rfl) rfl ?_
    show GivesRes w (purgeR s x) _ _
    rw [HRES.out]
    exact m_gives (t := ⟨s.clock, s.next, s.last, _⟩) (rp := ⟨0, ((deadL x).length : Nat), []⟩) hmf hon (by omega) (RLt.nil_ _ _ _ _ (by decide))
end Go.Proofs.YtodckdkbheapfaaGreat
