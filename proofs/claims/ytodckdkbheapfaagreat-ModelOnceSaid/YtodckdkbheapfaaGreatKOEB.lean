/-
  The contracts of the program's Do (layer model).; The contracts of the program's Do (layer model).; Words for the statements on the model: boxes of states and of replies, and what lies in them (layer model).; The contracts of the program's known (layer model).
-/
import Derived.Test.YtodckdkbheapfaaGreatKODB
import Derived.Test.YtodckdkbheapfaaGreatKODC
import Derived.Test.YtodckdkbheapfaaGreatKODG
import Derived.Test.YtodckdkbheapfaaGreatKOEA
set_option linter.unusedVariables false
set_option linter.unusedVariables false
set_option linter.unusedSimpArgs false
namespace Go.Proofs.YtodckdkbheapfaaGreat
open Go.RowKit Go.Rst Go.Tp Go.Ts Go.Md
def fK : Int → Nat := fun k => if k = 1 then 44 else if k = 2 then 45 else if k = 3 then 46 else if k = 4 then 47 else if k = 5 then 48 else if k = 6 then 49 else if k = 7 then 50 else if k = 8 then 51 else if k = 9 then 52 else if k = 10 then 53 else if k = 11 then 54 else 55
theorem kind_any (s : St) (v : Value) (o : Md.Op) (dv : Value) (w : World) (h : RS w v s.subs) (hr : Rt s) (ho : OpOk o) (hd : dv.oneCell' = true) (hsa : o.kind = 4 → ∀ x, findS s.subs o.sub = some x → 20 < x.queue.length → SymAll) (h1 : 1 ≤ o.kind) (h2 : o.kind ≤ 12) :
    Calls Tryz.prog (fK o.kind) #[.agg (askC s v o dv).toArray] w (GivesRes w (resR s o)) := by
  have hk : o.kind = 1 ∨ o.kind = 2 ∨ o.kind = 3 ∨ o.kind = 4 ∨ o.kind = 5 ∨ o.kind = 6 ∨ o.kind = 7 ∨ o.kind = 8 ∨ o.kind = 9 ∨ o.kind = 10 ∨ o.kind = 11 ∨ o.kind = 12 := by omega
  rcases hk with hk | hk | hk | hk | hk | hk | hk | hk | hk | hk | hk | hk
  · have hf : fK o.kind = 44 := by rw [hk]; rfl
    have hr2 : resR s o = subscribeR s o := by unfold resR; exact if_pos hk
    rw [hf, hr2]
    exact subscribe_p s v o dv w h hr ho hd
  · have hf : fK o.kind = 45 := by rw [hk]; rfl
    have hr2 : resR s o = (withX s o fun x => .yes ⟨s.clock, s.next, s.last, outS s.subs x.id⟩ ⟨0, 0, []⟩) := by unfold resR; rw [if_neg (by omega)]; exact if_pos hk
    rw [hf, hr2]
    exact unsub_p s v o dv w h hr ho hd
  · have hf : fK o.kind = 46 := by rw [hk]; rfl
    have hr2 : resR s o = publishR s o := by unfold resR; rw [if_neg (by omega)]; rw [if_neg (by omega)]; exact if_pos hk
    rw [hf, hr2]
    exact publish_p s v o dv w h hr ho hd
  · have hf : fK o.kind = 47 := by rw [hk]; rfl
    have hr2 : resR s o = (withX s o fun x => fetchR s x o) := by unfold resR; rw [if_neg (by omega)]; rw [if_neg (by omega)]; rw [if_neg (by omega)]; exact if_pos hk
    rw [hf, hr2]
    exact fetch_p s v o dv w h hr ho hd (hsa hk)
  · have hf : fK o.kind = 48 := by rw [hk]; rfl
    have hr2 : resR s o = (withX s o fun x => ackR s x o) := by unfold resR; rw [if_neg (by omega)]; rw [if_neg (by omega)]; rw [if_neg (by omega)]; rw [if_neg (by omega)]; exact if_pos hk
    rw [hf, hr2]
    exact ack_p s v o dv w h hr ho hd
  · have hf : fK o.kind = 49 := by rw [hk]; rfl
    have hr2 : resR s o = (withX s o fun x => ackToR s x o) := by unfold resR; rw [if_neg (by omega)]; rw [if_neg (by omega)]; rw [if_neg (by omega)]; rw [if_neg (by omega)]; rw [if_neg (by omega)]; exact if_pos hk
    rw [hf, hr2]
    exact ackTo_p s v o dv w h hr ho hd
  · have hf : fK o.kind = 50 := by rw [hk]; rfl
    have hr2 : resR s o = (withX s o fun x => nackR s x o) := by unfold resR; rw [if_neg (by omega)]; rw [if_neg (by omega)]; rw [if_neg (by omega)]; rw [if_neg (by omega)]; rw [if_neg (by omega)]; rw [if_neg (by omega)]; exact if_pos hk
    rw [hf, hr2]
    exact nack_p s v o dv w h hr ho hd
  · have hf : fK o.kind = 51 := by rw [hk]; rfl
    have hr2 : resR s o = tickR s o := by unfold resR; rw [if_neg (by omega)]; rw [if_neg (by omega)]; rw [if_neg (by omega)]; rw [if_neg (by omega)]; rw [if_neg (by omega)]; rw [if_neg (by omega)]; rw [if_neg (by omega)]; exact if_pos hk
    rw [hf, hr2]
    exact tick_p s v o dv w h hr ho hd
  · have hf : fK o.kind = 52 := by rw [hk]; rfl
    have hr2 : resR s o = (withX s o fun x => deadR s x) := by unfold resR; rw [if_neg (by omega)]; rw [if_neg (by omega)]; rw [if_neg (by omega)]; rw [if_neg (by omega)]; rw [if_neg (by omega)]; rw [if_neg (by omega)]; rw [if_neg (by omega)]; rw [if_neg (by omega)]; exact if_pos hk
    rw [hf, hr2]
    exact dead_p s v o dv w h hr ho hd
  · have hf : fK o.kind = 53 := by rw [hk]; rfl
    have hr2 : resR s o = (withX s o fun x => purgeR s x) := by unfold resR; rw [if_neg (by omega)]; rw [if_neg (by omega)]; rw [if_neg (by omega)]; rw [if_neg (by omega)]; rw [if_neg (by omega)]; rw [if_neg (by omega)]; rw [if_neg (by omega)]; rw [if_neg (by omega)]; rw [if_neg (by omega)]; exact if_pos hk
    rw [hf, hr2]
    exact purge_p s v o dv w h hr ho hd
  · have hf : fK o.kind = 54 := by rw [hk]; rfl
    have hr2 : resR s o = (withX s o fun x => annotR s x o) := by unfold resR; rw [if_neg (by omega)]; rw [if_neg (by omega)]; rw [if_neg (by omega)]; rw [if_neg (by omega)]; rw [if_neg (by omega)]; rw [if_neg (by omega)]; rw [if_neg (by omega)]; rw [if_neg (by omega)]; rw [if_neg (by omega)]; rw [if_neg (by omega)]; exact if_pos hk
    rw [hf, hr2]
    exact annotate_p s v o dv w h hr ho hd
  · have hf : fK o.kind = 55 := by rw [hk]; rfl
    have hr2 : resR s o = .yes s ⟨0, (s.subs.length : Nat), []⟩ := by unfold resR; rw [if_neg (by omega)]; rw [if_neg (by omega)]; rw [if_neg (by omega)]; rw [if_neg (by omega)]; rw [if_neg (by omega)]; rw [if_neg (by omega)]; rw [if_neg (by omega)]; rw [if_neg (by omega)]; rw [if_neg (by omega)]; rw [if_neg (by omega)]; rw [if_neg (by omega)]; exact if_pos hk
    rw [hf, hr2]
    exact look_p s v o dv w h hr ho hd
theorem kinds_look (V z : Value) {k : Int} (h1 : 1 ≤ k) (h2 : k ≤ 12) : (kindsL V).lookup k = some (.func (.func (fK k)) #[V] #[]) := by
  have hk : k = 1 ∨ k = 2 ∨ k = 3 ∨ k = 4 ∨ k = 5 ∨ k = 6 ∨ k = 7 ∨ k = 8 ∨ k = 9 ∨ k = 10 ∨ k = 11 ∨ k = 12 := by omega
  rcases hk with rfl | rfl | rfl | rfl | rfl | rfl | rfl | rfl | rfl | rfl | rfl | rfl <;> rfl
theorem kinds_none (V : Value) {k : Int} (h : k < 1 ∨ 12 < k) : (kindsL V).lookup k = none := by
  refine lookup_none_km fun p hp => ?_
  simp only [kindsL, List.mem_cons, List.not_mem_nil, or_false] at hp
  rcases hp with rfl | rfl | rfl | rfl | rfl | rfl | rfl | rfl | rfl | rfl | rfl | rfl <;> simp <;> omega
end Go.Proofs.YtodckdkbheapfaaGreat
set_option linter.unusedVariables false
set_option linter.unusedSimpArgs false
namespace Go.Proofs.YtodckdkbheapfaaGreat
open Go.RowKit Go.Rst Go.Tp Go.Ts Go.Md
theorem kind_enters {k : Int} (h1 : 1 ≤ k) (h2 : k ≤ 12) : ∀ args w, (callFunc (fK k) args).run Tryz.prog w = .ok (.enter (fK k) args) w := by
  have hk : k = 1 ∨ k = 2 ∨ k = 3 ∨ k = 4 ∨ k = 5 ∨ k = 6 ∨ k = 7 ∨ k = 8 ∨ k = 9 ∨ k = 10 ∨ k = 11 ∨ k = 12 := by omega
  rcases hk with rfl | rfl | rfl | rfl | rfl | rfl | rfl | rfl | rfl | rfl | rfl | rfl
  · exact Go.Proofs.enters_of Tryz.func44 (by kernel_rfl) rfl
  · exact Go.Proofs.enters_of Tryz.func45 (by kernel_rfl) rfl
  · exact Go.Proofs.enters_of Tryz.func46 (by kernel_rfl) rfl
  · exact Go.Proofs.enters_of Tryz.func47 (by kernel_rfl) rfl
  · exact Go.Proofs.enters_of Tryz.func48 (by kernel_rfl) rfl
  · exact Go.Proofs.enters_of Tryz.func49 (by kernel_rfl) rfl
  · exact Go.Proofs.enters_of Tryz.func50 (by kernel_rfl) rfl
  · exact Go.Proofs.enters_of Tryz.func51 (by kernel_rfl) rfl
  · exact Go.Proofs.enters_of Tryz.func52 (by kernel_rfl) rfl
  · exact Go.Proofs.enters_of Tryz.func53 (by kernel_rfl) rfl
  · exact Go.Proofs.enters_of Tryz.func54 (by kernel_rfl) rfl
  · exact Go.Proofs.enters_of Tryz.func55 (by kernel_rfl) rfl
def DS (w : World) (SC OC : List Value) (X : World) : Prop := Below w.heap.size w X ∧ Wh X w.heap.size SC 25 ∧ Wh X (w.heap.size + 1) OC 41 ∧ w.heap.size + 4 ≤ X.heap.size
theorem DF.ds {w W : World} {SC OC : List Value} (h : DF w W SC OC) : DS w SC OC W.drew := by
  have := h.below (SB.b0 (SB.start W))
  exact ⟨this.b, this.s, this.o, this.n⟩
theorem DS.below {w X X2 : World} {SC OC : List Value} (h : DS w SC OC X) (hb : Below X.heap.size X X2) : DS w SC OC X2 := ⟨h.1.trans (hb.mono h.1.size), h.2.1.below hb, h.2.2.1.below hb, Nat.le_trans h.2.2.2 hb.size⟩
theorem leaves_same {P : Program} {fn : Func} {t1 t2 : Array Value} {R : Ending → World → Prop} (h : results fn t1 = results fn t2) : ∀ (ds : List Deferred) (u : FrameMode) (w : World), Leaves P fn t1 R ds u w → Leaves P fn t2 R ds u w
  | [], .returning, w, hl => by
    obtain ⟨v, h1, h2⟩ := hl
    exact ⟨v, by rw [← h]; exact h1, h2⟩
  | [], .panicking _, w, hl => hl
  | [], .run, w, hl => hl.elim
  | d :: ds, u, w, hl => by
    obtain ⟨h1, fv, cap, f, args, h2, h3, h4⟩ := hl
    refine ⟨h1, fv, cap, f, args, h2, h3, h4.mono fun e u' w' => ?_⟩
    cases e with
    | returned v => exact fun hh => leaves_same h ds _ _ hh
    | panicked c => exact fun hh => leaves_same h ds _ _ hh
    | outgrown => exact fun hh => hh
theorem do_panic {K : Act → World → Prop} {R : Ending → World → Prop} {i : Nat} {v : Value} (hi : i ≠ 4 ∧ i ≠ 5) : ∀ (c : List PanicEntry) (a : Act) (w : World), Exit.then K (bodyPostD Tryz.prog Tryz.f17 R) (.panic c) (a.put (some i) v) w → Exit.then K (bodyPostD Tryz.prog Tryz.f17 R) (.panic c) a w := fun c a w h => by
  refine leaves_same ?_ _ _ _ h
  unfold results
  simp [Tryz.f17, Act.put, hi.1, hi.2, Ne.symm hi.1, Ne.symm hi.2]
theorem do_caught (s : St) (A : Option Addr) (ca : Nat) (k : Int) (w X : World) (OC : List Value) (tmps : Array Value) (h : RS X (.slice A s.subs.length ca) s.subs) (hr : Rt s) (hD : DF w X (stC s.clock s.next s.last (.slice A s.subs.length ca)) OC)
    (h4 : tmps.getD 4 undef = .pointer (some ⟨w.heap.size + 2, 0, none⟩)) (h5 : tmps.getD 5 undef = .pointer (some ⟨w.heap.size + 3, 0, none⟩)) :
    Leaves Tryz.prog Tryz.f17 tmps (GivesDo w s ⟨k, 0, []⟩) [{ target := .fn (.func 32) #[.pointer (some ⟨w.heap.size, 0, none⟩), .pointer (some ⟨w.heap.size + 2, 0, none⟩), .pointer (some ⟨w.heap.size + 3, 0, none⟩)], args := #[] }] (.panicking (errP k)) X := by
  refine leaves_cons (f := 32) (args := #[.pointer (some ⟨w.heap.size, 0, none⟩), .pointer (some ⟨w.heap.size + 2, 0, none⟩), .pointer (some ⟨w.heap.size + 3, 0, none⟩)]) (by simp) (by simp [go_sem]) ?_
  refine (doD_panic s A ca k w OC X h hr hD).mono ?_
  rintro e u' w'' ⟨rfl, rfl, X2, u, K, hd, hon, hK, rfl⟩
  obtain ⟨r1, r2, r3⟩ := d_on (c := s.clock) (n := s.next) (l := s.last) (rp := ⟨k, 0, []⟩) (lv := .slice none 0 0) hd hon hK (RLt.nil_ _ _ _ _ (by decide))
  refine ⟨_, results_rows2 rfl tmps _ _ _ _ _ h4 ((hd.rs.set _).setOther (by omega) _) Tryz.underlying25 rfl size24 h5 ((hd.rr.setOther (by omega) _).set _) Tryz.underlying37 rfl sizeR, ?_⟩
  exact ⟨u, .slice none 0 0, rfl, r1, r2, r3⟩
theorem do_back (w X : World) (SC OC : List Value) (t : St) (rp : Rp) (u lv : Value) (K : Nat) (a b c : Value) (tmps : Array Value) (hD : DF w X SC OC) (hon : ON K X u t.subs) (hK : w.heap.size + 4 ≤ K) (hl : RLt 45 8 CM X lv rp.list)
    (h4 : tmps.getD 4 undef = .pointer (some ⟨w.heap.size + 2, 0, none⟩)) (h5 : tmps.getD 5 undef = .pointer (some ⟨w.heap.size + 3, 0, none⟩)) :
    Leaves Tryz.prog Tryz.f17 tmps (GivesDo w t rp) [{ target := .fn (.func 32) #[a, b, c], args := #[] }] .returning ((X.setRow (w.heap.size + 2) (stC t.clock t.next t.last u).toArray).setRow (w.heap.size + 3) (rpC rp lv).toArray) := by
  refine leaves_cons (f := 32) (args := #[a, b, c]) (by simp) (by simp [go_sem]) ?_
  refine (doD_idle a b c _).mono ?_
  rintro e u' w'' ⟨rfl, rfl, rfl⟩
  obtain ⟨r1, r2, r3⟩ := d_on (c := t.clock) (n := t.next) (l := t.last) (rp := rp) (lv := lv) hD hon hK hl
  refine ⟨_, results_rows2 rfl tmps _ _ _ _ _ h4 ((hD.rs.set _).setOther (by omega) _) Tryz.underlying25 rfl size24 h5 ((hD.rr.setOther (by omega) _).set _) Tryz.underlying37 rfl sizeR, ?_⟩
  exact ⟨u, lv, rfl, r1, r2, r3⟩
set_option maxRecDepth 100000 in
set_option maxHeartbeats 8000000 in
theorem do_p (s : St) (v : Value) (o : Md.Op) (dv : Value) (w : World) (h : RS w v s.subs) (hr : Rt s) (ho : OpOk o) (hd : dv.oneCell' = true) (hsa : o.kind = 4 → ∀ x, findS s.subs o.sub = some x → 20 < x.queue.length → SymAll) :
    Calls Tryz.prog 17 #[.agg (stC s.clock s.next s.last v).toArray, .agg (opC o dv).toArray] w (GivesDo w (doS s o).1 (doS s o).2) := by
  obtain ⟨A, ca, rfl, hca, hcm⟩ := h.shape
  obtain ⟨SC, hSC⟩ : ∃ SC, SC = stC s.clock s.next s.last (.slice A s.subs.length ca) := ⟨_, rfl⟩
  obtain ⟨OC, hOC⟩ : ∃ OC, OC = opC o dv := ⟨_, rfl⟩
  have HSC := Lib.hid hSC
  have HOC := Lib.hid hOC
  have HR := Lib.hid h
  have HRT := Lib.hid hr
  have HOK := Lib.hid ho
  have HD := Lib.hid hd
  have HSA0 := Lib.hid hsa
  have HZ := Lib.hid hr.sized
  have HL := Lib.hid hr.len
  have HDF := Lib.hid (DF.start w SC OC)
  have HCU := Lib.hid (show Cut SC by rw [hSC]; exact Cut.mk_ _ _ _ rfl)
  have HOI := Lib.hid (show (Tryz.prog.info? 41).map (·.size) = some OC.length by rw [hOC]; exact sizeO)
  have HOV := Lib.hid (fun W (h : Wh W (w.heap.size + 1) OC 41) => h.cv 0 (v := .int .i64 o.kind) (by rw [hOC]; rfl))
  have hmf : ∀ (fn : Fn) (first cap : Array Value) (w : World), (Instr.makeFunc fn first cap).run Tryz.prog w = .ok (.func fn first cap) w := fun _ _ _ _ => rfl
  rw [← hSC, ← hOC]
  obtain ⟨W0, hW0⟩ : ∃ W0, W0 = A4 w SC OC := ⟨_, rfl⟩
  rw [← hW0] at HDF
  unfold A4 at hW0
  clear h hr ho hd hSC hOC hsa
  go_enter_defers Tryz.func17, Tryz.ntmps17
  go_wp2_with fail
  rw [← hW0]
  clear hW0
  obtain ⟨AC, hAC⟩ : ∃ AC, AC = askC s (.slice A s.subs.length ca) o dv := ⟨_, rfl⟩
  have HAC := Lib.hid hAC
  have HKA := Lib.hid (fun W => kinds_any AC (by rw [hAC]; rfl) (by rw [hAC]; exact ask_all _ rfl _ HD.out) W)
  clear hAC
  refine wp_region_held_drew (S := DS w SC OC) (by kernel_rfl) HDF.out.ds (fun hHeld => ?_)
  refine tkA 0 (v := .agg SC.toArray) (fun W hSw => exec_load_mid 25 (.tmp 2) rfl w.heap.size 0 rfl _ _ (hSw.2.1.range) Tryz.underlying25 rfl HCU.out.infoL) ?_ (hQ := fun c a w h => do_panic (i := 10) (by decide) c a w h)
  try simp only [Act.put, zA, zB, zC]
  refine tkA 1 (v := .agg OC.toArray) (fun W hSw => exec_load_mid 41 (.tmp 3) rfl (w.heap.size + 1) 0 rfl _ _ (hSw.2.2.1.range) Tryz.underlying41 rfl HOI.out) ?_ (hQ := fun c a w h => do_panic (i := 11) (by decide) c a w h)
  try simp only [Act.put, zA, zB, zC]
  refine tkA 2 (v := .agg AC.toArray) ?_ ?_ (hQ := fun c a w h => do_panic (i := 12) (by decide) c a w h)
  · intro W hSw; rw [HAC.out]; simp only [HSC.out, HOC.out, stC, opC, askC]; go_simp
  try simp only [Act.put, zA, zB, zC]
  refine tkC 4 ?_ (hQ := fun c a w h => do_panic (i := 14) (by decide) c a w h)
  refine tkA 5 (v := .int .i64 o.kind) ?_ ?_ (hQ := fun c a w h => do_panic (i := 15) (by decide) c a w h)
  · intro W hSw; have hq := HOV.out W hSw.2.2.1
    go_simp; try (with_reducible rfl)
  try simp only [Act.put, zA, zB, zC]
  refine rdA (rs := [3]) (arC (i := 3) fun K hK => ?_)
  go_simp
  refine (HKA.out _).mono ?_
  rintro e w9 ⟨b, rfl, hkm, hb9, hbn⟩
  try (go_wp2_with fail)
  have hHeld' := hHeld.below hb9
  refine hK.out _ _ ?_ (fun _ => ?_)
  · exact hHeld'
  clear hK K hHeld
  have hHeld := hHeld'
  clear hHeld'
  try simp only [Act.put, zA, zB, zC]
  obtain ⟨z, hz⟩ : ∃ z, ∀ W, (zeroValue 69).run Tryz.prog W = .ok z W := ⟨_, fun W => by go_simp; rfl⟩
  have hlk := hkm.get Tryz.underlying71 Tryz.underlying3 (hz _) o.kind
  obtain ⟨fv, hfv⟩ : ∃ f, f = ((kindsL (.agg AC.toArray)).lookup o.kind).getD z := ⟨_, rfl⟩
  obtain ⟨ok, hok⟩ : ∃ f, f = ((kindsL (.agg AC.toArray)).lookup o.kind).isSome := ⟨_, rfl⟩
  rw [← hfv, ← hok] at hlk
  have HFV := Lib.hid hfv
  have HOKK := Lib.hid hok
  clear hfv hok hz hkm
  refine rdA (rs := [6]) (arC (i := 6) fun K hK => ?_)
  go_simp
  refine hK.out _ _ ?_ (fun _ => ?_)
  · exact hHeld
  clear hK K hlk
  try simp only [Act.put, zA, zB, zC]
  refine tkC 7 ?_ (hQ := fun c a w h => do_panic (i := 9) (by decide) c a w h)
  refine tkC 8 ?_ (hQ := fun c a w h => do_panic (i := 17) (by decide) c a w h)
  refine tkC 9 ?_ (hQ := fun c a w h => do_panic (i := 18) (by decide) c a w h)
  refine tkC 10 ?_ (hQ := fun c a w h => do_panic (i := 6) (by decide) c a w h)
  refine tkC 11 ?_ (hQ := fun c a w h => do_panic (i := 7) (by decide) c a w h)
  refine wpAnyH_done (by kernel_rfl) ?_ _
  have hdf := Lib.hid (HDF.out.below ((SB.b0 (SB.start W0)).trans (hb9.mono (by simp))))
  clear hHeld hb9
  go_wp2_with fail
  have HRS9 := Lib.hid (HR.out.below stays_cs hdf.out.b)
  have HSO := Lib.hid HSC.out
  by_cases hk : 1 ≤ o.kind ∧ o.kind ≤ 12
  case neg =>
    have hok : ok = false := by
      rw [HOKK.out, kinds_none _ (by omega)]
      rfl
    have HRES := Lib.hid (show doS s o = (s, ⟨70, 0, []⟩) by
      have e : (doS s o).2.err = 70 := (kind_math s o).2 (by omega)
      have e2 := do_err s o (by rw [e]; decide)
      obtain ⟨e3, e4, e5⟩ := e2
      cases hd : doS s o with
      | mk a b => rw [hd] at e e3 e4 e5; cases b; simp_all)
    subst hok
    refine (must_no 70 _).mono ?_
    rintro e w10 ⟨rfl, rfl⟩
    show Leaves _ _ _ _ _ _ _
    rw [HRES.out]
    have hd := hdf.out
    rw [HSC.out] at hd
    exact do_caught s A ca 70 w _ OC _ HRS9.out HRT.out hd rfl rfl
  have hok : ok = true := by
    rw [HOKK.out, kinds_look _ z hk.1 hk.2]
    rfl
  have hfv : fv = .func (.func (fK o.kind)) #[.agg AC.toArray] #[] := by
    rw [HFV.out, kinds_look _ z hk.1 hk.2]
    rfl
  obtain ⟨nk, hnk⟩ : ∃ n, n = fK o.kind := ⟨_, rfl⟩
  have hc := kind_any s (.slice A s.subs.length ca) o dv w9 HRS9.out HRT.out HOK.out HD.out HSA0.out hk.1 hk.2
  rw [← hnk, ← HAC.out] at hc
  rw [← hnk] at hfv
  have heg := kind_enters hk.1 hk.2
  rw [← hnk] at heg
  have HC := Lib.hid hc
  clear hc hk hnk HFV HOKK HKA HOV
  subst hok
  subst hfv
  refine (must_yes 70 _).mono ?_
  rintro e w10 ⟨rfl, rfl⟩
  go_wp2_with fail
  refine HC.out.mono ?_
  rintro e w11 hg
  have HDE := Lib.hid (show doS s o = ((resR s o).st s, (resR s o).rp) from rfl)
  cases hres : resR s o with
  | no k =>
    rw [hres] at hg
    obtain ⟨rfl, hb11⟩ := hg
    have HRES := Lib.hid (show doS s o = (s, ⟨k, 0, []⟩) by rw [HDE.out, hres]; rfl)
    show Leaves _ _ _ _ _ _ _
    rw [HRES.out]
    have hd := hdf.out.below hb11
    rw [HSO.out] at hd
    exact do_caught s A ca k w _ OC _ (HRS9.out.below stays_cs hb11) HRT.out hd rfl rfl
  | yes t rp =>
    rw [hres] at hg
    obtain ⟨u, lv, rfl, hon, hlv, hb11⟩ := hg
    have HRES := Lib.hid (show doS s o = (t, rp) by rw [HDE.out, hres]; rfl)
    have HON := Lib.hid hon
    have HLV := Lib.hid hlv
    have HD11 := Lib.hid (hdf.out.below hb11)
    have HSA := Lib.hid (st_all t.clock t.next t.last (rl_one hon.rs))
    have HRA := Lib.hid (rp_all rp (rl_one hlv.rl))
    have HRR := Lib.hid (HD11.out.rr.setOther (k := w.heap.size + 2) (by omega) (stC t.clock t.next t.last u).toArray)
    have HN11 := Lib.hid hdf.out.n
    clear hon hlv hb11 hres heg
    go_wp2_with (first | (refine wpList_store_row rfl 25 (.tmp 4) (.tmp 23) rfl (w.heap.size + 2) (stC t.clock t.next t.last u).toArray rfl rfl 25 zT.toArray HD11.out.rs size24 rfl HSA.out ?_) | (refine wpList_store_row rfl 37 (.tmp 5) (.tmp 24) rfl (w.heap.size + 3) (rpC rp lv).toArray rfl rfl 37 zR.toArray HRR.out sizeR rfl HRA.out ?_) | fail)
    show Leaves _ _ _ _ _ _ _
    rw [HRES.out]
    exact do_back w _ SC OC t rp u lv _ _ _ _ _ HD11.out HON.out HN11.out HLV.out rfl rfl
end Go.Proofs.YtodckdkbheapfaaGreat
set_option linter.unusedVariables false
set_option linter.unusedSimpArgs false
namespace Go.Proofs.YtodckdkbheapfaaGreat
open Go.RowKit Go.Rst Go.Tp Go.Ts Go.Md
def boxD (w : World) (T R : List Value) : World := (((w.alloc (.cells #[.int .i64 0, .int .i64 0, .int .i64 0, .slice none 0 0] 25)).alloc (.cells #[.int .u16 0, .int .i64 0, .slice none 0 0, .slice none 0 0] 37)).setRow w.heap.size T.toArray).setRow (w.heap.size + 1) R.toArray
theorem boxD_def (w : World) (T R : List Value) : (((w.alloc (.cells #[.int .i64 0, .int .i64 0, .int .i64 0, .slice none 0 0] 25)).alloc (.cells #[.int .u16 0, .int .i64 0, .slice none 0 0, .slice none 0 0] 37)).setRow w.heap.size T.toArray).setRow (w.heap.size + 1) R.toArray = boxD w T R := rfl
theorem boxD_old1 (w : World) : Wh ((w.alloc (.cells #[.int .i64 0, .int .i64 0, .int .i64 0, .slice none 0 0] 25)).alloc (.cells #[.int .u16 0, .int .i64 0, .slice none 0 0, .slice none 0 0] 37)) w.heap.size zT 25 := (Wh.new w zT _).alloc _
theorem boxD_old2 (w : World) (T : List Value) : Wh (((w.alloc (.cells #[.int .i64 0, .int .i64 0, .int .i64 0, .slice none 0 0] 25)).alloc (.cells #[.int .u16 0, .int .i64 0, .slice none 0 0, .slice none 0 0] 37)).setRow w.heap.size T.toArray) (w.heap.size + 1) zR 37 := by
  have := Wh.new (w.alloc (.cells #[.int .i64 0, .int .i64 0, .int .i64 0, .slice none 0 0] 25)) zR 37
  rw [World.size_alloc] at this
  exact this.setOther (by omega) _
theorem boxD_s (w : World) (T R : List Value) : Wh (boxD w T R) w.heap.size T 25 := ((boxD_old1 w).set T).setOther (by omega) _
theorem boxD_r (w : World) (T R : List Value) : Wh (boxD w T R) (w.heap.size + 1) R 37 := (boxD_old2 w T).set R
theorem boxD_below (w : World) (T R : List Value) : Below w.heap.size w (boxD w T R) := below_setRow (below_setRow (((Below.refl w.heap.size w).alloc (Nat.le_refl _) _).alloc (by simp) _) (Nat.le_refl _) _) (by omega) _
theorem boxD_size (w : World) (T R : List Value) : (boxD w T R).heap.size = w.heap.size + 2 := by simp [boxD]
def boxS (w : World) (T : List Value) : World := (w.alloc (.cells #[.int .i64 0, .int .i64 0, .int .i64 0, .slice none 0 0] 25)).setRow w.heap.size T.toArray
theorem boxS_def (w : World) (T : List Value) : (w.alloc (.cells #[.int .i64 0, .int .i64 0, .int .i64 0, .slice none 0 0] 25)).setRow w.heap.size T.toArray = boxS w T := rfl
theorem boxS_old (w : World) : Wh (w.alloc (.cells #[.int .i64 0, .int .i64 0, .int .i64 0, .slice none 0 0] 25)) w.heap.size zT 25 := Wh.new w zT _
theorem boxS_s (w : World) (T : List Value) : Wh (boxS w T) w.heap.size T 25 := (boxS_old w).set T
theorem boxS_below (w : World) (T : List Value) : Below w.heap.size w (boxS w T) := below_setRow ((Below.refl w.heap.size w).alloc (Nat.le_refl _) _) (Nat.le_refl _) _
def SV (W : World) (b : Nat) (s : St) (u : Value) : Prop := Wh W b (stC s.clock s.next s.last u) 25 ∧ RS W u s.subs ∧ b < W.heap.size
theorem SV.below {W W2 : World} {b : Nat} {s : St} {u : Value} (h : SV W b s u) (hb : Below W.heap.size W W2) : SV W2 b s u := ⟨h.1.below hb, h.2.1.below stays_cs hb, Nat.lt_of_lt_of_le h.2.2 hb.size⟩
def RV (W : World) (b : Nat) (r : Rp) (lv : Value) : Prop := Wh W b (rpC r lv) 37 ∧ RM W lv r.list ∧ b < W.heap.size
theorem RV.below {W W2 : World} {b : Nat} {r : Rp} {lv : Value} (h : RV W b r lv) (hb : Below W.heap.size W W2) : RV W2 b r lv := ⟨h.1.below hb, h.2.1.below stays_cm hb, Nat.lt_of_lt_of_le h.2.2 hb.size⟩
theorem sv_box {w : World} {s : St} {u : Value} {B : Nat} (R : List Value) (h : ON B w u s.subs) : SV (boxD w (stC s.clock s.next s.last u) R) w.heap.size s u := ⟨boxD_s _ _ _, h.rs.below stays_cs (boxD_below _ _ _), by rw [boxD_size]; omega⟩
theorem rv_box {w : World} {r : Rp} {lv : Value} (T : List Value) (h : RLt 45 8 CM w lv r.list) : RV (boxD w T (rpC r lv)) (w.heap.size + 1) r lv := ⟨boxD_r _ _ _, h.rl.below stays_cm (boxD_below _ _ _), by rw [boxD_size]; omega⟩
theorem sv_boxS {w : World} {s : St} {u : Value} (h : RS w u s.subs) : SV (boxS w (stC s.clock s.next s.last u)) w.heap.size s u := ⟨boxS_s _ _, h.below stays_cs (boxS_below _ _), (Array.getElem?_eq_some_iff.1 (boxS_s w (stC s.clock s.next s.last u))).1⟩
theorem kop_ok (k id n seq : Int) : OpOk (kop k id n seq) := ⟨by simp [kop], by simp [kop], by simp [kop], by simp [kop], by simp [kop]⟩
set_option maxRecDepth 100000 in
theorem new_any (w : World) : Calls Tryz.prog 19 #[] w fun e w' => e = .returned (.agg (stC 0 1 0 (.slice none 0 0)).toArray) ∧ Below w.heap.size w w' := by
  have HO := Lib.hid (boxS_old w)
  go_enter Tryz.func19, Tryz.ntmps19
  go_wp2_with (first | (refine wpList_store_row rfl 25 (.tmp 0) (.tmp 1) rfl w.heap.size (stC 0 1 0 (.slice none 0 0)).toArray rfl rfl 25 zT.toArray HO.out size24 rfl (st_all _ _ _ rfl) ?_; rw [boxS_def]) | fail)
  exact bodyPost_ret (v := .agg (stC 0 1 0 (.slice none 0 0)).toArray) (results_cell_row rfl _ _ w.heap.size 25 (stC 0 1 0 (.slice none 0 0)).toArray (0, 0) _ rfl (boxS_s w _) Tryz.underlying25 rfl size24) rfl ⟨rfl, boxS_below _ _⟩
end Go.Proofs.YtodckdkbheapfaaGreat
set_option linter.unusedVariables false
set_option linter.unusedSimpArgs false
namespace Go.Proofs.YtodckdkbheapfaaGreat
open Go.RowKit Go.Rst Go.Tp Go.Ts Go.Md
def kO1 : Md.Op := ⟨1, 0, 5, 2, [110], [35], [], [], []⟩
def kO2 : Md.Op := ⟨3, 0, 0, 0, [], [97], [], [], []⟩
def kO3 : Md.Op := ⟨4, 1, 5, 0, [], [], [], [], []⟩
def kS0 : St := ⟨0, 1, 0, []⟩
theorem known_math : ∃ S1 S2 S3 r1 r2 r3, doS kS0 kO1 = (S1, r1) ∧ doS S1 kO2 = (S2, r2) ∧ doS S2 kO3 = (S3, r3) ∧ Rt S1 ∧ Rt S2 ∧ Rt S3 ∧ r1.n = 1 ∧ r2.n = 1 ∧ r3.n = 1 ∧ r3.list.length = 1 ∧ S3.subs.length = 1 ∧ ∀ x ∈ S2.subs, x.queue.length ≤ 20 :=
  ⟨(doS kS0 kO1).1, (doS (doS kS0 kO1).1 kO2).1, (doS (doS (doS kS0 kO1).1 kO2).1 kO3).1, (doS kS0 kO1).2, (doS (doS kS0 kO1).1 kO2).2, (doS (doS (doS kS0 kO1).1 kO2).1 kO3).2, rfl, rfl, rfl, rt_do rt_new _, rt_do (rt_do rt_new _) _, rt_do (rt_do (rt_do rt_new _) _) _, by decide, by decide, by decide, by decide, by decide, by decide⟩
set_option maxRecDepth 100000 in
set_option maxHeartbeats 8000000 in
theorem known11_any (w : World) : Calls Tryz.prog 16 #[] w fun e w' => e = .returned (.bool true) ∧ Below w.heap.size w w' := by
  obtain ⟨S1, S2, S3, r1, r2, r3, d1, d2, d3, t1, t2, t3, n1, n2, n3, l3, s3, q2⟩ := known_math
  have HD1 := Lib.hid d1
  have HD2 := Lib.hid d2
  have HD3 := Lib.hid d3
  have HT1 := Lib.hid t1
  have HT2 := Lib.hid t2
  have HN := Lib.hid (show r1.n = 1 ∧ r2.n = 1 ∧ r3.n = 1 ∧ r3.list.length = 1 ∧ S3.subs.length = 1 from ⟨n1, n2, n3, l3, s3⟩)
  have HQ2 := Lib.hid q2
  clear d1 d2 d3 t1 t2 t3 n1 n2 n3 l3 s3 q2
  go_enter Tryz.func16, Tryz.ntmps16
  go_wp2_with fail
  refine (new_any _).mono ?_
  rintro e w1 ⟨rfl, hb1⟩
  have HB1 := Lib.hid hb1
  clear hb1
  go_wp2_with fail
  have hc := do_p kS0 (.slice none 0 0) kO1 (.slice none 0 0) w1 (RL.nil_ _ _ _ (Nat.zero_le _)) rt_new ⟨by decide, by decide, by decide, by decide, by decide⟩ rfl (fun h => absurd h (by decide))
  rw [HD1.out] at hc
  refine hc.mono ?_
  clear hc
  rintro e w2 ⟨u1, lv1, rfl, hon1, hlv1, hb2⟩
  obtain ⟨W2, hW2⟩ : ∃ W, W = boxD w2 (stC S1.clock S1.next S1.last u1) (rpC r1 lv1) := ⟨_, rfl⟩
  have HW2 := Lib.hid hW2
  have HSV1 := Lib.hid (show SV W2 w2.heap.size S1 u1 by rw [hW2]; exact sv_box _ hon1)
  have HRV1 := Lib.hid (show RV W2 (w2.heap.size + 1) r1 lv1 by rw [hW2]; exact rv_box _ hlv1)
  have HB2 := Lib.hid (show Below w.heap.size w W2 by rw [hW2]; exact HB1.out.trans ((hb2.trans ((boxD_below _ _ _).mono hb2.size)).mono HB1.out.size))
  have HA1 := Lib.hid (st_all S1.clock S1.next S1.last (rl_one hon1.rs))
  have HA1R := Lib.hid (rp_all r1 (rl_one hlv1.rl))
  have HZ2 := Lib.hid (show w.heap.size ≤ w2.heap.size from Nat.le_trans HB1.out.size hb2.size)
  clear hW2 hon1 hlv1 hb2
  go_wp2_with (first | (refine wpList_store_row rfl 25 (.tmp 1) (.tmp 9) rfl w2.heap.size (stC S1.clock S1.next S1.last u1).toArray rfl rfl 25 zT.toArray (boxD_old1 w2) size24 rfl HA1.out ?_) | (refine wpList_store_row rfl 37 (.tmp 2) (.tmp 10) rfl (w2.heap.size + 1) (rpC r1 lv1).toArray rfl rfl 37 zR.toArray (boxD_old2 w2 (stC S1.clock S1.next S1.last u1)) sizeR rfl HA1R.out ?_; rw [boxD_def]; rw [← HW2.out]) | (refine wpList_load_midG (by rfl) 25 (.tmp 1) rfl w2.heap.size 0 rfl _ _ HSV1.out.1.range Tryz.underlying25 rfl size24 ?_) | fail)
  have hc := do_p S1 u1 kO2 (.slice none 0 0) W2 HSV1.out.2.1 HT1.out ⟨by decide, by decide, by decide, by decide, by decide⟩ rfl (fun h => absurd h (by decide))
  rw [HD2.out] at hc
  refine hc.mono ?_
  clear hc
  rintro e w3 ⟨u2, lv2, rfl, hon, hlv, hb⟩
  have wh0 := (HSV1.out.1.below hb).alloc (.cells #[.int .u16 0, .int .i64 0, .slice none 0 0, .slice none 0 0] 37)
  have hs0 : w2.heap.size < w3.heap.size := Nat.lt_of_lt_of_le HSV1.out.2.2 hb.size
  have ba : Below w3.heap.size w3 (w3.alloc (.cells #[.int .u16 0, .int .i64 0, .slice none 0 0, .slice none 0 0] 37)) := (Below.refl _ _).alloc (Nat.le_refl _) _
  have g1 := grown_row (w3.alloc (.cells #[.int .u16 0, .int .i64 0, .slice none 0 0, .slice none 0 0] 37)) w2.heap.size (stC S2.clock S2.next S2.last u2).toArray
  have on1 := (hon.below ba).kept g1 (by have := HSV1.out.2.2; omega) ⟨_, _, wh0, by decide, by decide⟩
  have whr : Wh ((w3.alloc (.cells #[.int .u16 0, .int .i64 0, .slice none 0 0, .slice none 0 0] 37)).setRow w2.heap.size (stC S2.clock S2.next S2.last u2).toArray) w3.heap.size zR 37 := (Wh.new w3 zR _).setOther (by omega) _
  obtain ⟨W3, hW⟩ : ∃ W, W = ((w3.alloc (.cells #[.int .u16 0, .int .i64 0, .slice none 0 0, .slice none 0 0] 37)).setRow w2.heap.size (stC S2.clock S2.next S2.last u2).toArray).setRow w3.heap.size (rpC r2 lv2).toArray := ⟨_, rfl⟩
  have HWW3 := Lib.hid hW
  have HOW3 := Lib.hid wh0
  have HPW3 := Lib.hid whr
  have HSV2 := Lib.hid (show SV W3 w2.heap.size S2 u2 by
    rw [hW]
    refine ⟨(wh0.set _).setOther (by omega) _, (on1.kept_wh (grown_row _ w3.heap.size _) whr (by decide) (by decide) (by decide)).rs, by simp; omega⟩)
  have HRV2 := Lib.hid (show Wh W3 w3.heap.size (rpC r2 lv2) 37 ∧ RM w3 lv2 r2.list by rw [hW]; exact ⟨whr.set _, hlv.rl⟩)
  have HRA := Lib.hid (show Wh W3 (w2.heap.size + 1) (rpC r1 lv1) 37 by rw [hW]; exact (((HRV1.out.1.below hb).alloc _).setOther (by omega) _).setOther (by have := HRV1.out.2.2; have := hb.size; omega) _)
  have HBE2 := Lib.hid (show Below w.heap.size w W3 by rw [hW]; exact below_setRow (below_setRow ((HB2.out.trans (hb.mono HB2.out.size)).alloc (by have := HB2.out.size; have := hb.size; omega) _) HZ2.out _) (by have := HZ2.out; omega) _)
  have HA2 := Lib.hid (st_all S2.clock S2.next S2.last (rl_one hon.rs))
  have HA2R := Lib.hid (rp_all r2 (rl_one hlv.rl))
  have HS23 := Lib.hid hs0
  clear hW hon hlv hb wh0 whr on1 g1 ba hs0
  go_wp2_with (first | (refine wpList_store_row rfl 25 (.tmp 1) (.tmp 15) rfl w2.heap.size (stC S2.clock S2.next S2.last u2).toArray rfl rfl 25 _ HOW3.out size24 rfl HA2.out ?_) | (refine wpList_store_row rfl 37 (.tmp 3) (.tmp 16) rfl w3.heap.size (rpC r2 lv2).toArray rfl rfl 37 zR.toArray HPW3.out sizeR rfl HA2R.out ?_; rw [← HWW3.out]) | (refine wpList_load_midG (by rfl) 25 (.tmp 1) rfl w2.heap.size 0 rfl _ _ HSV2.out.1.range Tryz.underlying25 rfl size24 ?_) | fail)
  have hc := do_p S2 u2 kO3 (.slice none 0 0) W3 HSV2.out.2.1 HT2.out ⟨by decide, by decide, by decide, by decide, by decide⟩ rfl (fun _ x hx h => by have := HQ2.out x (find_some' hx).1; omega)
  rw [HD3.out] at hc
  refine hc.mono ?_
  clear hc
  rintro e w4 ⟨u3, lv3, rfl, hon, hlv, hb⟩
  have wh0 := (HSV2.out.1.below hb).alloc (.cells #[.int .u16 0, .int .i64 0, .slice none 0 0, .slice none 0 0] 37)
  have hs0 : w2.heap.size < w4.heap.size := Nat.lt_of_lt_of_le HSV2.out.2.2 hb.size
  have ba : Below w4.heap.size w4 (w4.alloc (.cells #[.int .u16 0, .int .i64 0, .slice none 0 0, .slice none 0 0] 37)) := (Below.refl _ _).alloc (Nat.le_refl _) _
  have g1 := grown_row (w4.alloc (.cells #[.int .u16 0, .int .i64 0, .slice none 0 0, .slice none 0 0] 37)) w2.heap.size (stC S3.clock S3.next S3.last u3).toArray
  have on1 := (hon.below ba).kept g1 (by have := HSV2.out.2.2; omega) ⟨_, _, wh0, by decide, by decide⟩
  have whr : Wh ((w4.alloc (.cells #[.int .u16 0, .int .i64 0, .slice none 0 0, .slice none 0 0] 37)).setRow w2.heap.size (stC S3.clock S3.next S3.last u3).toArray) w4.heap.size zR 37 := (Wh.new w4 zR _).setOther (by omega) _
  obtain ⟨W4, hW⟩ : ∃ W, W = ((w4.alloc (.cells #[.int .u16 0, .int .i64 0, .slice none 0 0, .slice none 0 0] 37)).setRow w2.heap.size (stC S3.clock S3.next S3.last u3).toArray).setRow w4.heap.size (rpC r3 lv3).toArray := ⟨_, rfl⟩
  have HWW4 := Lib.hid hW
  have HOW4 := Lib.hid wh0
  have HPW4 := Lib.hid whr
  have HSV3 := Lib.hid (show SV W4 w2.heap.size S3 u3 by
    rw [hW]
    refine ⟨(wh0.set _).setOther (by omega) _, (on1.kept_wh (grown_row _ w4.heap.size _) whr (by decide) (by decide) (by decide)).rs, by simp; omega⟩)
  have HRV3 := Lib.hid (show Wh W4 w4.heap.size (rpC r3 lv3) 37 ∧ RM w4 lv3 r3.list by rw [hW]; exact ⟨whr.set _, hlv.rl⟩)
  have HRA2 := Lib.hid (show Wh W4 (w2.heap.size + 1) (rpC r1 lv1) 37 by rw [hW]; exact (((HRA.out.below hb).alloc _).setOther (by omega) _).setOther (by have h1 := (Array.getElem?_eq_some_iff.1 HRA.out).1; have := hb.size; omega) _)
  have HRB2 := Lib.hid (show Wh W4 w3.heap.size (rpC r2 lv2) 37 by rw [hW]; exact (((HRV2.out.1.below hb).alloc _).setOther (by have := HS23.out; omega) _).setOther (by have h1 := (Array.getElem?_eq_some_iff.1 HRV2.out.1).1; have := hb.size; omega) _)
  have HBE3 := Lib.hid (show Below w.heap.size w W4 by rw [hW]; exact below_setRow (below_setRow ((HBE2.out.trans (hb.mono HBE2.out.size)).alloc (by have := HBE2.out.size; have := hb.size; omega) _) HZ2.out _) (by have := HZ2.out; omega) _)
  have HA3 := Lib.hid (st_all S3.clock S3.next S3.last (rl_one hon.rs))
  have HA3R := Lib.hid (rp_all r3 (rl_one hlv.rl))
  clear hW hon hlv hb wh0 whr on1 g1 ba hs0
  obtain ⟨Al, cl, hls, _, _⟩ := HRV3.out.2.shape
  obtain ⟨As, cs, hss, _, _⟩ := HSV3.out.2.1.shape
  have ka := HRA2.out.cv 1 (v := .int .i64 1) (by rw [show rpC r1 lv1 = [.int .u16 r1.err, .int .i64 r1.n, lv1, .slice none 0 0] from rfl, HN.out.1]; rfl)
  have kb := HRB2.out.cv 1 (v := .int .i64 1) (by rw [show rpC r2 lv2 = [.int .u16 r2.err, .int .i64 r2.n, lv2, .slice none 0 0] from rfl, HN.out.2.1]; rfl)
  have kc := HRV3.out.1.cv 1 (v := .int .i64 1) (by rw [show rpC r3 lv3 = [.int .u16 r3.err, .int .i64 r3.n, lv3, .slice none 0 0] from rfl, HN.out.2.2.1]; rfl)
  have kl := HRV3.out.1.cv 2 (v := .slice Al 1 cl) (by rw [show rpC r3 lv3 = [.int .u16 r3.err, .int .i64 r3.n, lv3, .slice none 0 0] from rfl, hls, HN.out.2.2.2.1]; rfl)
  have ks := HSV3.out.1.cv 3 (v := .slice As 1 cs) (by rw [show stC S3.clock S3.next S3.last u3 = [.int .i64 S3.clock, .int .i64 S3.next, .int .i64 S3.last, u3] from rfl, hss, HN.out.2.2.2.2]; rfl)
  clear hls hss
  go_wp2_with (first | (refine wpList_store_row rfl 25 (.tmp 1) (.tmp 21) rfl w2.heap.size (stC S3.clock S3.next S3.last u3).toArray rfl rfl 25 _ HOW4.out size24 rfl HA3.out ?_) | (refine wpList_store_row rfl 37 (.tmp 4) (.tmp 22) rfl w4.heap.size (rpC r3 lv3).toArray rfl rfl 37 zR.toArray HPW4.out sizeR rfl HA3R.out ?_; rw [← HWW4.out]) | fail)
  go_ret
  exact ⟨rfl, HBE3.out⟩
end Go.Proofs.YtodckdkbheapfaaGreat
