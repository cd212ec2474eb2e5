/-
  The contracts of slices.SortStableFunc of places by priority (layer model).
-/
import Derived.Shelf.SlSortCmp.Insertion
import Derived.Test.YtodckdkbheapfaaGreatKODH
import Derived.Test.YtodckdkbheapfaaGreatKODI
set_option linter.unusedVariables false
set_option linter.unusedVariables false
set_option linter.unusedSimpArgs false
namespace Go.Proofs.YtodckdkbheapfaaGreat
open Go.RowKit Go.Rst Go.Tp Go.Ts Go.Md Go.Lib Go.Sort Go.Pso Go.Shelf
def encI (N : Nat) (x : Fin (N + 1)) : Value := .int .i64 (x.val : Int)
def renS : Go.Shelf.Ren := ⟨fun | 20 => 154 | n => n, fun | 0 => 0 | 3 => 3 | 4 => 4 | 22 => 27 | 24 => 3 | 25 => 117 | n => n, fun | n => n⟩
theorem laysS : Go.Proofs.SlLaysF.n20 Tryz.prog renS := {
  mixed := by kernel_rfl
  f20 := ⟨"slices.insertionSortCmpFunc[int]", by decide, Tryz.func154.trans (congrArg some (by kernel_rfl))⟩
  t0 := Tryz.underlying0
  a0 := Tryz.isAgg0
  z0 := Tryz.sizeOf0
  v0 := Tryz.zeroValue0
  t3 := Tryz.underlying3
  a3 := Tryz.isAgg3
  z3 := Tryz.sizeOf3
  v3 := Tryz.zeroValue3
  t4 := Tryz.underlying4
  a4 := Tryz.isAgg4
  z4 := Tryz.sizeOf4
  v4 := Tryz.zeroValue4
  t22 := Tryz.underlying27
  a22 := Tryz.isAgg27
  z22 := Tryz.sizeOf27
  v22 := Tryz.zeroValue27
  a24 := Tryz.isAgg3
  z24 := Tryz.sizeOf3
  t25 := Tryz.underlying117
  a25 := Tryz.isAgg117
  z25 := Tryz.sizeOf117
  v25 := Tryz.zeroValue117 }
theorem encI_one (N : Nat) : OneCell (encI N) := fun x => rfl
def cfQ (N : Nat) (p : Fin (N + 1) → Int) (x y : Fin (N + 1)) : Int := Lib.compareInt (p y) (p x)
theorem ltOf_cf (N : Nat) (p : Fin (N + 1) → Int) : ltOf (cfQ N p) = ltP p := by
  funext x y
  unfold ltOf cfQ ltP Lib.compareInt
  by_cases h1 : p y < p x
  · simp [h1]
  · by_cases h2 : p x < p y <;> simp [h1, h2]
theorem ins_any (N : Nat) (p : Fin (N + 1) → Int) (g : Nat) (cb : Array Value) (blk cap a b : Nat) (d : Array (Fin (N + 1))) (w : World)
    (eg : ∀ args w, (callFunc g args).run Tryz.prog w = .ok (.enter g args) w) (hcmp : CmpReads Tryz.prog g cb (encI N) (cfQ N p) blk 0 d.size w) (hH : Holds (encI N) w blk 0 d) (hab : a ≤ b) (hb : b ≤ d.size) (hsz : d.size < 1000) :
    Calls Tryz.prog 154 #[.slice (some ⟨blk, 0, none⟩) d.size cap, .int .i64 a, .int .i64 b, .func (.func g) #[] cb] w fun e w' =>
      e = .returned (.tuple #[]) ∧ ∃ n, w' = (putRow (encI N) w blk 0 (Sort.insertionSort (ltP p) d a b)).drewN n := by
  rw [← ltOf_cf]
  exact Any.insertionSortCmpFunc_one laysS (encI N) (encI_one N) (cfQ N p) g cb blk 0 cap a b d w eg hcmp hH hab hb (by omega)
theorem cmp_on {N : Nat} {p : Fin (N + 1) → Int} {g : Nat} {cb : Array Value} {blk n : Nat} {w : World} (h : CmpReads Tryz.prog g cb (encI N) (cfQ N p) blk 0 n w) (d : Array (Fin (N + 1))) (hd : d.size = n) (k : Nat) :
    CmpReads Tryz.prog g cb (encI N) (cfQ N p) blk 0 n ((putRow (encI N) w blk 0 d).drewN k) := fun m os dk hk x y => by
  have e : sortWorld (encI N) ((putRow (encI N) w blk 0 d).drewN k) blk 0 m dk os = sortWorld (encI N) w blk 0 (k + m) dk os := by
    have e1 := Sort.putRow_putRow (encI N) w blk 0 d dk (by omega)
    unfold sortWorld
    show grow ((putRow (encI N) ((putRow (encI N) w blk 0 d).drewN k) blk 0 dk).drewN m) os = _
    have e2 : (putRow (encI N) ((putRow (encI N) w blk 0 d).drewN k) blk 0 dk).drewN m = Sort.ahead (putRow (encI N) (putRow (encI N) w blk 0 d) blk 0 dk) (k + m) := by
      show Sort.ahead (Sort.ahead (putRow (encI N) (putRow (encI N) w blk 0 d) blk 0 dk) k) m = _
      exact ahead_ahead _ _ _
    rw [e2, e1]
    rfl
  rw [e]
  exact h (k + m) os dk hk x y
theorem put_put {N : Nat} {w : World} {blk k m : Nat} {d d2 : Array (Fin (N + 1))} (h : d2.size = d.size) : (putRow (encI N) ((putRow (encI N) w blk 0 d).drewN k) blk 0 d2).drewN m = (putRow (encI N) w blk 0 d2).drewN (k + m) := by
  have e1 := Sort.putRow_putRow (encI N) w blk 0 d d2 h
  show Sort.ahead (Sort.ahead (putRow (encI N) (putRow (encI N) w blk 0 d) blk 0 d2) k) m = _
  rw [e1, ahead_ahead]
  rfl
theorem holds_on {N : Nat} {w : World} {blk k : Nat} {d d2 : Array (Fin (N + 1))} (h0 : Holds (encI N) w blk 0 d) (h : d2.size = d.size) : Holds (encI N) ((putRow (encI N) w blk 0 d2).drewN k) blk 0 d2 := holds_putRow (encI N) w blk 0 d d2 h0 h
def SymC (N : Nat) (p : Fin (N + 1) → Int) (g : Nat) (cb : Array Value) (blk cap n : Nat) (w : World) : Prop := ∀ (d : Array (Fin (N + 1))) (k : Nat), d.size = n → Runs p 0 20 n d →
  Calls Tryz.prog 155 #[.slice (some ⟨blk, 0, none⟩) n cap, .int .i64 0, .int .i64 20, .int .i64 n, .func (.func g) #[] cb] ((putRow (encI N) w blk 0 d).drewN k) fun e w' =>
    e = .returned (.tuple #[]) ∧ ∃ j d2, w' = (putRow (encI N) w blk 0 d2).drewN j ∧ PermIn 0 n d d2 ∧ SortedIn (ltX p) 0 n d2
def SymAll : Prop := ∀ (N : Nat) (p : Fin (N + 1) → Int) (g : Nat) (cb : Array Value) (blk cap : Nat) (_ : ∀ args w, (callFunc g args).run Tryz.prog w = .ok (.enter g args) w) (d : Array (Fin (N + 1))) (w : World) (a m b : Nat),
    CmpReads Tryz.prog g cb (encI N) (cfQ N p) blk 0 d.size w → Holds (encI N) w blk 0 d → d.size ≤ 1000 → a < m → m < b → b ≤ d.size → Runs p a m b d →
    Calls Tryz.prog 155 #[.slice (some ⟨blk, 0, none⟩) d.size cap, .int .i64 a, .int .i64 m, .int .i64 b, .func (.func g) #[] cb] w fun e w' =>
      e = .returned (.tuple #[]) ∧ ∃ j d2, w' = (putRow (encI N) w blk 0 d2).drewN j ∧ PermIn a b d d2 ∧ SortedIn (ltX p) a b d2
set_option maxRecDepth 100000 in
set_option maxHeartbeats 4000000 in
theorem stable_any (N : Nat) (p : Fin (N + 1) → Int) (g : Nat) (cb : Array Value) (blk cap : Nat) (d : Array (Fin (N + 1))) (w : World)
    (eg : ∀ args w, (callFunc g args).run Tryz.prog w = .ok (.enter g args) w) (hcmp : CmpReads Tryz.prog g cb (encI N) (cfQ N p) blk 0 d.size w) (hH : Holds (encI N) w blk 0 d) (hsz : d.size ≤ 39) (hd : ∀ k j, k < j → j < d.size → d[k]!.val < d[j]!.val) (hs : 20 < d.size → SymC N p g cb blk cap d.size w) :
    Calls Tryz.prog 135 #[.slice (some ⟨blk, 0, none⟩) d.size cap, .int .i64 d.size, .func (.func g) #[] cb] w fun e w' =>
      e = .returned (.tuple #[]) ∧ ∃ n d2, w' = (putRow (encI N) w blk 0 d2).drewN n ∧ PermIn 0 d.size d d2 ∧ SortedIn (ltX p) 0 d.size d2 := by
  have HD := Lib.hid hd
  by_cases h20 : d.size < 20
  · have hc := ins_any N p g cb blk cap 0 d.size d w eg hcmp hH (Nat.zero_le _) (Nat.le_refl _) (by omega)
    have HC := Lib.hid hc
    clear hc hcmp hH hs hd
    have q1 : ¬ ((20 : Int) ≤ (d.size : Int)) := by omega
    have q2 : ¬ ((20 : Int) < (d.size : Int)) := by omega
    go_enter Tryz.func135, Tryz.ntmps135
    go_wp2
    refine wp_loop_rounds 1 ?_
    rw [rounds_succ]
    go_wp2_with fail
    refine HC.out.mono ?_
    rintro e w1 ⟨rfl, n, rfl⟩
    go_wp2
    refine wp_loop_rounds 1 ?_
    rw [rounds_succ]
    go_wp2
    go_end0
    obtain ⟨h1, h2⟩ := insertion_stable p d (a := 0) (b := d.size) (Nat.zero_le _) (Nat.le_refl _) (fun k m _ hk hm => HD.out k m hk hm)
    exact ⟨rfl, n, _, rfl, h1, h2⟩
  have hc1 := ins_any N p g cb blk cap 0 20 d w eg hcmp hH (Nat.zero_le _) (by omega) (by omega)
  obtain ⟨h1, s1⟩ := insertion_stable p d (a := 0) (b := 20) (Nat.zero_le _) (by omega) (fun k m _ hk hm => HD.out k m hk (by omega))
  obtain ⟨d1, hd1⟩ : ∃ d1, d1 = insertionSort (ltP p) d 0 20 := ⟨_, rfl⟩
  rw [← hd1] at hc1 h1 s1
  have hsz1 : d1.size = d.size := h1.1
  have hr1 : ∀ k m, 20 ≤ k → k < m → m < d.size → d1[k]!.val < d1[m]!.val := fun k m hk hkm hm => by
    rw [h1.2.1 k (.inr hk), h1.2.1 m (.inr (by omega))]
    exact HD.out k m hkm hm
  have hc2 : ∀ k, Calls Tryz.prog 154 #[.slice (some ⟨blk, 0, none⟩) d.size cap, .int .i64 (20 : Nat), .int .i64 d.size, .func (.func g) #[] cb] ((putRow (encI N) w blk 0 d1).drewN k) fun e w' =>
      e = .returned (.tuple #[]) ∧ ∃ n, w' = (putRow (encI N) ((putRow (encI N) w blk 0 d1).drewN k) blk 0 (Sort.insertionSort (ltP p) d1 20 d.size)).drewN n := fun k => by
    have := ins_any N p g cb blk cap 20 d1.size d1 ((putRow (encI N) w blk 0 d1).drewN k) eg (by rw [hsz1]; exact cmp_on hcmp d1 hsz1 k) (holds_on hH hsz1) (by omega) (Nat.le_refl _) (by omega)
    rw [hsz1] at this
    exact this
  obtain ⟨h2, s2⟩ := insertion_stable p d1 (a := 20) (b := d.size) (by omega) (by omega) hr1
  obtain ⟨d2, hd2⟩ : ∃ d2, d2 = insertionSort (ltP p) d1 20 d.size := ⟨_, rfl⟩
  rw [← hd2] at hc2 h2 s2
  have hsz2 : d2.size = d.size := by rw [h2.1, hsz1]
  obtain ⟨hruns, hperm⟩ := runs_two HD.out (by omega) h1 s1 h2 s2
  have HC1 := Lib.hid hc1
  have HC2 := Lib.hid hc2
  have HRU := Lib.hid hruns
  have HPE := Lib.hid hperm
  have HS2 := Lib.hid s2
  have HS := Lib.hid hs
  have HSZ1 := Lib.hid hsz1
  have HSZ2 := Lib.hid hsz2
  clear hc1 hc2 hcmp hH hs hd hd1 hd2 h1 h2 s1 s2 hr1 hruns hperm hsz1 hsz2
  have q1 : (20 : Int) ≤ (d.size : Int) := by omega
  have q3 : ¬ ((40 : Int) ≤ (d.size : Int)) := by omega
  have q4 : ¬ ((40 : Int) < (d.size : Int)) := by omega
  go_enter Tryz.func135, Tryz.ntmps135
  go_wp2
  refine wp_loop_rounds 2 ?_
  rw [rounds_succ]
  go_wp2_with fail
  refine HC1.out.mono ?_
  rintro e w1 ⟨rfl, n, rfl⟩
  go_wp2
  rw [rounds_succ]
  go_wp2_with fail
  refine (HC2.out n).mono ?_
  rintro e w1 ⟨rfl, n2, rfl⟩
  rw [put_put (by rw [HSZ2.out, HSZ1.out])]
  obtain ⟨n3, hn3⟩ : ∃ n3, n3 = n + n2 := ⟨_, rfl⟩
  rw [← hn3]
  clear hn3
  by_cases h21 : 20 < d.size
  case neg =>
    have q2 : ¬ ((20 : Int) < (d.size : Int)) := by omega
    go_wp2
    refine wp_loop_rounds 1 ?_
    rw [rounds_succ]
    go_wp2
    go_end0
    refine ⟨rfl, n3, d2, rfl, HPE.out, ?_⟩
    have e : d.size = 20 := by omega
    have := HRU.out.l
    rw [e]
    exact this
  have q2 : (20 : Int) < (d.size : Int) := by omega
  have HSM := Lib.hid (HS.out h21 d2 n3 HSZ2.out HRU.out)
  clear HS
  go_wp2
  refine wp_loop_rounds 2 ?_
  rw [rounds_succ]
  go_wp2
  refine wp_loop_rounds 1 ?_
  rw [rounds_succ]
  go_wp2_with fail
  refine HSM.out.mono ?_
  rintro e w1 ⟨rfl, j, d3, rfl, hp3, hs3⟩
  have HP3 := Lib.hid hp3
  have HS3 := Lib.hid hs3
  clear hp3 hs3
  go_wp2
  rw [rounds_succ]
  go_wp2
  go_end0
  exact ⟨rfl, j, d3, rfl, permIn_trans _ _ _ _ _ HPE.out HP3.out, HS3.out⟩
end Go.Proofs.YtodckdkbheapfaaGreat
