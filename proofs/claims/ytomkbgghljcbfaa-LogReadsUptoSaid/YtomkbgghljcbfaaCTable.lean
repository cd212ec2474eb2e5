/-
  The contract of crc.table: it makes an array whose places hold what eight steps make of each byte.
-/
import Derived.Test.YtomkbgghljcbfaaCEight
import Derived.Below
import Derived.Laws.OwnMore
import Derived.Deep.Draws
import Derived.Laws.Rows
namespace Go.Proofs.Ytomkbgghljcbfaa
open Go.RowKit Go.Rst Go.Crc
theorem info122 : (Try.prog.info? 122).map (fun i => (i.zero, i.size, i.bytes)) = some (some (.agg (Array.replicate 256 (.int .u32 0))), 256, 1024) := by kernel_rfl

theorem zero37 : ∀ w, (zeroValue 122).run Try.prog w = .ok (.agg (Array.replicate 256 (.int .u32 0))) w := by
  intro w
  obtain ⟨i, hi, hz, _, _⟩ := info_parts info122
  simp [zeroValue, typeInfo, hi, hz]

theorem pow_xor : ∀ k < 8, ∀ r < 2 ^ k, 2 ^ k + r = 2 ^ k ^^^ r := by decide +kernel
theorem pow_or : ∀ k < 8, ∀ r < 2 ^ k, 2 ^ k ||| r = 2 ^ k + r := by decide +kernel
theorem shl_pow : ∀ k < 8, IntKind.i64.wrap (1 * 2 ^ k) = ((2 ^ k : Nat) : Int) := by decide +kernel

/-- How the two arrays lie: the result's as yet nought, the other one right up to n. -/
def Tab (w : World) (Z : Array Value) (n : Nat) (wr : World) : Prop :=
  ∃ cs, Blk wr w.heap.size 122 Z ∧ Blk wr (w.heap.size + 1) 122 cs ∧ cs.size = 256 ∧ (∀ j, j < 256 → ∃ x : Int, cs[j]? = some (.int .u32 x)) ∧ (∀ j, j < n → cs[j]? = some (.int .u32 (ceight j : Nat))) ∧ Below w.heap.size w wr
theorem Tab.step {w wr : World} {Z cs : Array Value} {n : Nat} (hb0 : Blk wr w.heap.size 122 Z) (hb1 : Blk wr (w.heap.size + 1) 122 cs) (hsz : cs.size = 256)
    (hany : ∀ j, j < 256 → ∃ x : Int, cs[j]? = some (.int .u32 x)) (hcs : ∀ j, j < n → cs[j]? = some (.int .u32 (ceight j : Nat))) (hbel : Below w.heap.size w wr) (hn : n < 256) :
    Tab w Z (n + 1) (wr.setCell ⟨w.heap.size + 1, n, none⟩ (.int .u32 (ceight n : Nat))) := by
  refine ⟨_, hb0.far (by simp) _, hb1.set_ n _, by simp [hsz], fun j hj => ?_, fun j hj => ?_, hbel.setCell (by simp) _⟩
  · by_cases h : n = j
    · subst h
      exact ⟨_, by rw [Array.getElem?_setIfInBounds_self_of_lt (by omega)]⟩
    · rw [Array.getElem?_setIfInBounds_ne h]
      exact hany j hj
  · by_cases h : n = j
    · subst h
      rw [Array.getElem?_setIfInBounds_self_of_lt (by omega)]
    · rw [Array.getElem?_setIfInBounds_ne h]
      exact hcs j (by omega)
/-- An array that is the table. -/
def IsTab (cs : Array Value) : Prop := cs.size = 256 ∧ cs.all (·.oneCell') = true ∧ ∀ j, j < 256 → cs[j]? = some (.int .u32 (ceight j : Nat))
theorem isTab {cs : Array Value} (h : cs.size = 256) (hc : ∀ j, j < 256 → cs[j]? = some (.int .u32 (ceight j : Nat))) : IsTab cs := by
  refine ⟨h, ?_, hc⟩
  rw [Array.all_eq_true]
  intro i hi
  have := hc i (by omega)
  rw [Array.getElem?_eq_getElem hi] at this
  injection this with this
  rw [this]
  rfl
theorem info37s {cs : Array Value} (h : cs.size = 256) : (Try.prog.info? 122).map (·.size) = some cs.size := by
  obtain ⟨i, hi, _, hs, _⟩ := info_parts info122
  rw [hi, h, Option.map_some, hs]
/-- What the call hands back. -/
def TabRet (w : World) (e : Ending) (w' : World) : Prop := ∃ cs, e = .returned (.agg cs) ∧ IsTab cs ∧ Below w.heap.size w w'
theorem TabRet.mk {w w' : World} {cs : Array Value} (h : IsTab cs) (hb : Below w.heap.size w w') : TabRet w (.returned (.agg cs)) w' := ⟨cs, rfl, h, hb⟩

set_option maxRecDepth 100000 in
set_option maxHeartbeats 400000 in
theorem table_any (w : World) : Calls Try.prog 97 #[] w (TabRet w) := by
  obtain ⟨Z, hZ⟩ : ∃ Z, Z = Array.replicate 256 (Value.int .u32 0) := ⟨_, rfl⟩
  have z37 := zero37
  rw [← hZ] at z37
  have HZ := Lib.hid hZ
  clear hZ
  go_enter Try.func97, Try.ntmps97
  go_wp2
  go_loopw [6] (fun i wr => ∃ k : Nat, k ≤ 8 ∧ i = .int .i64 k ∧ Tab w Z (2 ^ k) wr) (fun i _ => 8 - (intOf i).toNat)
  case atStart =>
    refine ⟨0, by omega, rfl, Z, ?_, ?_, ?_, ?_, ?_, ?_⟩
    · exact heap_alloc2_old w _ _
    · exact heap_alloc2_new w _ _
    · rw [HZ.out]; simp
    · intro j hj
      rw [HZ.out]
      exact ⟨0, by simp [hj]⟩
    · intro j hj
      obtain rfl : j = 0 := by simpa using hj
      rw [HZ.out]
      simp [ceight_zero]
    · exact ((Below.refl _ _).alloc (Nat.le_refl _) _).alloc (by simp) _
  case round =>
    obtain ⟨k, hk, rfl, hT⟩ := hrel
    by_cases hlt : k < 8
    · obtain ⟨T, hT2⟩ : ∃ T, T = 2 ^ k := ⟨_, rfl⟩
      have hTs := shl_pow k hlt
      have hTx := pow_xor k hlt
      have hTo := pow_or k hlt
      have hT7 : 2 ^ k ≤ 2 ^ 7 := Nat.pow_le_pow_right (by decide) (by omega)
      have hT0 : 0 < 2 ^ k := Nat.two_pow_pos k
      have hTn : 2 ^ (k + 1) = T + T := by rw [hT2, Nat.pow_succ]; omega
      rw [← hT2] at hTs hTx hTo hT7 hT0 hT
      have HX := Lib.hid hTx
      have HO := Lib.hid hTo
      have HN := Lib.hid hTn
      have hTs' : wrap64 ((2 : Int) ^ k) = (T : Int) := by
        have h1 : ((2 ^ k : Nat) : Int) = (2 : Int) ^ k := by simp
        rw [← h1, ← hT2]
        unfold wrap64
        omega
      clear hTx hTo hTn hTs hT2
      have hTb : T < B32 := by unfold B32; omega
      have hT7' : T ≤ 128 := hT7
      have HT := Lib.hid hT
      clear hT7 hT z37
      go_wp2_with fail
      rw [hTs']
      clear hTs'
      refine (eight_any T hTb _).mono ?_
      rintro e w' ⟨rfl, rfl⟩
      go_wp2
      go_loopw [15] (fun i wr => ∃ r : Nat, r ≤ T ∧ i = .int .i64 r ∧ Tab w Z (T + r) wr) (fun i _ => T - (intOf i).toNat)
      case atStart => exact ⟨0, by omega, rfl, HT.out⟩
      case round =>
        obtain ⟨r, hr, rfl, hT⟩ := hrel
        clear HT
        by_cases hrT : r < T
        · obtain ⟨cs, hb0, hb1, hsz, hany, hcs, hbel⟩ := hT
          obtain ⟨x, hx⟩ := hany (T + r) (by omega)
          have hc := (hb1.cell r).trans (hcs r (by omega))
          have hd := (hb1.cell (T + r)).trans hx
          have hf := hb1.frozen (T + r)
          have hor : bits .or .i64 (T : Int) (r : Int) = (T : Int) + r := by
            rw [or_i64 T r (by omega) (by omega), HO.out r hrT]
            simp
          have hr1 : ceight r < B32 := ceight_lt (by unfold B32; omega)
          have hxor : bits .xor .u32 ((ceight T : Nat) : Int) ((ceight r : Nat) : Int) = ((ceight (T + r) : Nat) : Int) := by
            rw [xor32 (ceight_lt hTb) hr1, ← ceight_xor, HX.out r hrT]
          have HA := Lib.hid hany
          have HC := Lib.hid hcs
          have HB := Lib.hid hbel
          have H0 := Lib.hid hb0
          have H1 := Lib.hid hb1
          have HZ2 := Lib.hid hsz
          clear hany hcs hbel hb0 hb1 hsz hx
          go_wp2
          go_roundw
          case rel => exact ⟨r + 1, by omega, by go_num, Tab.step (n := T + r) H0.out H1.out HZ2.out HA.out HC.out HB.out (by omega)⟩
          case measure => simp [intOf]; omega
        · have e : r = T := by omega
          have hT' : Tab w Z (2 ^ (k + 1)) wr := by rw [HN.out]; rw [e] at hT; exact hT
          have HT := Lib.hid hT'
          clear hT hT' e
          go_wp2
          go_roundw
          case rel => exact ⟨k + 1, by omega, by go_num, HT.out⟩
          case measure => simp [intOf]; omega
    · obtain ⟨cs, hb0, hb1, hsz, _, hcs, hbel⟩ := hT
      have hI := isTab hsz (by rw [show k = 8 from by omega] at hcs; exact hcs)
      have HI := Lib.hid hI
      have hS : Z.size = cs.size := by rw [HZ.out, hsz]; simp
      have HS := Lib.hid hS
      clear hS
      have HB := Lib.hid hbel
      have H0 := Lib.hid hb0
      have H1 := Lib.hid hb1
      clear hI hbel hcs hb0 hb1 hsz
      go_wp2_with (first
        | (refine wpList_load_row rfl 122 (.tmp 1) rfl (w.heap.size + 1) rfl 122 cs (0, 0) _ H1.out Try.underlying122 rfl (info37s HI.out.1) ?_)
        | (refine wpList_store_row rfl 122 (.tmp 0) (.tmp 29) rfl w.heap.size cs rfl rfl 122 Z H0.out (info37s HI.out.1) HS.out HI.out.2.1 ?_))
      have hb' : Below w.heap.size w (wr.setRow w.heap.size cs) :=
        HB.out.trans ⟨rfl, rfl, rfl, by simp, fun j hj => setRow_other wr _ j cs (Nat.ne_of_lt hj)⟩
      exact bodyPost_ret (v := .agg cs) (results_cell_row rfl _ _ w.heap.size 122 cs (0, 0) _ rfl (setRow_heap _ _ _ _ _ _ H0.out) Try.underlying122 rfl (info37s HI.out.1)) rfl (TabRet.mk HI.out hb')
end Go.Proofs.Ytomkbgghljcbfaa
