/-
  The contract of sha.mixed: it adds to the eight words what 64 rounds make of them, for any eight words and any 64.
-/
import Derived.Test.YtbfemhhmijlmlaaDoorTables
import Derived.Laws.OwnMore
import Derived.Laws.Rows
import Derived.Deep.Draws
namespace Go.Proofs.YtbfemhhmijlmlaaDoor
open Go.RowKit Go.Rst Go.Sha

/-- Words as cells. -/
def wvs (l : List UInt32) : Array Value := (l.map wv).toArray
/-- A block known whole. -/
def Blk (w : World) (g : Nat) (t : TypeId) (cs : Array Value) : Prop := w.heap[g]? = some (.cells cs t (0, 0))
section
variable {w w' : World} {g : Nat} {t : TypeId} {cs : Array Value}
theorem Blk.lt (h : Blk w g t cs) : g < w.heap.size := by
  rcases Nat.lt_or_ge g w.heap.size with hlt | hge
  · exact hlt
  · unfold Blk at h; rw [Array.getElem?_eq_none hge] at h; cases h
theorem Blk.cell (h : Blk w g t cs) (i : Nat) : w.cell? ⟨g, i, none⟩ = cs[i]? := cell_of_row w g i cs t (0, 0) h
theorem Blk.frozen (h : Blk w g t cs) (i : Nat) : w.frozen? ⟨g, i, none⟩ = false := by
  unfold Blk at h
  simp [World.frozen?, h]
theorem Blk.alloc (h : Blk w g t cs) (o : Obj) : Blk (w.alloc o) g t cs := (Below.heap_alloc w o g h.lt).trans h
theorem Blk.set_ (h : Blk w g t cs) (i : Nat) (u : Value) : Blk (w.setCell ⟨g, i, none⟩ u) g t (cs.setIfInBounds i u) := by
  unfold Blk at h ⊢
  simp [World.setCell, Array.getElem?_modify, h]
theorem Blk.far (h : Blk w g t cs) {p : Addr} (hp : g ≠ p.block) (u : Value) : Blk (w.setCell p u) g t cs := (Below.heap_setCell w p u g hp).trans h
theorem Blk.below {B : Nat} (h : Blk w g t cs) (hb : Below B w w') (hg : g < B) : Blk w' g t cs := (hb.block g hg).trans h
theorem Blk.drewN (h : Blk w g t cs) (n : Nat) : Blk (w.drewN n) g t cs := h
end
theorem wvs_get {l : List UInt32} {j : Nat} (h : j < l.length) : (wvs l)[j]? = some (wv (l.getD j 0)) := by
  simp [wvs, List.getElem?_eq_getElem h]

theorem right_q (x : UInt32) (n : Nat) (h0 : 0 < n) (h : n < 32) (w : World) :
    Calls Tryd.prog 22 #[.int .u32 (x.toNat : Int), .int .i64 (n : Int)] w fun e w' => e = .returned (.int .u32 ((rotr x n).toNat : Int)) ∧ w' = w :=
  (right_any x n h0 h w).mono fun _ _ h => ⟨h.1, h.2.symm⟩
theorem gN (x : UInt32) : bits .xor .u32 IntKind.u32.max (x.toNat : Int) = ((~~~ x).toNat : Int) := by
  have h : (IntKind.u32.max) = (((4294967295 : UInt32).toNat : Nat) : Int) := rfl
  rw [h, g_xor]
  congr 2
theorem u_go (a b c d e f g h K X : UInt32) :
    ((h.toNat : Int) + bits .xor .u32 (bits .xor .u32 ((rotr e 6).toNat : Int) ((rotr e 11).toNat : Int)) ((rotr e 25).toNat : Int) +
      bits .xor .u32 (bits .and .u32 (e.toNat : Int) (f.toNat : Int)) (bits .and .u32 (bits .xor .u32 IntKind.u32.max (e.toNat : Int)) (g.toNat : Int)) + (K.toNat : Int) + (X.toNat : Int)) % 4294967296
      = ((uOf ⟨a, b, c, d, e, f, g, h⟩ K X).toNat : Int) := by
  simp only [gN, g_xor, g_and]
  show ((h.toNat : Int) + ((bigE e).toNat : Int) + ((choice e f g).toNat : Int) + (K.toNat : Int) + (X.toNat : Int)) % 4294967296 = ((h + bigE e + choice e f g + K + X).toNat : Int)
  simp only [UInt32.toNat_add]
  omega
theorem v_go (a b c d e f g h : UInt32) :
    (bits .xor .u32 (bits .xor .u32 ((rotr a 2).toNat : Int) ((rotr a 13).toNat : Int)) ((rotr a 22).toNat : Int) +
      bits .xor .u32 (bits .xor .u32 (bits .and .u32 (a.toNat : Int) (b.toNat : Int)) (bits .and .u32 (a.toNat : Int) (c.toNat : Int))) (bits .and .u32 (b.toNat : Int) (c.toNat : Int))) % 4294967296
      = ((vOf ⟨a, b, c, d, e, f, g, h⟩).toNat : Int) := by
  simp only [g_xor, g_and]
  show (((bigA a).toNat : Int) + ((most a b c).toNat : Int)) % 4294967296 = ((bigA a + most a b c).toNat : Int)
  rw [g_add]
/-- The eight words, of which the first k are added up. -/
def upTo (A B : List UInt32) (k : Nat) : List UInt32 := (List.range 8).map fun j => if j < k then A.getD j 0 + B.getD j 0 else A.getD j 0
theorem upTo_length (A B : List UInt32) (k : Nat) : (upTo A B k).length = 8 := by simp [upTo]
theorem upTo_get (A B : List UInt32) (k : Nat) (h : k < 8) : (upTo A B k).getD k 0 = A.getD k 0 := by
  simp [upTo, List.getElem?_range h]
theorem upTo_set (A B : List UInt32) (k : Nat) (h : k < 8) : (wvs (upTo A B k)).setIfInBounds k (wv (A.getD k 0 + B.getD k 0)) = wvs (upTo A B (k + 1)) := by
  match k, h with
  | 0, _ => rfl
  | 1, _ => rfl
  | 2, _ => rfl
  | 3, _ => rfl
  | 4, _ => rfl
  | 5, _ => rfl
  | 6, _ => rfl
  | 7, _ => rfl
theorem idx8 (a b c d e f g h : UInt32) (k : Nat) (hk : k < 8) : ∀ w, (Instr.index 31 (.agg #[.int .u32 (a.toNat : Int), .int .u32 (b.toNat : Int), .int .u32 (c.toNat : Int), .int .u32 (d.toNat : Int), .int .u32 (e.toNat : Int), .int .u32 (f.toNat : Int), .int .u32 (g.toNat : Int), .int .u32 (h.toNat : Int)]) (.int .i64 (k : Int))).run Tryd.prog w = .ok (wv (List.getD [a, b, c, d, e, f, g, h] k 0)) w := by
  match k, hk with
  | 0, _ => intro w; kernel_rfl
  | 1, _ => intro w; kernel_rfl
  | 2, _ => intro w; kernel_rfl
  | 3, _ => intro w; kernel_rfl
  | 4, _ => intro w; kernel_rfl
  | 5, _ => intro w; kernel_rfl
  | 6, _ => intro w; kernel_rfl
  | 7, _ => intro w; kernel_rfl
theorem info31 : (Tryd.prog.info? 31).map (·.size) = some 8 := by kernel_rfl
theorem info31s {cs : Array Value} (h : (wvs [0, 0, 0, 0, 0, 0, 0, 0]).size = cs.size) : (Tryd.prog.info? 31).map (·.size) = some cs.size := by
  rw [info31, ← h]; rfl
theorem wvs_oneCell (l : List UInt32) : (wvs l).all (·.oneCell') = true := by
  rw [Array.all_eq_true]
  intro i hi
  simp [wvs, wv, Value.oneCell']
theorem wvs_size8 (l : List UInt32) (h : l.length = 8) : (wvs [0, 0, 0, 0, 0, 0, 0, 0]).size = (wvs l).size := by simp [wvs, h]
/-- How mixed's blocks lie. -/
def MB (w : World) (H : Nat) (A : List UInt32) (W : List UInt32) (wr : World) : Prop :=
  Blk wr H 31 (wvs A) ∧ Blk wr (H + 1) 40 (wvs W) ∧ Blk wr (H + 1 + 1) 31 (wvs [0, 0, 0, 0, 0, 0, 0, 0]) ∧ Below H w wr
theorem MB.drewN {w wr : World} {H : Nat} {A W : List UInt32} (h : MB w H A W wr) (n : Nat) : MB w H A W (wr.drewN n) := ⟨h.1, h.2.1, h.2.2.1, h.2.2.2.trans ⟨rfl, rfl, rfl, Nat.le_refl _, fun _ _ => rfl⟩⟩

set_option maxRecDepth 100000 in
set_option maxHeartbeats 400000 in
theorem mixed_any (s : S8) (W : List UInt32) (hW : W.length = 64) (w : World) (hL : Laid w) :
    Calls Tryd.prog 19 #[.agg #[wv s.a, wv s.b, wv s.c, wv s.d, wv s.e, wv s.f, wv s.g, wv s.h], .agg (wvs W)] w fun e w' => e = .returned (.agg (wvs (mix s W).list)) ∧ Below w.heap.size w w' := by
  obtain ⟨S, hS⟩ : ∃ S, S = s := ⟨_, rfl⟩
  obtain ⟨R, hR⟩ : ∃ R, R = wvs (mix s W).list := ⟨_, rfl⟩
  rw [← hR]
  rw [← hS] at hR
  have HRes := Lib.hid hR
  have HS := Lib.hid hS
  clear hS hR
  obtain ⟨a, b, c, d, e, f, g, h⟩ := s
  unfold wv
  obtain ⟨Z, hZ⟩ : ∃ Z, Z = wvs W := ⟨_, rfl⟩
  rw [← hZ]
  have HZ := Lib.hid hZ
  have HL := Lib.hid hL
  have HW := Lib.hid hW
  clear hZ hW hL
  go_enter Tryd.func19, Tryd.ntmps19
  go_wp2
  go_quiet (fail)
  rename Nat => q1
  go_wp2
  go_quiet (fail)
  rename Nat => q2
  go_wp2
  obtain ⟨H, hH⟩ : ∃ H, H = w.heap.size := ⟨_, rfl⟩
  rw [← hH]
  obtain ⟨W2, hW2⟩ : ∃ W2, W2 = (((((w.alloc (Obj.cells #[Value.int IntKind.u32 ↑a.toNat, Value.int IntKind.u32 ↑b.toNat, Value.int IntKind.u32 ↑c.toNat, Value.int IntKind.u32 ↑d.toNat, Value.int IntKind.u32 ↑e.toNat, Value.int IntKind.u32 ↑f.toNat, Value.int IntKind.u32 ↑g.toNat, Value.int IntKind.u32 ↑h.toNat] 31)).alloc (Obj.cells Z 40)).alloc (Obj.cells #[Value.int IntKind.u32 0, Value.int IntKind.u32 0, Value.int IntKind.u32 0, Value.int IntKind.u32 0, Value.int IntKind.u32 0, Value.int IntKind.u32 0, Value.int IntKind.u32 0, Value.int IntKind.u32 0] 31)).drewN q1).drewN q2) := ⟨_, rfl⟩
  rw [← hW2]
  have hM : MB w H [a, b, c, d, e, f, g, h] W W2 := by
    rw [hW2, hH]
    refine MB.drewN (MB.drewN ⟨?_, ?_, ?_, ?_⟩ _) _
    · exact (Blk.alloc (Blk.alloc (heap_alloc_new w _) _) _)
    · have := Blk.alloc (t := 40) (cs := Z) (heap_alloc_new (w.alloc (Obj.cells #[Value.int IntKind.u32 ↑a.toNat, Value.int IntKind.u32 ↑b.toNat, Value.int IntKind.u32 ↑c.toNat, Value.int IntKind.u32 ↑d.toNat, Value.int IntKind.u32 ↑e.toNat, Value.int IntKind.u32 ↑f.toNat, Value.int IntKind.u32 ↑g.toNat, Value.int IntKind.u32 ↑h.toNat] 31)) (Obj.cells Z 40)) (Obj.cells #[Value.int IntKind.u32 0, Value.int IntKind.u32 0, Value.int IntKind.u32 0, Value.int IntKind.u32 0, Value.int IntKind.u32 0, Value.int IntKind.u32 0, Value.int IntKind.u32 0, Value.int IntKind.u32 0] 31)
      rw [HZ.out] at this ⊢
      simpa using this
    · have := heap_alloc_new ((w.alloc (Obj.cells #[Value.int IntKind.u32 ↑a.toNat, Value.int IntKind.u32 ↑b.toNat, Value.int IntKind.u32 ↑c.toNat, Value.int IntKind.u32 ↑d.toNat, Value.int IntKind.u32 ↑e.toNat, Value.int IntKind.u32 ↑f.toNat, Value.int IntKind.u32 ↑g.toNat, Value.int IntKind.u32 ↑h.toNat] 31)).alloc (Obj.cells Z 40)) (Obj.cells #[Value.int IntKind.u32 0, Value.int IntKind.u32 0, Value.int IntKind.u32 0, Value.int IntKind.u32 0, Value.int IntKind.u32 0, Value.int IntKind.u32 0, Value.int IntKind.u32 0, Value.int IntKind.u32 0] 31)
      have e1 : ((w.alloc (Obj.cells #[Value.int IntKind.u32 ↑a.toNat, Value.int IntKind.u32 ↑b.toNat, Value.int IntKind.u32 ↑c.toNat, Value.int IntKind.u32 ↑d.toNat, Value.int IntKind.u32 ↑e.toNat, Value.int IntKind.u32 ↑f.toNat, Value.int IntKind.u32 ↑g.toNat, Value.int IntKind.u32 ↑h.toNat] 31)).alloc (Obj.cells Z 40)).heap.size = w.heap.size + 1 + 1 := by simp
      rw [e1] at this
      exact this
    · exact (((Below.refl _ _).alloc (Nat.le_refl _) _).alloc (by simp) _).alloc (by simp; omega) _
  have HH := Lib.hid hH
  clear hW2 hH
  have HM := Lib.hid hM
  clear hM
  go_loopw [5, 6, 7, 8, 9, 10, 11, 12, 36] (fun a b c d e f g h i wr => ∃ (t : Nat) (s : S8), t ≤ 64 ∧ i = .int .i64 t ∧ s = rounds W t S ∧ a = wv s.a ∧ b = wv s.b ∧ c = wv s.c ∧ d = wv s.d ∧ e = wv s.e ∧ f = wv s.f ∧ g = wv s.g ∧ h = wv s.h ∧ MB w H S.list W wr) (fun _ _ _ _ _ _ _ _ i _ => 64 - (intOf i).toNat)
  case atStart =>
    refine ⟨0, S, by omega, rfl, rfl, ?_⟩
    rw [HS.out]
    exact ⟨rfl, rfl, rfl, rfl, rfl, rfl, rfl, rfl, HM.out⟩
  case round =>
    obtain ⟨t, s, ht, rfl, hs, rfl, rfl, rfl, rfl, rfl, rfl, rfl, rfl, hM⟩ := hrel
    by_cases hlt : t < 64
    · obtain ⟨hb0, hb1, hb2, hbel⟩ := hM
      have hLr := HL.out.below (HH.out ▸ hbel)
      have hk := hLr.1 t hlt
      have hw := (hb1.cell t).trans (wvs_get (by rw [HW.out]; exact hlt))
      have H0 := Lib.hid hb0
      have H1 := Lib.hid hb1
      have H2 := Lib.hid hb2
      have HB := Lib.hid hbel
      have hn : rounds W (t + 1) S = Go.Sha.step s (kts.getD t 0) (W.getD t 0) := by rw [hs]; rfl
      clear hb0 hb1 hb2 hbel hLr HM hs
      generalize kts.getD t 0 = K at *
      generalize W.getD t 0 = X at *
      have HR := Lib.hid hn
      clear hn
      obtain ⟨a', b', c', d', e', f', g', h'⟩ := s
      unfold wv at hk hw ⊢
      have ht0 : (0 : Int) ≤ (t : Int) := by omega
      have ht1 : (t : Int) < 64 := by omega
      go_wp2
      go_quiet (first | (go_at_call 22; refine Calls.quiet_of_same (right_q _ _ (by decide) (by decide) _)))
      go_wp2_with fail
      refine (right_any _ 2 (by decide) (by decide) _).mono ?_
      rintro e1 w1 ⟨rfl, rfl⟩
      go_wp2_with fail
      refine (right_any _ 13 (by decide) (by decide) _).mono ?_
      rintro e1 w1 ⟨rfl, rfl⟩
      go_wp2_with fail
      refine (right_any _ 22 (by decide) (by decide) _).mono ?_
      rintro e1 w1 ⟨rfl, rfl⟩
      go_wp2
      go_roundw
      case rel =>
        refine ⟨t + 1, Go.Sha.step ⟨a', b', c', d', e', f', g', h'⟩ K X, by omega, by go_num, HR.out.symm, ?_, rfl, rfl, rfl, ?_, rfl, rfl, rfl, MB.drewN ⟨H0.out, H1.out, H2.out, HB.out⟩ _⟩
        · rw [u_go a' b' c' d', v_go a' b' c' d' e' f' g' h', g_add]; rfl
        · rw [u_go a' b' c' d', g_add]; rfl
      case measure => simp [intOf]; omega
    · obtain rfl : t = 64 := by omega
      have HM2 := Lib.hid hM
      have hs' : mix S W = S.add s := by rw [hs]; rfl
      have HS2 := Lib.hid hs'
      obtain ⟨Wo, hWo⟩ : ∃ Wo, Wo = wr := ⟨_, rfl⟩
      subst hWo
      clear hM HM hs hs'
      obtain ⟨a', b', c', d', e', f', g', h'⟩ := s
      unfold wv
      go_wp2
      go_loopw [110] (fun i wr => ∃ k : Nat, k ≤ 8 ∧ i = .int .i64 k ∧ MB w H (upTo S.list [a', b', c', d', e', f', g', h'] k) W wr) (fun i _ => 8 - (intOf i).toNat)
      case atStart => exact ⟨0, by omega, rfl, HM2.out⟩
      case round =>
        obtain ⟨k, hk, rfl, hM⟩ := hrel
        by_cases hlt : k < 8
        · obtain ⟨hb0, hb1, hb2, hbel⟩ := hM
          have hc := (hb0.cell k).trans (wvs_get (by rw [upTo_length]; exact hlt))
          rw [upTo_get _ _ _ hlt] at hc
          have hf := hb0.frozen k
          have hix := idx8 a' b' c' d' e' f' g' h' k hlt
          have hset := upTo_set S.list [a', b', c', d', e', f', g', h'] k hlt
          generalize S.list.getD k 0 = x at *
          generalize List.getD [a', b', c', d', e', f', g', h'] k 0 = y at *
          have H0 := Lib.hid hb0
          have H1 := Lib.hid hb1
          have H2 := Lib.hid hb2
          have HB := Lib.hid hbel
          have HT := Lib.hid hset
          clear hb0 hb1 hb2 hbel hset
          unfold wv at hc hix
          have hk0 : (0 : Int) ≤ (k : Int) := by omega
          have hk1 : (k : Int) < 8 := by omega
          go_wp2
          go_roundw
          case rel =>
            refine ⟨k + 1, by omega, by go_num, ?_, H1.out.far (by simp) _, H2.out.far (by simp; omega) _, HB.out.setCell (Nat.le_refl _) _⟩
            have h1 := H0.out.set_ k (wv (x + y))
            rw [HT.out] at h1
            rw [g_add]
            exact h1
          case measure => simp [intOf]; omega
        · obtain rfl : k = 8 := by omega
          obtain ⟨hb0, hb1, hb2, hbel⟩ := hM
          have he : upTo S.list [a', b', c', d', e', f', g', h'] 8 = (mix S W).list := by rw [HS2.out]; rfl
          rw [he] at hb0
          have hI := wvs_oneCell (mix S W).list
          have hS8 := wvs_size8 (mix S W).list (by rfl)
          rw [← HRes.out] at hb0 hI hS8
          have H0 := Lib.hid hb0
          have H2 := Lib.hid hb2
          have HB := Lib.hid hbel
          have HI := Lib.hid hI
          have H8 := Lib.hid hS8
          have HI8 := Lib.hid (info31s hS8)
          clear hb0 hb1 hb2 hbel hI hS8 he
          go_wp2_with (first
            | (refine wpList_load_row rfl 31 (.tmp 2) rfl H rfl 31 R (0, 0) _ H0.out Tryd.underlying31 rfl HI8.out ?_)
            | (refine wpList_store_row rfl 31 (.tmp 4) (.tmp 121) rfl (H + 1 + 1) R rfl rfl 31 (wvs [0, 0, 0, 0, 0, 0, 0, 0]) H2.out HI8.out H8.out HI.out ?_))
          have hb' : Below w.heap.size w (wr.setRow (H + 1 + 1) R) := HH.out ▸ HB.out.trans ⟨rfl, rfl, rfl, by simp, fun j hj => setRow_other wr _ j R (by omega)⟩
          exact bodyPost_ret (v := .agg R) (results_cell_row rfl _ _ (H + 1 + 1) 31 R (0, 0) _ rfl (setRow_heap _ _ _ _ _ _ H2.out) Tryd.underlying31 rfl HI8.out) rfl ⟨rfl, hb'⟩
end Go.Proofs.YtbfemhhmijlmlaaDoor
