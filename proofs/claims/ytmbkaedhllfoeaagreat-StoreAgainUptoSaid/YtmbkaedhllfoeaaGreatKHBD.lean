/-
 The contract of the law's RowList: rows of the call's own, as the bytes say, for every slice of bytes.; The contract of page.slotted: the rows that stand where the slots say.
-/
import Derived.Test.YtmbkaedhllfoeaaGreatKHA
import Derived.Test.YtmbkaedhllfoeaaGreatKHB
import Derived.Test.YtmbkaedhllfoeaaGreatKHE
set_option linter.unusedVariables false
namespace Go.Proofs.YtmbkaedhllfoeaaGreat
open Go.RowKit Go.Rst
theorem own_blk {w : World} {base g n : Nat} {e : TypeId} {xs ys : List Value} (h : w.ownsRow base e 1 (.slice (some ⟨g, 0, none⟩) n n) n xs) (hx : xs = ys) : Blk w g e ys.toArray := by
 subst hx
 rcases h.2 with ⟨h0, _⟩ | ⟨g', cap, cur, hv, _, hg, _, _, hs, ht⟩
 ·cases h0
 ·injection hv with h1 _ h3
  injection h1 with h1
  injection h1 with h1 _ _
  subst h1
  subst h3
  have : cur.toList = xs := by rw [← ht, List.take_of_length_le (by rw [Array.length_toList]; omega)]
  unfold Blk
  rw [hg, ← this]
theorem fb_blk {w : World} {base g n : Nat} {e : TypeId} {l : List UInt8} (h : Blk w g e (bvs l).toArray) (hn : l.length = n) (hb : base ≤ g) (hm : n ≤ maxLen) : FB e w base (.slice (some ⟨g, 0, none⟩) n n) l := by
 subst hn
 exact .inr ⟨g, l.length, _, (0, 0), rfl, hb, h, Nat.le_refl _, hm, by rw [List.take_of_length_le (by simp [bvs_length])]⟩
theorem fb_lit {w : World} {base : Nat} {e : TypeId} {l : List UInt8} {cs : Array Value} {n : Nat} (hb : base ≤ w.heap.size) (hcs : cs = (bvs l).toArray) (hn : n = l.length) (hm : n ≤ 1000000) :
  FB e (w.alloc (.cells cs e)) base (.slice (some ⟨w.heap.size, 0, none⟩) n n) l := by
 subst hcs
 subst hn
 exact .inr ⟨w.heap.size, l.length, _, (0, 0), rfl, hb, heap_alloc_new w _, Nat.le_refl _, by unfold maxLen; omega, by rw [List.take_of_length_le (by simp [bvs_length])]⟩
theorem gen_allocD {K : World → Prop} {W : World} {o : Obj} (h : ∀ w', w' = (W.alloc o).drew → Below W.heap.size W w' → K w') : K (W.alloc o).drew := h _ rfl ((Below.refl _ _).alloc (Nat.le_refl _) _).drew
theorem FB.drew {e : TypeId} {w : World} {base : Nat} {v : Value} {l : List UInt8} (h : FB e w base v l) : FB e w.drew base v l := h
theorem gen_alloc {K : World → Prop} {W : World} {o : Obj} (h : ∀ w', w' = W.alloc o → Below W.heap.size W w' → K w') : K (W.alloc o) := h _ rfl ((Below.refl _ _).alloc (Nat.le_refl _) _)
theorem madeL (n : Nat) : (madeCells #[Value.int IntKind.u8 0] n).toList = bvs (List.replicate n 0) := by
 rw [toList_madeCells_one]
 simp [bvs, bv]
theorem bvs_set' (l : List UInt8) (k : Nat) (c : UInt8) : (bvs l).toArray.setIfInBounds k (bv c) = (bvs (l.set k c)).toArray := by
 simp [bvs, List.map_set]
def fill (y : UInt8) (m : Nat) : List UInt8 := (List.range m).map fun j => y + UInt8.ofNat j
def fillk (y : UInt8) (m q : Nat) : List UInt8 := (List.range m).map fun j => if j < q then y + UInt8.ofNat j else 0
theorem fill_length (y : UInt8) (m : Nat) : (fill y m).length = m := by simp [fill]
theorem fillk_length (y : UInt8) (m q : Nat) : (fillk y m q).length = m := by simp [fillk]
theorem fillk_zero (y : UInt8) (m : Nat) : fillk y m 0 = List.replicate m 0 := by
 apply List.ext_getElem
 ·simp [fillk]
 ·intro i h1 h2; simp [fillk]
theorem fillk_full (y : UInt8) (m : Nat) : fillk y m m = fill y m := by
 unfold fillk fill
 apply List.map_congr_left
 intro j hj
 rw [if_pos (List.mem_range.1 hj)]
theorem fillk_set (y : UInt8) (m q : Nat) (_h : q < m) : (fillk y m q).set q (y + UInt8.ofNat q) = fillk y m (q + 1) := by
 apply List.ext_getElem
 ·simp [fillk]
 ·intro i h1 h2
  rw [List.getElem_set]
  by_cases e : q = i
  ·subst e; simp [fillk]
  ·rw [if_neg e]
   simp only [fillk, List.getElem_map, List.getElem_range]
   by_cases hik : i < q
   ·rw [if_pos hik, if_pos (by omega)]
   ·rw [if_neg hik, if_neg (by omega)]
def rlen (x y : UInt8) : Nat := if 230 < x.toNat then 100 + y.toNat % 50 else y.toNat % 40
def rowOf (x y : UInt8) : ByteArray × List UInt8 := (⟨#[97 + x % 16, 97 + x / 16 % 4]⟩, fill y (rlen x y))
def rowsAt (l : List UInt8) (k : Nat) : List (ByteArray × List UInt8) := (List.range k).map fun j => rowOf (l.getD (2 * j) 0) (l.getD (2 * j + 1) 0)
def nrows (l : List UInt8) (n : Nat) : Nat := min n (l.length / 2)
theorem rowsAt_succ (l : List UInt8) (k : Nat) : rowsAt l (k + 1) = rowsAt l k ++ [rowOf (l.getD (2 * k) 0) (l.getD (2 * k + 1) 0)] := by simp [rowsAt, List.range_succ]
theorem key_cells (x : UInt8) : #[Value.int .u8 (IntKind.u8.wrap (97 + (x.toNat : Int).tmod 16)), .int .u8 (IntKind.u8.wrap (97 + (IntKind.u8.wrap ((x.toNat : Int) / 16)).tmod 4))] = (bvs [97 + x % 16, 97 + x / 16 % 4]).toArray := by
 have e1 : (97 + x % 16).toNat = 97 + x.toNat % 16 := by simp [UInt8.toNat_add, UInt8.toNat_mod]; omega
 have e2 : (97 + x / 16 % 4).toNat = 97 + x.toNat / 16 % 4 := by simp [UInt8.toNat_add, UInt8.toNat_mod, UInt8.toNat_div]; omega
 have hx := x.toNat_lt
 have e3 : IntKind.u8.wrap (97 + (x.toNat : Int).tmod 16) = ((97 + x.toNat % 16 : Nat) : Int) := by
  rw [IntKind.wrap_u8, Int.tmod_eq_emod_of_nonneg (by omega)]
  omega
 have e4 : IntKind.u8.wrap (97 + (IntKind.u8.wrap ((x.toNat : Int) / 16)).tmod 4) = ((97 + x.toNat / 16 % 4 : Nat) : Int) := by
  rw [IntKind.wrap_u8, IntKind.wrap_u8, Int.tmod_eq_emod_of_nonneg (by omega)]
  omega
 unfold bvs bv
 simp only [List.map_cons, List.map_nil, e1, e2, e3, e4]
theorem add_byte (y : UInt8) (q : Nat) (_h : q < 256) : ((y.toNat : Int) + (q : Int)) % 256 = ((y + UInt8.ofNat q).toNat : Int) := by
 rw [UInt8.toNat_add, UInt8.toNat_ofNat']
 omega
def GivesRL (w : World) (rs : List (ByteArray × List UInt8)) (e : Ending) (w' : World) : Prop := ∃ u, e = .returned u ∧ OR 5 78 w' w.heap.size u rs ∧ Below w.heap.size w w'
theorem GivesRL.mk {w w' : World} {rs : List (ByteArray × List UInt8)} {u : Value} (h : OR 5 78 w' w.heap.size u rs) (hb : Below w.heap.size w w') : GivesRL w rs (.returned u) w' := ⟨u, rfl, h, hb⟩
set_option maxRecDepth 100000 in
set_option maxHeartbeats 4000000 in
theorem rowList_any (v : Value) (l : List UInt8) (n : Nat) (hn : n ≤ 100) (w : World) (hv : RB w v l) (_hl : l.length ≤ 140737488351232) :
  Calls Tryz.prog 61 #[v, .int .i64 n] w (GivesRL w (rowsAt l (nrows l n))) := by
 have HV := Lib.hid hv
 obtain ⟨A, c, rfl, h1, h2, _⟩ := hv
 simp only [maxLen] at h2
 obtain ⟨i5, hi5, hz5, hs5, hb5⟩ := info_parts info5
 have HI5 := Lib.hid hi5
 have HZ5 := Lib.hid hz5
 have HS5 := Lib.hid hs5
 have HB5 := Lib.hid hb5
 clear hi5 hz5 hs5 hb5
 obtain ⟨N, hN⟩ : ∃ N, N = nrows l n := ⟨_, rfl⟩
 have hN1 : N ≤ n := by rw [hN]; unfold nrows; omega
 have hN2 : 2 * N ≤ l.length := by rw [hN]; unfold nrows; omega
 have hN3 : n ≤ N ∨ l.length ≤ 2 * N + 1 := by rw [hN]; unfold nrows; omega
 have HN := Lib.hid hN.symm
 clear hN
 go_enter Tryz.func61, Tryz.ntmps61
 go_wp2
 go_loopw [5, 6] (fun o i wr => ∃ k : Nat, k ≤ N ∧ i = .int .i64 (2 * (k : Int)) ∧ OR 5 78 wr w.heap.size o (rowsAt l k) ∧ Below w.heap.size w wr) (fun _ i _ => 2 * N + 2 - (intOf i).toNat)
 case atStart => exact ⟨0, Nat.zero_le _, rfl, OR.nil_ _ _ _ _, Below.refl _ _⟩
 case round =>
  obtain ⟨k, hk, rfl, hor, hbel⟩ := hrel
  obtain ⟨Wo, hWo⟩ : ∃ x, x = wr := ⟨_, rfl⟩
  subst hWo
  by_cases hlt : k < N
  ·obtain ⟨b, off, rfl, hb, hc0⟩ := rb_cell HV.out (k := 2 * k) (by omega)
   have hc1 : w.cell? ⟨b, off + (2 * k + 1), none⟩ = some (bv l[2 * k + 1]) := by
    obtain ⟨b', off', he, _, h⟩ := rb_cell HV.out (k := 2 * k + 1) (by omega)
    injection he with he
    injection he with e1 e2 _
    subst e1
    subst e2
    exact h
   obtain ⟨x, hx⟩ : ∃ x, x = l[2 * k]'(by omega) := ⟨_, rfl⟩
   obtain ⟨y, hy⟩ : ∃ y, y = l[2 * k + 1]'(by omega) := ⟨_, rfl⟩
   have hx' : l.getD (2 * k) 0 = x := by rw [hx]; simp [List.getElem?_eq_getElem (show 2 * k < l.length by omega)]
   have hy' : l.getD (2 * k + 1) 0 = y := by rw [hy]; simp [List.getElem?_eq_getElem (show 2 * k + 1 < l.length by omega)]
   rw [← hx] at hc0
   rw [← hy] at hc1
   unfold bv at hc0 hc1
   have hxl := x.toNat_lt
   have hyl := y.toNat_lt
   have k0 := (hbel.cell (p := ⟨b, off + 2 * k, none⟩) hb).trans hc0
   have k1 := (hbel.cell (p := ⟨b, off + (2 * k + 1), none⟩) hb).trans hc1
   obtain ⟨us, hus, ho, hfs⟩ := hor
   have husl : us.length = k := by have := congrArg List.length hus; simpa [rowsAt] using this
   have husl2 : us.length ≤ 100 := by omega
   clear husl
   obtain ⟨m, hm⟩ : ∃ m, m = rlen x y := ⟨_, rfl⟩
   have hm150 : m ≤ 150 := by rw [hm]; unfold rlen; split <;> omega
   have HRO := Lib.hid (show rowOf (l.getD (2 * k) 0) (l.getD (2 * k + 1) 0) = (⟨#[97 + x % 16, 97 + x / 16 % 4]⟩, fill y m) by rw [hx', hy', hm]; rfl)
   have HUS := Lib.hid hus
   have HO := Lib.hid ho
   have HF := Lib.hid hfs
   have HB := Lib.hid hbel
   obtain ⟨A6, c6, ho6, _⟩ := own_shape ho
   subst ho6
   have HC0 := Lib.hid hc0
   have HC1 := Lib.hid hc1
   clear hx hy hx' hy' hus ho hfs hbel hc0 hc1
   by_cases h230 : 230 < x.toNat
   ·have hm2 : m = 100 + y.toNat % 50 := by rw [hm]; unfold rlen; rw [if_pos h230]
    clear hm
    have hme : (100 : Int) + (y.toNat : Int) % 50 = (m : Int) := by omega
    have HME := Lib.hid hme
    clear hme hm2
    go_wp2_with (first
     | (refine wpList_make_full _ rfl (.tmp 28) (.tmp 28) 46 rfl 0 5 i5 (.int .u8 0) 1 Tryz.underlying46 HI5.out HZ5.out HS5.out .i64 .i64 ((y.toNat : Int) % 40) ((y.toNat : Int) % 40) (y.toNat % 40) rfl rfl (by omega) (by omega) (by rw [HB5.out]; omega) (by unfold maxLen; omega) (Nat.zero_le _) ?_))
    intro w1 hown1 hgrow1
    have bw1 : Below Wo.heap.size Wo w1 := (Below.refl _ _).grown hgrow1 (Nat.le_refl _) (fun z hz => by cases hz)
    have k0a := ((HB.out.trans (bw1.mono HB.out.size)).cell (p := ⟨b, off + 2 * k, none⟩) hb).trans HC0.out
    have k1a := ((HB.out.trans (bw1.mono HB.out.size)).cell (p := ⟨b, off + (2 * k + 1), none⟩) hb).trans HC1.out
    have BW1 := Lib.hid bw1
    clear hown1 hgrow1 bw1
    go_wp2_with (first
     | (refine wpList_make_full _ rfl (.tmp 42) (.tmp 42) 46 rfl 0 5 i5 (.int .u8 0) 1 Tryz.underlying46 HI5.out HZ5.out HS5.out .i64 .i64 (100 + (y.toNat : Int) % 50) (100 + (y.toNat : Int) % 50) m rfl rfl HME.out HME.out (by rw [HB5.out]; omega) (by unfold maxLen; omega) (Nat.zero_le _) ?_))
    intro w2 hown2 hgrow2
    have hblk := own_blk (ys := bvs (List.replicate m 0)) hown2 (madeL m)
    obtain ⟨g, hg⟩ : ∃ g, g = w1.heap.size := ⟨_, rfl⟩
    rw [← hg] at hblk ⊢
    have hgw : Wo.heap.size ≤ g := by rw [hg]; exact BW1.out.size
    have HK := Lib.hid hblk
    have HBW := Lib.hid (BW1.out.trans (((Below.refl _ _).grown hgrow2 (Nat.le_refl _) (fun z hz => by cases hz)).mono BW1.out.size))
    have hc1 := HC1.out
    have hc0 := HC0.out
    clear hown2 hgrow2 hblk hg k0 k1 k0a k1a BW1 HME
    go_wp2
    go_loopw [8] (fun i wr => ∃ q : Nat, q ≤ m ∧ i = .int .i64 q ∧ Blk wr g 5 (bvs (fillk y m q)).toArray ∧ Below Wo.heap.size Wo wr) (fun i _ => m - (intOf i).toNat)
    case atStart => exact ⟨0, Nat.zero_le _, rfl, by rw [fillk_zero]; exact HK.out, HBW.out⟩
    case round =>
     clear HK HBW
     obtain ⟨q, hq, rfl, hblk, hbW⟩ := hrel
     by_cases hqm : q < m
     ·have hcell := (hblk.cell q).trans (show (bvs (fillk y m q)).toArray[q]? = some _ by rw [List.getElem?_toArray, bvs_get (by rw [fillk_length]; exact hqm)])
      have hfr := hblk.frozen q
      have hcy := ((HB.out.trans (hbW.mono HB.out.size)).cell (p := ⟨b, off + (2 * k + 1), none⟩) hb).trans hc1
      have hset := fillk_set y m q hqm
      have hset2 := bvs_set' (fillk y m q) q (y + UInt8.ofNat q)
      rw [hset] at hset2
      have HSET := Lib.hid hset2
      have HBLK := Lib.hid hblk
      have HBWW := Lib.hid hbW
      have HAD := Lib.hid (add_byte y q (by omega))
      unfold bv at hcell
      clear hset hset2 hblk hbW
      go_wp2
      go_roundw
      case rel => exact ⟨q + 1, by omega, by go_num, by rw [← HSET.out]; rw [HAD.out]; exact HBLK.out.set_ q _, HBWW.out.setCell (by exact hgw) _⟩
      case measure => simp [intOf]; omega
     ·have eqm : q = m := by omega
      rw [eqm, fillk_full] at hblk
      have hBR := Lib.hid (HB.out.trans (hbW.mono HB.out.size))
      have hfv : FB 5 wr w.heap.size (.slice (some ⟨g, 0, none⟩) m m) (fill y m) := fb_blk hblk (fill_length y m) (Nat.le_trans HB.out.size hgw) (by unfold maxLen; omega)
      have hFV := Lib.hid hfv
      have hOW := Lib.hid (own_below HO.out hbW)
      have hFS := Lib.hid (fun z hz => (HF.out z hz).below hbW)
      have HBWW := Lib.hid hbW
      have b1 : (0 : Int) ≤ 2 * (k : Int) := by omega
      have b2 : 2 * (k : Int) < (l.length : Int) := by omega
      have htn : (2 * (k : Int)).toNat = 2 * k := by omega
      clear hfv hblk hbW eqm
      go_wp2
      refine wp_region_held_drew (S := fun X => Below w.heap.size w X) (by kernel_rfl) hBR.out.drew (fun hHeld => ?_)
      refine wpAnyH_take (i := 0) (oi := { dst := some 61, op := Op.move (Operand.tmp 5), type := 40, pos := "law.go:28", after := #[], guard := none }) (v := ?_) rfl (by kernel_rfl) (by kernel_rfl) (by kernel_rfl) (fun _ _ _ h => h) (Or.inl ⟨by rfl, ?_⟩) (by assumption) ?_
      rotate_left
      ·intro X hSw; go_simp; try (with_reducible rfl)
      try simp only [Act.put, List.setIfInBounds_toArray, List.set_cons_zero, List.set_cons_succ]
      refine wpAnyH_take (i := 1) (oi := { dst := some 62, op := Op.move (Operand.tmp 0), type := 46, pos := "law.go:28", after := #[], guard := none }) (v := ?_) rfl (by kernel_rfl) (by kernel_rfl) (by kernel_rfl) (fun _ _ _ h => h) (Or.inl ⟨by rfl, ?_⟩) (by assumption) ?_
      rotate_left
      ·intro X hSw; go_simp; try (with_reducible rfl)
      try simp only [Act.put, List.setIfInBounds_toArray, List.set_cons_zero, List.set_cons_succ]
      refine wpAnyH_take (i := 2) (oi := { dst := some 63, op := Op.move (Operand.tmp 6), type := 3, pos := "law.go:28", after := #[], guard := none }) (v := ?_) rfl (by kernel_rfl) (by kernel_rfl) (by kernel_rfl) (fun _ _ _ h => h) (Or.inl ⟨by rfl, ?_⟩) (by assumption) ?_
      rotate_left
      ·intro X hSw; go_simp; try (with_reducible rfl)
      try simp only [Act.put, List.setIfInBounds_toArray, List.set_cons_zero, List.set_cons_succ]
      refine wpAnyH_take (i := 3) (oi := { dst := some 64, op := Op.indexAddr 46 (Operand.tmp 62) (Operand.tmp 63), type := 0, pos := "law.go:28", after := #[{ on := 1, ground := Ground.data }, { on := 2, ground := Ground.data }], guard := none }) (v := ?_) rfl (by kernel_rfl) (by kernel_rfl) (by kernel_rfl) (fun _ _ _ h => h) (Or.inl ⟨by rfl, ?_⟩) (by assumption) ?_
      rotate_left
      ·intro X hSw; go_simp; try (with_reducible rfl)
      try simp only [Act.put, List.setIfInBounds_toArray, List.set_cons_zero, List.set_cons_succ]
      refine wpAnyH_take (i := 4) (oi := { dst := some 65, op := Op.load 5 (Operand.tmp 64), type := 5, pos := "law.go:28", after := #[{ on := 3, ground := Ground.data }], guard := none }) (v := ?_) rfl (by kernel_rfl) (by kernel_rfl) (by kernel_rfl) (fun _ _ _ h => h) (Or.inl ⟨by rfl, ?_⟩) (by assumption) ?_
      rotate_left
      ·intro X hSw; have hq := (hSw.cell (p := ⟨b, off + 2 * k, none⟩) hb).trans hc0; go_simp; try (with_reducible rfl)
      try simp only [Act.put, List.setIfInBounds_toArray, List.set_cons_zero, List.set_cons_succ]
      refine wpAnyH_take (i := 5) (oi := { dst := some 66, op := Op.binOp BinOp.rem 5 (Operand.tmp 65) (Operand.const (Value.int IntKind.u8 16)) 5, type := 5, pos := "law.go:28", after := #[{ on := 4, ground := Ground.data }], guard := none }) (v := ?_) rfl (by kernel_rfl) (by kernel_rfl) (by kernel_rfl) (fun _ _ _ h => h) (Or.inl ⟨by rfl, ?_⟩) (by assumption) ?_
      rotate_left
      ·intro X hSw; go_simp; try (with_reducible rfl)
      try simp only [Act.put, List.setIfInBounds_toArray, List.set_cons_zero, List.set_cons_succ]
      refine wpAnyH_take (i := 6) (oi := { dst := some 67, op := Op.binOp BinOp.add 5 (Operand.const (Value.int IntKind.u8 97)) (Operand.tmp 66) 5, type := 5, pos := "law.go:28", after := #[{ on := 5, ground := Ground.data }], guard := none }) (v := ?_) rfl (by kernel_rfl) (by kernel_rfl) (by kernel_rfl) (fun _ _ _ h => h) (Or.inl ⟨by rfl, ?_⟩) (by assumption) ?_
      rotate_left
      ·intro X hSw; go_simp; try (with_reducible rfl)
      try simp only [Act.put, List.setIfInBounds_toArray, List.set_cons_zero, List.set_cons_succ]
      refine wpAnyH_take (i := 7) (oi := { dst := some 68, op := Op.move (Operand.tmp 0), type := 46, pos := "law.go:28", after := #[], guard := none }) (v := ?_) rfl (by kernel_rfl) (by kernel_rfl) (by kernel_rfl) (fun _ _ _ h => h) (Or.inl ⟨by rfl, ?_⟩) (by assumption) ?_
      rotate_left
      ·intro X hSw; go_simp; try (with_reducible rfl)
      try simp only [Act.put, List.setIfInBounds_toArray, List.set_cons_zero, List.set_cons_succ]
      refine wpAnyH_take (i := 8) (oi := { dst := some 69, op := Op.move (Operand.tmp 6), type := 3, pos := "law.go:28", after := #[], guard := none }) (v := ?_) rfl (by kernel_rfl) (by kernel_rfl) (by kernel_rfl) (fun _ _ _ h => h) (Or.inl ⟨by rfl, ?_⟩) (by assumption) ?_
      rotate_left
      ·intro X hSw; go_simp; try (with_reducible rfl)
      try simp only [Act.put, List.setIfInBounds_toArray, List.set_cons_zero, List.set_cons_succ]
      refine wpAnyH_take (i := 9) (oi := { dst := some 70, op := Op.indexAddr 46 (Operand.tmp 68) (Operand.tmp 69), type := 0, pos := "law.go:28", after := #[{ on := 7, ground := Ground.data }, { on := 8, ground := Ground.data }], guard := none }) (v := ?_) rfl (by kernel_rfl) (by kernel_rfl) (by kernel_rfl) (fun _ _ _ h => h) (Or.inl ⟨by rfl, ?_⟩) (by assumption) ?_
      rotate_left
      ·intro X hSw; go_simp; try (with_reducible rfl)
      try simp only [Act.put, List.setIfInBounds_toArray, List.set_cons_zero, List.set_cons_succ]
      refine wpAnyH_take (i := 10) (oi := { dst := some 71, op := Op.load 5 (Operand.tmp 70), type := 5, pos := "law.go:28", after := #[{ on := 9, ground := Ground.data }], guard := none }) (v := ?_) rfl (by kernel_rfl) (by kernel_rfl) (by kernel_rfl) (fun _ _ _ h => h) (Or.inl ⟨by rfl, ?_⟩) (by assumption) ?_
      rotate_left
      ·intro X hSw; have hq := (hSw.cell (p := ⟨b, off + 2 * k, none⟩) hb).trans hc0; go_simp; try (with_reducible rfl)
      try simp only [Act.put, List.setIfInBounds_toArray, List.set_cons_zero, List.set_cons_succ]
      refine wpAnyH_take (i := 11) (oi := { dst := some 72, op := Op.binOp BinOp.quo 5 (Operand.tmp 71) (Operand.const (Value.int IntKind.u8 16)) 5, type := 5, pos := "law.go:28", after := #[{ on := 10, ground := Ground.data }], guard := none }) (v := ?_) rfl (by kernel_rfl) (by kernel_rfl) (by kernel_rfl) (fun _ _ _ h => h) (Or.inl ⟨by rfl, ?_⟩) (by assumption) ?_
      rotate_left
      ·intro X hSw; go_simp; try (with_reducible rfl)
      try simp only [Act.put, List.setIfInBounds_toArray, List.set_cons_zero, List.set_cons_succ]
      refine wpAnyH_take (i := 12) (oi := { dst := some 73, op := Op.binOp BinOp.rem 5 (Operand.tmp 72) (Operand.const (Value.int IntKind.u8 4)) 5, type := 5, pos := "law.go:28", after := #[{ on := 11, ground := Ground.data }], guard := none }) (v := ?_) rfl (by kernel_rfl) (by kernel_rfl) (by kernel_rfl) (fun _ _ _ h => h) (Or.inl ⟨by rfl, ?_⟩) (by assumption) ?_
      rotate_left
      ·intro X hSw; go_simp; try (with_reducible rfl)
      try simp only [Act.put, List.setIfInBounds_toArray, List.set_cons_zero, List.set_cons_succ]
      refine wpAnyH_take (i := 13) (oi := { dst := some 74, op := Op.binOp BinOp.add 5 (Operand.const (Value.int IntKind.u8 97)) (Operand.tmp 73) 5, type := 5, pos := "law.go:28", after := #[{ on := 12, ground := Ground.data }], guard := none }) (v := ?_) rfl (by kernel_rfl) (by kernel_rfl) (by kernel_rfl) (fun _ _ _ h => h) (Or.inl ⟨by rfl, ?_⟩) (by assumption) ?_
      rotate_left
      ·intro X hSw; go_simp; try (with_reducible rfl)
      try simp only [Act.put, List.setIfInBounds_toArray, List.set_cons_zero, List.set_cons_succ]
      refine wpAnyH_take (i := 16) (oi := { dst := some 77, op := Op.move (Operand.tmp 7), type := 46, pos := "law.go:28", after := #[], guard := none }) (v := ?_) rfl (by kernel_rfl) (by kernel_rfl) (by kernel_rfl) (fun _ _ _ h => h) (Or.inl ⟨by rfl, ?_⟩) (by assumption) ?_
      rotate_left
      ·intro X hSw; go_simp; try (with_reducible rfl)
      try simp only [Act.put, List.setIfInBounds_toArray, List.set_cons_zero, List.set_cons_succ]
      refine wpAnyH_ready (rs := [14]) (by kernel_rfl) (by simp) ?_
      refine AllReadyH.cons (o := { dst := some 75, op := Op.buildSlice 46 2 #[(0, Operand.tmp 67), (1, Operand.tmp 74)], type := 46, pos := "law.go:28", after := #[{ on := 6, ground := Ground.data }, { on := 13, ground := Ground.data }], guard := none }) rfl (fun K hK => ?_) AllReadyH.nil
      go_simp
      refine gen_allocD ?_
      intro w1 hw1 hbw1
      refine hK.out _ _ ?_ (fun _ => ?_)
      ·exact hBR.out.trans (hbw1.mono hBR.out.size)
      clear hK K
      try simp only [Act.put, List.setIfInBounds_toArray, List.set_cons_zero, List.set_cons_succ]
      have hfb1 : FB 5 w1 w.heap.size (.slice (some ⟨wr.heap.size, 0, none⟩) 2 2) [97 + x % 16, 97 + x / 16 % 4] := by rw [hw1]; exact FB.drew (fb_lit (e := 5) (base := w.heap.size) hBR.out.size (key_cells x) rfl (by decide))
      have hHeld : Below w.heap.size w w1 ∧ FB 5 w1 w.heap.size (.slice (some ⟨wr.heap.size, 0, none⟩) 2 2) [97 + x % 16, 97 + x / 16 % 4] := ⟨hBR.out.trans (hbw1.mono hBR.out.size), hfb1⟩
      have own1 := own_below hOW.out hbw1
      refine wpAnyH_more (S' := fun X => Below w.heap.size w X ∧ FB 5 X w.heap.size (.slice (some ⟨wr.heap.size, 0, none⟩) 2 2) [97 + x % 16, 97 + x / 16 % 4]) (fun _ h => h.1) _ _ _ _ ?_
      clear hfb1 hw1
      refine wpAnyH_take (i := 15) (oi := { dst := some 76, op := Op.convert 46 9 (Operand.tmp 75), type := 9, pos := "law.go:28", after := #[{ on := 14, ground := Ground.data }], guard := none }) (v := ?_) rfl (by kernel_rfl) (by kernel_rfl) (by kernel_rfl) (fun _ _ _ h => h) (Or.inl ⟨by rfl, ?_⟩) (by assumption) ?_
      rotate_left
      ·intro X hSw; have hq := str22 hSw.2.rb; go_simp; try (with_reducible rfl)
      try simp only [Act.put, List.setIfInBounds_toArray, List.set_cons_zero, List.set_cons_succ]
      refine wpAnyH_take (i := 17) (oi := { dst := some 78, op := Op.build 78 #[(0, Operand.tmp 76), (1, Operand.tmp 77)], type := 78, pos := "law.go:28", after := #[{ on := 15, ground := Ground.data }, { on := 16, ground := Ground.data }], guard := none }) (v := ?_) rfl (by kernel_rfl) (by kernel_rfl) (by kernel_rfl) (fun _ _ _ h => h) (Or.inl ⟨by rfl, ?_⟩) (by assumption) ?_
      rotate_left
      ·intro X hSw; go_simp; try (with_reducible rfl)
      try simp only [Act.put, List.setIfInBounds_toArray, List.set_cons_zero, List.set_cons_succ]
      refine wpAnyH_ready (rs := [18]) (by kernel_rfl) (by simp) ?_
      refine AllReadyH.cons (o := { dst := some 79, op := Op.buildSlice 40 1 #[(0, Operand.tmp 78)], type := 40, pos := "law.go:28", after := #[{ on := 17, ground := Ground.data }], guard := none }) rfl (fun K hK => ?_) AllReadyH.nil
      go_simp
      refine gen_alloc ?_
      intro w2 hw2 hbw2
      refine hK.out _ _ ?_ (fun _ => ?_)
      ·exact ⟨hHeld.1.trans (hbw2.mono hHeld.1.size), hHeld.2.below hbw2⟩
      clear hK K
      try simp only [Act.put, List.setIfInBounds_toArray, List.set_cons_zero, List.set_cons_succ]
      have hHeld : Below w.heap.size w w2 ∧ FB 5 w2 w.heap.size (.slice (some ⟨wr.heap.size, 0, none⟩) 2 2) [97 + x % 16, 97 + x / 16 % 4] := ⟨hHeld.1.trans (hbw2.mono hHeld.1.size), hHeld.2.below hbw2⟩
      have own2 := own_below own1 hbw2
      have hsrc : Src Tryz.prog 2 40 (.slice (some ⟨w1.heap.size, 0, none⟩) 1 1) 1 [.string ⟨#[97 + x % 16, 97 + x / 16 % 4]⟩, .slice (some ⟨g, 0, none⟩) m m] w2 := by rw [hw2]; exact src_two _ rfl Tryz.underlying40 78 _ _ rfl rfl
      have HSRC := Lib.hid hsrc
      clear hsrc hw2
      refine wpAnyH_ready (rs := [19]) (by kernel_rfl) (by simp) ?_
      refine AllReadyH.cons (o := { dst := some 80, op := Op.call { callee := Callee.builtin Builtin.append, args := #[Operand.tmp 61, Operand.tmp 79], argTypes := #[40, 40] }, type := 40, pos := "law.go:28", after := #[{ on := 0, ground := Ground.data }, { on := 18, ground := Ground.data }], guard := none }) rfl (fun K hK => ?_) AllReadyH.nil
      refine step_own (by rfl) (.tmp 61) (.tmp 79) 40 40 (by rfl) w.heap.size 78 (.agg #[.string ⟨#[]⟩, .slice none 0 0]) 2 40 Tryz.underlying40 info78 rfl (by rfl) own2 (by rfl) HSRC.out hHeld.1 (Nat.le_refl _) (by unfold maxLen; omega) (by omega) hHeld.1.size ?_
      intro v5 w3 hown3 hbel3 hg3
      refine hK.out _ _ ?_ (fun _ => ?_)
      ·exact ⟨hbel3, FB.grown hHeld.2 own2 (by decide) hg3⟩
      clear hK K
      try simp only [Act.put, List.setIfInBounds_toArray, List.set_cons_zero, List.set_cons_succ]
      have hHeld : Below w.heap.size w w3 ∧ FB 5 w3 w.heap.size (.slice (some ⟨wr.heap.size, 0, none⟩) 2 2) [97 + x % 16, 97 + x / 16 % 4] := ⟨hbel3, FB.grown hHeld.2 own2 (by decide) hg3⟩
      have hor3 := OR.push (by decide) own2 (fun y hy => ((hFS.out y hy).below hbw1).below hbw2) ((hFV.out.below hbw1).below hbw2) hown3 hg3
      refine wpAnyH_take (i := 20) (oi := { dst := some 5, op := Op.assign (Operand.tmp 80), type := 40, pos := "law.go:28", after := #[{ on := 19, ground := Ground.data }, { on := 19, ground := Ground.chain }, { on := 0, ground := Ground.phase }, { on := 1, ground := Ground.phase }, { on := 2, ground := Ground.phase }, { on := 3, ground := Ground.phase }, { on := 4, ground := Ground.phase }, { on := 5, ground := Ground.phase }, { on := 6, ground := Ground.phase }, { on := 7, ground := Ground.phase }, { on := 8, ground := Ground.phase }, { on := 9, ground := Ground.phase }, { on := 10, ground := Ground.phase }, { on := 11, ground := Ground.phase }, { on := 12, ground := Ground.phase }, { on := 13, ground := Ground.phase }, { on := 14, ground := Ground.phase }, { on := 15, ground := Ground.phase }, { on := 16, ground := Ground.phase }, { on := 17, ground := Ground.phase }, { on := 18, ground := Ground.phase }, { on := 19, ground := Ground.phase }], guard := none }) (v := ?_) rfl (by kernel_rfl) (by kernel_rfl) (by kernel_rfl) (fun _ _ _ h => h) (Or.inl ⟨by rfl, ?_⟩) (by assumption) ?_
      rotate_left
      ·intro X hSw; go_simp; try (with_reducible rfl)
      try simp only [Act.put, List.setIfInBounds_toArray, List.set_cons_zero, List.set_cons_succ]
      refine wpAnyH_done (by kernel_rfl) ?_ _
      go_wp2
      go_roundw
      case rel => exact ⟨k + 1, by omega, by go_num, by rw [rowsAt_succ, HRO.out, ← HUS.out]; exact hor3, hbel3⟩
      case measure => simp [intOf]; omega
   ·have hm2 : m = y.toNat % 40 := by rw [hm]; unfold rlen; rw [if_neg h230]
    clear hm
    have hme : (y.toNat : Int) % 40 = (m : Int) := by omega
    have HME := Lib.hid hme
    clear hme hm2
    go_wp2_with (first
     | (refine wpList_make_full _ rfl (.tmp 28) (.tmp 28) 46 rfl 0 5 i5 (.int .u8 0) 1 Tryz.underlying46 HI5.out HZ5.out HS5.out .i64 .i64 ((y.toNat : Int) % 40) ((y.toNat : Int) % 40) m rfl rfl HME.out HME.out (by rw [HB5.out]; omega) (by unfold maxLen; omega) (Nat.zero_le _) ?_))
    intro w2 hown2 hgrow2
    have bw1 : Below Wo.heap.size Wo w2 := (Below.refl _ _).grown hgrow2 (Nat.le_refl _) (fun z hz => by cases hz)
    have k0a := ((HB.out.trans (bw1.mono HB.out.size)).cell (p := ⟨b, off + 2 * k, none⟩) hb).trans HC0.out
    have hblk := own_blk (ys := bvs (List.replicate m 0)) hown2 (madeL m)
    obtain ⟨g, hg⟩ : ∃ g, g = Wo.heap.size := ⟨_, rfl⟩
    rw [← hg] at hblk ⊢
    have hgw : Wo.heap.size ≤ g := by rw [hg]; exact Nat.le_refl _
    have HK := Lib.hid hblk
    have HBW := Lib.hid bw1
    have hc1 := HC1.out
    have hc0 := HC0.out
    clear hown2 hgrow2 hblk hg k0 k1 HME bw1
    go_wp2
    go_loopw [8] (fun i wr => ∃ q : Nat, q ≤ m ∧ i = .int .i64 q ∧ Blk wr g 5 (bvs (fillk y m q)).toArray ∧ Below Wo.heap.size Wo wr) (fun i _ => m - (intOf i).toNat)
    case atStart => exact ⟨0, Nat.zero_le _, rfl, by rw [fillk_zero]; exact HK.out, HBW.out⟩
    case round =>
     clear HK HBW
     obtain ⟨q, hq, rfl, hblk, hbW⟩ := hrel
     by_cases hqm : q < m
     ·have hcell := (hblk.cell q).trans (show (bvs (fillk y m q)).toArray[q]? = some _ by rw [List.getElem?_toArray, bvs_get (by rw [fillk_length]; exact hqm)])
      have hfr := hblk.frozen q
      have hcy := ((HB.out.trans (hbW.mono HB.out.size)).cell (p := ⟨b, off + (2 * k + 1), none⟩) hb).trans hc1
      have hset := fillk_set y m q hqm
      have hset2 := bvs_set' (fillk y m q) q (y + UInt8.ofNat q)
      rw [hset] at hset2
      have HSET := Lib.hid hset2
      have HBLK := Lib.hid hblk
      have HBWW := Lib.hid hbW
      have HAD := Lib.hid (add_byte y q (by omega))
      unfold bv at hcell
      clear hset hset2 hblk hbW
      go_wp2
      go_roundw
      case rel => exact ⟨q + 1, by omega, by go_num, by rw [← HSET.out]; rw [HAD.out]; exact HBLK.out.set_ q _, HBWW.out.setCell (by exact hgw) _⟩
      case measure => simp [intOf]; omega
     ·have eqm : q = m := by omega
      rw [eqm, fillk_full] at hblk
      have hBR := Lib.hid (HB.out.trans (hbW.mono HB.out.size))
      have hfv : FB 5 wr w.heap.size (.slice (some ⟨g, 0, none⟩) m m) (fill y m) := fb_blk hblk (fill_length y m) (Nat.le_trans HB.out.size hgw) (by unfold maxLen; omega)
      have hFV := Lib.hid hfv
      have hOW := Lib.hid (own_below HO.out hbW)
      have hFS := Lib.hid (fun z hz => (HF.out z hz).below hbW)
      have HBWW := Lib.hid hbW
      have b1 : (0 : Int) ≤ 2 * (k : Int) := by omega
      have b2 : 2 * (k : Int) < (l.length : Int) := by omega
      have htn : (2 * (k : Int)).toNat = 2 * k := by omega
      clear hfv hblk hbW eqm
      go_wp2
      refine wp_region_held_drew (S := fun X => Below w.heap.size w X) (by kernel_rfl) hBR.out.drew (fun hHeld => ?_)
      refine wpAnyH_take (i := 0) (oi := { dst := some 61, op := Op.move (Operand.tmp 5), type := 40, pos := "law.go:28", after := #[], guard := none }) (v := ?_) rfl (by kernel_rfl) (by kernel_rfl) (by kernel_rfl) (fun _ _ _ h => h) (Or.inl ⟨by rfl, ?_⟩) (by assumption) ?_
      rotate_left
      ·intro X hSw; go_simp; try (with_reducible rfl)
      try simp only [Act.put, List.setIfInBounds_toArray, List.set_cons_zero, List.set_cons_succ]
      refine wpAnyH_take (i := 1) (oi := { dst := some 62, op := Op.move (Operand.tmp 0), type := 46, pos := "law.go:28", after := #[], guard := none }) (v := ?_) rfl (by kernel_rfl) (by kernel_rfl) (by kernel_rfl) (fun _ _ _ h => h) (Or.inl ⟨by rfl, ?_⟩) (by assumption) ?_
      rotate_left
      ·intro X hSw; go_simp; try (with_reducible rfl)
      try simp only [Act.put, List.setIfInBounds_toArray, List.set_cons_zero, List.set_cons_succ]
      refine wpAnyH_take (i := 2) (oi := { dst := some 63, op := Op.move (Operand.tmp 6), type := 3, pos := "law.go:28", after := #[], guard := none }) (v := ?_) rfl (by kernel_rfl) (by kernel_rfl) (by kernel_rfl) (fun _ _ _ h => h) (Or.inl ⟨by rfl, ?_⟩) (by assumption) ?_
      rotate_left
      ·intro X hSw; go_simp; try (with_reducible rfl)
      try simp only [Act.put, List.setIfInBounds_toArray, List.set_cons_zero, List.set_cons_succ]
      refine wpAnyH_take (i := 3) (oi := { dst := some 64, op := Op.indexAddr 46 (Operand.tmp 62) (Operand.tmp 63), type := 0, pos := "law.go:28", after := #[{ on := 1, ground := Ground.data }, { on := 2, ground := Ground.data }], guard := none }) (v := ?_) rfl (by kernel_rfl) (by kernel_rfl) (by kernel_rfl) (fun _ _ _ h => h) (Or.inl ⟨by rfl, ?_⟩) (by assumption) ?_
      rotate_left
      ·intro X hSw; go_simp; try (with_reducible rfl)
      try simp only [Act.put, List.setIfInBounds_toArray, List.set_cons_zero, List.set_cons_succ]
      refine wpAnyH_take (i := 4) (oi := { dst := some 65, op := Op.load 5 (Operand.tmp 64), type := 5, pos := "law.go:28", after := #[{ on := 3, ground := Ground.data }], guard := none }) (v := ?_) rfl (by kernel_rfl) (by kernel_rfl) (by kernel_rfl) (fun _ _ _ h => h) (Or.inl ⟨by rfl, ?_⟩) (by assumption) ?_
      rotate_left
      ·intro X hSw; have hq := (hSw.cell (p := ⟨b, off + 2 * k, none⟩) hb).trans hc0; go_simp; try (with_reducible rfl)
      try simp only [Act.put, List.setIfInBounds_toArray, List.set_cons_zero, List.set_cons_succ]
      refine wpAnyH_take (i := 5) (oi := { dst := some 66, op := Op.binOp BinOp.rem 5 (Operand.tmp 65) (Operand.const (Value.int IntKind.u8 16)) 5, type := 5, pos := "law.go:28", after := #[{ on := 4, ground := Ground.data }], guard := none }) (v := ?_) rfl (by kernel_rfl) (by kernel_rfl) (by kernel_rfl) (fun _ _ _ h => h) (Or.inl ⟨by rfl, ?_⟩) (by assumption) ?_
      rotate_left
      ·intro X hSw; go_simp; try (with_reducible rfl)
      try simp only [Act.put, List.setIfInBounds_toArray, List.set_cons_zero, List.set_cons_succ]
      refine wpAnyH_take (i := 6) (oi := { dst := some 67, op := Op.binOp BinOp.add 5 (Operand.const (Value.int IntKind.u8 97)) (Operand.tmp 66) 5, type := 5, pos := "law.go:28", after := #[{ on := 5, ground := Ground.data }], guard := none }) (v := ?_) rfl (by kernel_rfl) (by kernel_rfl) (by kernel_rfl) (fun _ _ _ h => h) (Or.inl ⟨by rfl, ?_⟩) (by assumption) ?_
      rotate_left
      ·intro X hSw; go_simp; try (with_reducible rfl)
      try simp only [Act.put, List.setIfInBounds_toArray, List.set_cons_zero, List.set_cons_succ]
      refine wpAnyH_take (i := 7) (oi := { dst := some 68, op := Op.move (Operand.tmp 0), type := 46, pos := "law.go:28", after := #[], guard := none }) (v := ?_) rfl (by kernel_rfl) (by kernel_rfl) (by kernel_rfl) (fun _ _ _ h => h) (Or.inl ⟨by rfl, ?_⟩) (by assumption) ?_
      rotate_left
      ·intro X hSw; go_simp; try (with_reducible rfl)
      try simp only [Act.put, List.setIfInBounds_toArray, List.set_cons_zero, List.set_cons_succ]
      refine wpAnyH_take (i := 8) (oi := { dst := some 69, op := Op.move (Operand.tmp 6), type := 3, pos := "law.go:28", after := #[], guard := none }) (v := ?_) rfl (by kernel_rfl) (by kernel_rfl) (by kernel_rfl) (fun _ _ _ h => h) (Or.inl ⟨by rfl, ?_⟩) (by assumption) ?_
      rotate_left
      ·intro X hSw; go_simp; try (with_reducible rfl)
      try simp only [Act.put, List.setIfInBounds_toArray, List.set_cons_zero, List.set_cons_succ]
      refine wpAnyH_take (i := 9) (oi := { dst := some 70, op := Op.indexAddr 46 (Operand.tmp 68) (Operand.tmp 69), type := 0, pos := "law.go:28", after := #[{ on := 7, ground := Ground.data }, { on := 8, ground := Ground.data }], guard := none }) (v := ?_) rfl (by kernel_rfl) (by kernel_rfl) (by kernel_rfl) (fun _ _ _ h => h) (Or.inl ⟨by rfl, ?_⟩) (by assumption) ?_
      rotate_left
      ·intro X hSw; go_simp; try (with_reducible rfl)
      try simp only [Act.put, List.setIfInBounds_toArray, List.set_cons_zero, List.set_cons_succ]
      refine wpAnyH_take (i := 10) (oi := { dst := some 71, op := Op.load 5 (Operand.tmp 70), type := 5, pos := "law.go:28", after := #[{ on := 9, ground := Ground.data }], guard := none }) (v := ?_) rfl (by kernel_rfl) (by kernel_rfl) (by kernel_rfl) (fun _ _ _ h => h) (Or.inl ⟨by rfl, ?_⟩) (by assumption) ?_
      rotate_left
      ·intro X hSw; have hq := (hSw.cell (p := ⟨b, off + 2 * k, none⟩) hb).trans hc0; go_simp; try (with_reducible rfl)
      try simp only [Act.put, List.setIfInBounds_toArray, List.set_cons_zero, List.set_cons_succ]
      refine wpAnyH_take (i := 11) (oi := { dst := some 72, op := Op.binOp BinOp.quo 5 (Operand.tmp 71) (Operand.const (Value.int IntKind.u8 16)) 5, type := 5, pos := "law.go:28", after := #[{ on := 10, ground := Ground.data }], guard := none }) (v := ?_) rfl (by kernel_rfl) (by kernel_rfl) (by kernel_rfl) (fun _ _ _ h => h) (Or.inl ⟨by rfl, ?_⟩) (by assumption) ?_
      rotate_left
      ·intro X hSw; go_simp; try (with_reducible rfl)
      try simp only [Act.put, List.setIfInBounds_toArray, List.set_cons_zero, List.set_cons_succ]
      refine wpAnyH_take (i := 12) (oi := { dst := some 73, op := Op.binOp BinOp.rem 5 (Operand.tmp 72) (Operand.const (Value.int IntKind.u8 4)) 5, type := 5, pos := "law.go:28", after := #[{ on := 11, ground := Ground.data }], guard := none }) (v := ?_) rfl (by kernel_rfl) (by kernel_rfl) (by kernel_rfl) (fun _ _ _ h => h) (Or.inl ⟨by rfl, ?_⟩) (by assumption) ?_
      rotate_left
      ·intro X hSw; go_simp; try (with_reducible rfl)
      try simp only [Act.put, List.setIfInBounds_toArray, List.set_cons_zero, List.set_cons_succ]
      refine wpAnyH_take (i := 13) (oi := { dst := some 74, op := Op.binOp BinOp.add 5 (Operand.const (Value.int IntKind.u8 97)) (Operand.tmp 73) 5, type := 5, pos := "law.go:28", after := #[{ on := 12, ground := Ground.data }], guard := none }) (v := ?_) rfl (by kernel_rfl) (by kernel_rfl) (by kernel_rfl) (fun _ _ _ h => h) (Or.inl ⟨by rfl, ?_⟩) (by assumption) ?_
      rotate_left
      ·intro X hSw; go_simp; try (with_reducible rfl)
      try simp only [Act.put, List.setIfInBounds_toArray, List.set_cons_zero, List.set_cons_succ]
      refine wpAnyH_take (i := 16) (oi := { dst := some 77, op := Op.move (Operand.tmp 7), type := 46, pos := "law.go:28", after := #[], guard := none }) (v := ?_) rfl (by kernel_rfl) (by kernel_rfl) (by kernel_rfl) (fun _ _ _ h => h) (Or.inl ⟨by rfl, ?_⟩) (by assumption) ?_
      rotate_left
      ·intro X hSw; go_simp; try (with_reducible rfl)
      try simp only [Act.put, List.setIfInBounds_toArray, List.set_cons_zero, List.set_cons_succ]
      refine wpAnyH_ready (rs := [14]) (by kernel_rfl) (by simp) ?_
      refine AllReadyH.cons (o := { dst := some 75, op := Op.buildSlice 46 2 #[(0, Operand.tmp 67), (1, Operand.tmp 74)], type := 46, pos := "law.go:28", after := #[{ on := 6, ground := Ground.data }, { on := 13, ground := Ground.data }], guard := none }) rfl (fun K hK => ?_) AllReadyH.nil
      go_simp
      refine gen_allocD ?_
      intro w1 hw1 hbw1
      refine hK.out _ _ ?_ (fun _ => ?_)
      ·exact hBR.out.trans (hbw1.mono hBR.out.size)
      clear hK K
      try simp only [Act.put, List.setIfInBounds_toArray, List.set_cons_zero, List.set_cons_succ]
      have hfb1 : FB 5 w1 w.heap.size (.slice (some ⟨wr.heap.size, 0, none⟩) 2 2) [97 + x % 16, 97 + x / 16 % 4] := by rw [hw1]; exact FB.drew (fb_lit (e := 5) (base := w.heap.size) hBR.out.size (key_cells x) rfl (by decide))
      have hHeld : Below w.heap.size w w1 ∧ FB 5 w1 w.heap.size (.slice (some ⟨wr.heap.size, 0, none⟩) 2 2) [97 + x % 16, 97 + x / 16 % 4] := ⟨hBR.out.trans (hbw1.mono hBR.out.size), hfb1⟩
      have own1 := own_below hOW.out hbw1
      refine wpAnyH_more (S' := fun X => Below w.heap.size w X ∧ FB 5 X w.heap.size (.slice (some ⟨wr.heap.size, 0, none⟩) 2 2) [97 + x % 16, 97 + x / 16 % 4]) (fun _ h => h.1) _ _ _ _ ?_
      clear hfb1 hw1
      refine wpAnyH_take (i := 15) (oi := { dst := some 76, op := Op.convert 46 9 (Operand.tmp 75), type := 9, pos := "law.go:28", after := #[{ on := 14, ground := Ground.data }], guard := none }) (v := ?_) rfl (by kernel_rfl) (by kernel_rfl) (by kernel_rfl) (fun _ _ _ h => h) (Or.inl ⟨by rfl, ?_⟩) (by assumption) ?_
      rotate_left
      ·intro X hSw; have hq := str22 hSw.2.rb; go_simp; try (with_reducible rfl)
      try simp only [Act.put, List.setIfInBounds_toArray, List.set_cons_zero, List.set_cons_succ]
      refine wpAnyH_take (i := 17) (oi := { dst := some 78, op := Op.build 78 #[(0, Operand.tmp 76), (1, Operand.tmp 77)], type := 78, pos := "law.go:28", after := #[{ on := 15, ground := Ground.data }, { on := 16, ground := Ground.data }], guard := none }) (v := ?_) rfl (by kernel_rfl) (by kernel_rfl) (by kernel_rfl) (fun _ _ _ h => h) (Or.inl ⟨by rfl, ?_⟩) (by assumption) ?_
      rotate_left
      ·intro X hSw; go_simp; try (with_reducible rfl)
      try simp only [Act.put, List.setIfInBounds_toArray, List.set_cons_zero, List.set_cons_succ]
      refine wpAnyH_ready (rs := [18]) (by kernel_rfl) (by simp) ?_
      refine AllReadyH.cons (o := { dst := some 79, op := Op.buildSlice 40 1 #[(0, Operand.tmp 78)], type := 40, pos := "law.go:28", after := #[{ on := 17, ground := Ground.data }], guard := none }) rfl (fun K hK => ?_) AllReadyH.nil
      go_simp
      refine gen_alloc ?_
      intro w2 hw2 hbw2
      refine hK.out _ _ ?_ (fun _ => ?_)
      ·exact ⟨hHeld.1.trans (hbw2.mono hHeld.1.size), hHeld.2.below hbw2⟩
      clear hK K
      try simp only [Act.put, List.setIfInBounds_toArray, List.set_cons_zero, List.set_cons_succ]
      have hHeld : Below w.heap.size w w2 ∧ FB 5 w2 w.heap.size (.slice (some ⟨wr.heap.size, 0, none⟩) 2 2) [97 + x % 16, 97 + x / 16 % 4] := ⟨hHeld.1.trans (hbw2.mono hHeld.1.size), hHeld.2.below hbw2⟩
      have own2 := own_below own1 hbw2
      have hsrc : Src Tryz.prog 2 40 (.slice (some ⟨w1.heap.size, 0, none⟩) 1 1) 1 [.string ⟨#[97 + x % 16, 97 + x / 16 % 4]⟩, .slice (some ⟨g, 0, none⟩) m m] w2 := by rw [hw2]; exact src_two _ rfl Tryz.underlying40 78 _ _ rfl rfl
      have HSRC := Lib.hid hsrc
      clear hsrc hw2
      refine wpAnyH_ready (rs := [19]) (by kernel_rfl) (by simp) ?_
      refine AllReadyH.cons (o := { dst := some 80, op := Op.call { callee := Callee.builtin Builtin.append, args := #[Operand.tmp 61, Operand.tmp 79], argTypes := #[40, 40] }, type := 40, pos := "law.go:28", after := #[{ on := 0, ground := Ground.data }, { on := 18, ground := Ground.data }], guard := none }) rfl (fun K hK => ?_) AllReadyH.nil
      refine step_own (by rfl) (.tmp 61) (.tmp 79) 40 40 (by rfl) w.heap.size 78 (.agg #[.string ⟨#[]⟩, .slice none 0 0]) 2 40 Tryz.underlying40 info78 rfl (by rfl) own2 (by rfl) HSRC.out hHeld.1 (Nat.le_refl _) (by unfold maxLen; omega) (by omega) hHeld.1.size ?_
      intro v5 w3 hown3 hbel3 hg3
      refine hK.out _ _ ?_ (fun _ => ?_)
      ·exact ⟨hbel3, FB.grown hHeld.2 own2 (by decide) hg3⟩
      clear hK K
      try simp only [Act.put, List.setIfInBounds_toArray, List.set_cons_zero, List.set_cons_succ]
      have hHeld : Below w.heap.size w w3 ∧ FB 5 w3 w.heap.size (.slice (some ⟨wr.heap.size, 0, none⟩) 2 2) [97 + x % 16, 97 + x / 16 % 4] := ⟨hbel3, FB.grown hHeld.2 own2 (by decide) hg3⟩
      have hor3 := OR.push (by decide) own2 (fun y hy => ((hFS.out y hy).below hbw1).below hbw2) ((hFV.out.below hbw1).below hbw2) hown3 hg3
      refine wpAnyH_take (i := 20) (oi := { dst := some 5, op := Op.assign (Operand.tmp 80), type := 40, pos := "law.go:28", after := #[{ on := 19, ground := Ground.data }, { on := 19, ground := Ground.chain }, { on := 0, ground := Ground.phase }, { on := 1, ground := Ground.phase }, { on := 2, ground := Ground.phase }, { on := 3, ground := Ground.phase }, { on := 4, ground := Ground.phase }, { on := 5, ground := Ground.phase }, { on := 6, ground := Ground.phase }, { on := 7, ground := Ground.phase }, { on := 8, ground := Ground.phase }, { on := 9, ground := Ground.phase }, { on := 10, ground := Ground.phase }, { on := 11, ground := Ground.phase }, { on := 12, ground := Ground.phase }, { on := 13, ground := Ground.phase }, { on := 14, ground := Ground.phase }, { on := 15, ground := Ground.phase }, { on := 16, ground := Ground.phase }, { on := 17, ground := Ground.phase }, { on := 18, ground := Ground.phase }, { on := 19, ground := Ground.phase }], guard := none }) (v := ?_) rfl (by kernel_rfl) (by kernel_rfl) (by kernel_rfl) (fun _ _ _ h => h) (Or.inl ⟨by rfl, ?_⟩) (by assumption) ?_
      rotate_left
      ·intro X hSw; go_simp; try (with_reducible rfl)
      try simp only [Act.put, List.setIfInBounds_toArray, List.set_cons_zero, List.set_cons_succ]
      refine wpAnyH_done (by kernel_rfl) ?_ _
      go_wp2
      go_roundw
      case rel => exact ⟨k + 1, by omega, by go_num, by rw [rowsAt_succ, HRO.out, ← HUS.out]; exact hor3, hbel3⟩
      case measure => simp [intOf]; omega
  ·have hkN : k = N := by omega
   have hd : (2 * (k : Int) + 1 < (l.length : Int) ∧ 2 * (k : Int) < 2 * (n : Int)) ↔ False := by
    constructor
    ·intro h; omega
    ·intro h; exact h.elim
   have HKN := Lib.hid hkN
   have HOR := Lib.hid hor
   have HB := Lib.hid hbel
   clear hkN hor hbel hd
   by_cases h3 : 2 * (k : Int) + 1 < (l.length : Int)
   ·have h4 : ¬ 2 * (k : Int) < 2 * (n : Int) := by omega
    go_wp2
    go_ret
    rw [HN.out]
    rw [HKN.out] at HOR
    exact GivesRL.mk HOR.out HB.out
   ·go_wp2
    go_ret
    rw [HN.out]
    rw [HKN.out] at HOR
    exact GivesRL.mk HOR.out HB.out
end Go.Proofs.YtmbkaedhllfoeaaGreat
namespace Go.Proofs.YtmbkaedhllfoeaaGreat
open Go.RowKit Go.Rst Go.Pg Go.Crc
def GivesSl (w : World) (r : Option (List Rw)) (e : Ending) (w' : World) : Prop :=
 ∃ v, e = .returned (.tuple #[v, .bool r.isSome]) ∧ OR 5 78 w' w.heap.size v (r.getD []) ∧ Below w.heap.size w w'
theorem GivesSl.none_ {w w' : World} {r : Option (List Rw)} (h : r = none) (hb : Below w.heap.size w w') : GivesSl w r (.returned (.tuple #[.slice none 0 0, .bool false])) w' := by
 subst h
 exact ⟨_, rfl, OR.nil_ _ _ _ _, hb⟩
theorem GivesSl.some_ {w w' : World} {r : Option (List Rw)} {rs : List Rw} {v : Value} (h : r = some rs) (ho : OR 5 78 w' w.heap.size v rs) (hb : Below w.heap.size w w') : GivesSl w r (.returned (.tuple #[v, .bool true])) w' := by
 subst h
 exact ⟨_, rfl, ho, hb⟩
theorem slotsF_step (b : List UInt8) {f n k : Nat} (h : f = n - k) (hk : k < n) (acc : List Rw) : slotsF b f k acc = match slotRow b (b.getD (2 + k) 0).toNat with
  | none => none
  | some r => slotsF b (n - (k + 1)) (k + 1) (acc ++ [r]) := by
 rw [h, show n - k = (n - (k + 1)) + 1 from by omega, slotsF]
 rfl
set_option maxRecDepth 100000 in
set_option maxHeartbeats 4000000 in
theorem slotted_any (v : Value) (l : List UInt8) (hl : l.length = 256) (w : World) (hv : RB w v l) :
  Calls Tryz.prog 122 #[v] w (GivesSl w (slotted l)) := by
 have HV := Lib.hid hv
 obtain ⟨A, c, rfl, hlc, hc, _⟩ := hv
 unfold maxLen at hc
 obtain ⟨b, off, rfl, hb, hc1⟩ := rb_cell HV.out (k := 1) (by omega)
 have hR : slotted l = if 250 < (l.getD 1 0).toNat then none else slotsF l (l.getD 1 0).toNat 0 [] := rfl
 have hg1 : l.getD 1 0 = l[1]'(by omega) := by rw [List.getD_eq_getElem?_getD, List.getElem?_eq_getElem (by omega)]; rfl
 rw [hg1] at hR
 obtain ⟨x1, hx1⟩ : ∃ x1, x1 = l[1]'(by omega) := ⟨_, rfl⟩
 rw [← hx1] at hR hc1
 unfold bv at hc1
 have hx1b := x1.toNat_lt
 obtain ⟨n, hn⟩ : ∃ n, n = x1.toNat := ⟨_, rfl⟩
 rw [← hn] at hR hc1 hx1b
 have hcap : (256 : Int) ≤ (c : Int) := by omega
 have hln : (l.length : Int) = 256 := by omega
 have HL := Lib.hid hl
 clear hx1 hn hg1 hl
 by_cases hbig : 250 < n
 ·rw [if_pos hbig] at hR
  have HR := Lib.hid hR
  have hbig' : (250 : Int) < (n : Int) := by omega
  clear hR
  go_enter Tryz.func122, Tryz.ntmps122
  go_wp2
  go_ret2
  exact GivesSl.none_ HR.out (Below.refl _ _)
 ·rw [if_neg hbig] at hR
  have HR := Lib.hid hR
  have hbig' : (n : Int) ≤ 250 := by omega
  obtain ⟨D, hD⟩ : ∃ D, D = c - 2 := ⟨_, rfl⟩
  have hDn : n ≤ D := by omega
  have hcD : c = D + 2 := by omega
  subst hcD
  clear hR hD
  go_enter Tryz.func122, Tryz.ntmps122
  go_wp2
  rw [Nat.add_sub_cancel_left]
  go_loopw [5, 24] (fun rv i wr => ∃ (k : Nat) (acc : List Rw), k ≤ n ∧ i = .int .i64 k ∧ acc.length = k ∧ OR 5 78 wr w.heap.size rv acc ∧ Below w.heap.size w wr ∧ slotsF l (n - k) k acc = slotsF l n 0 [])
   (fun _ i _ => n - (intOf i).toNat)
  case atStart => exact ⟨0, [], Nat.zero_le _, rfl, rfl, OR.nil_ _ _ _ _, Below.refl _ _, rfl⟩
  case round =>
   obtain ⟨k, acc, hk, rfl, hal, hor, hbel, heq⟩ := hrel
   have HE := Lib.hid heq
   have HAL := Lib.hid hal
   have hsz := hbel.size
   clear heq hal
   by_cases hlt : k < n
   ·have hE := HE.out
    rw [slotsF_step l rfl hlt] at hE
    obtain ⟨_, _, he2, _, hs⟩ := rb_cell HV.out (k := 2 + k) (by have := HL.out; omega)
    injection he2 with he2
    injection he2 with e1 e2 _
    subst e1
    subst e2
    have hg2 : l.getD (2 + k) 0 = l[2 + k]'(by have := HL.out; omega) := by rw [List.getD_eq_getElem?_getD, List.getElem?_eq_getElem (by have := HL.out; omega)]; rfl
    rw [hg2] at hE
    obtain ⟨x, hx⟩ : ∃ x, x = l[2 + k]'(by have := HL.out; omega) := ⟨_, rfl⟩
    rw [← hx] at hE hs
    unfold bv at hs
    have hxb := x.toNat_lt
    obtain ⟨s, hs1⟩ : ∃ s, s = x.toNat := ⟨_, rfl⟩
    rw [← hs1] at hE hs hxb
    have hs2 := (hbel.cell (p := ⟨b, off + (2 + k), none⟩) hb).trans hs
    rw [show off + (2 + k) = off + 2 + k from by omega] at hs2
    unfold slotRow at hE
    have c1 := fun W hW => getText_any (.slice (some ⟨b, off, none⟩) l.length (D + 2)) l (s : Int) 30 W hW
    have s1 := getText_spec l (s : Int) 30
    obtain ⟨tk, q1, e1, ht1⟩ : ∃ a b c, getText l (s : Int) 30 = (a, b, c) := ⟨_, _, _, rfl⟩
    rw [ht1] at hE c1 s1
    simp only [] at hE s1 c1
    have c2 := fun W hW => getText_any (.slice (some ⟨b, off, none⟩) l.length (D + 2)) l q1 150 W hW
    have s2 := getText_spec l q1 150
    obtain ⟨tv, q2, e2, ht2⟩ : ∃ a b c, getText l q1 150 = (a, b, c) := ⟨_, _, _, rfl⟩
    rw [ht2] at hE c2 s2
    simp only [] at hE s2 c2
    have C1 := Lib.hid c1
    have C2 := Lib.hid c2
    have HVr := Lib.hid (HV.out.below hbel)
    clear c1 c2 ht1 ht2 HE hx hs1 hg2 hs
    by_cases he1 : e1 = 0
    ·subst he1
     by_cases he2 : e2 = 0
     ·subst he2
      have htl : tv.length ≤ 150 := by omega
      simp only [ne_eq, not_true_eq_false, if_false] at hE
      have HE := Lib.hid hE
      clear s1 s2 hE
      go_wp2_with fail
      refine (C1.out _ HVr.out).mono ?_
      rintro x w2 ⟨rfl, rfl⟩
      go_wp2_with fail
      refine (C2.out _ HVr.out).mono ?_
      rintro x w2 ⟨rfl, rfl⟩
      go_wp2_with (refine wpList_bytes rfl (.tmp 49) 9 46 5 rfl Tryz.underlying9 Tryz.underlying46 Tryz.underlying5 (by rfl) ?_ ?_)
      ·unfold maxLen; omega
      intro g c w2 hfb hb2
      have hor2 := (hor.below hb2).alloc (Obj.cells #[.string ⟨tk.toArray⟩, .slice (some ⟨g, 0, none⟩) tv.length c] 78)
      have hfb2 := (hfb.base_ (base' := w.heap.size) hsz).below ((Below.refl _ _).alloc (Nat.le_refl _) (Obj.cells #[.string ⟨tk.toArray⟩, .slice (some ⟨g, 0, none⟩) tv.length c] 78))
      have hbel2 : Below w.heap.size w w2 := hbel.trans (hb2.mono hsz)
      have hbel3 := hbel2.alloc hbel2.size (Obj.cells #[.string ⟨tk.toArray⟩, .slice (some ⟨g, 0, none⟩) tv.length c] 78)
      obtain ⟨us, hus, ho, hfs⟩ := hor2
      have HLU := Lib.hid (show us.length = acc.length by rw [← hus, List.length_map])
      have HUS := Lib.hid hus
      have hsz2 := hbel2.size
      clear hor hfb hbel hus hb2 hbel2
      go_wp2_with (at_builtin; refine wpList_own rfl (.tmp 47) (.tmp 52) 40 40 rfl w.heap.size 78 (.agg #[.string ⟨#[]⟩, .slice none 0 0]) 2 40 Tryz.underlying40 info78 rfl rfl ho rfl (src_two _ (by simp) Tryz.underlying40 78 _ _ rfl rfl) hbel3 (Nat.le_refl _) ?_ ?_ ?_ ?_)
      ·have := HLU.out; have := HAL.out; unfold maxLen; omega
      ·have := HLU.out; have := HAL.out; omega
      ·simp; omega
      intro v' w4 ho' hb4 hg4
      have hor4 := OR.push (by decide) ho hfs hfb2 ho' hg4
      rw [HUS.out] at hor4
      have HO4 := Lib.hid hor4
      have HB4 := Lib.hid hb4
      clear ho hfs hfb2 ho' hg4 hor4 hb4
      go_wp2
      go_roundw
      case rel => exact ⟨k + 1, _, by omega, by go_num, by rw [List.length_append, HAL.out]; rfl, HO4.out, HB4.out, HE.out⟩
      case measure => simp [intOf]; omega
     ·have hne : (e2 != 0) = true := by simpa using he2
      have hE2 := Lib.hid (show slotsF l n 0 [] = none by rw [← hE]; simp [he2])
      have HB := Lib.hid hbel
      clear hE s1 s2 he2 hbel
      go_wp2_with fail
      refine (C1.out _ HVr.out).mono ?_
      rintro x w2 ⟨rfl, rfl⟩
      go_wp2_with fail
      refine (C2.out _ HVr.out).mono ?_
      rintro x w2 ⟨rfl, rfl⟩
      go_wp2
      go_ret2
      exact GivesSl.none_ (HR.out.trans hE2.out) HB.out
    ·have hne : (e1 != 0) = true := by simpa using he1
     have hE2 := Lib.hid (show slotsF l n 0 [] = none by rw [← hE]; simp [he1])
     have HB := Lib.hid hbel
     clear hE s1 s2 he1 hbel
     go_wp2_with fail
     refine (C1.out _ HVr.out).mono ?_
     rintro x w2 ⟨rfl, rfl⟩
     go_wp2
     go_ret2
     exact GivesSl.none_ (HR.out.trans hE2.out) HB.out
   ·have e : k = n := by omega
    have hE := HE.out
    rw [e, Nat.sub_self, slotsF] at hE
    have HE2 := Lib.hid hE.symm
    have HB := Lib.hid hbel
    have HO := Lib.hid hor
    clear hE hbel hor HE
    go_wp2
    go_ret2
    exact GivesSl.some_ (HR.out.trans HE2.out) HO.out HB.out
end Go.Proofs.YtmbkaedhllfoeaaGreat
