/-
  CrcAlike returns true, and changes nothing that was there, for every two slices of bytes.
-/
import Derived.Test.YtloklbjaabbgcaaKnown
import Derived.Test.YtloklbjaabbgcaaAlikeM
import Derived.RegionTactic
import Derived.ChangeAlike
namespace Go.Proofs.Ytloklbjaabbgcaa
open Go.RowKit Go.Rst Go.Crc

/-- min of three integers, its value given. -/
theorem wpList_min3 {P : Program} {w : World} {ops : Array Oper} {rest : List Oper} {o : Oper} {a : Act} {Q : Exit → Act → World → Prop} (hgd : o.guard = none) (x y z : Operand) (ts : Array TypeId)
    (ho : o.op = .call { callee := .builtin .min, args := #[x, y, z], argTypes := ts }) {X Y Z n : Int} (hx : a.eval x = .int .i64 X) (hy : a.eval y = .int .i64 Y) (hz : a.eval z = .int .i64 Z)
    (hn : (if Z < (if Y < X then Y else X) then Z else (if Y < X then Y else X)) = n) (h : wpList P ops Q rest (a.put o.dst (.int .i64 n)) w) : wpList P ops Q (o :: rest) a w := by
  refine wpList_plain hgd fun K hK => ?_
  unfold Oper.wp execOp
  simp only [ho, resolve, invoke, builtin, Sem.run_bind, Sem.run_pure, Result.andThen_ok, List.map_toArray, List.map_cons, List.map_nil, hx, hy, hz, run_min_int3, hn]
  exact hK _ _ h

/-- make of a slice, full, at a step of a region that draws its order. -/
theorem step_make {P : Program} {w : World} {ops : Array Oper} {o : Oper} {a : Act} {K : Act → World → Prop} {Q : Exit → Act → World → Prop} {E : Prop} (hw : Region.wanted o (yielded ops a.tmps) = true) (l c : Operand) (t : TypeId) (hop : o.op = Op.makeSlice t l c)
    (base : Nat) (e : TypeId) (i : TypeInfo) (z : Value) (size : Nat) (h1 : P.underlying t = some (.slice e)) (h2 : P.info? e = some i) (h3 : i.zero = some z) (h4 : i.size = size)
    (n : Nat) (hl : a.eval l = .int .i64 n) (hc : a.eval c = .int .i64 n) (b2 : i.bytes * n ≤ 281474976710656) (b3 : n ≤ maxLen) (b4 : base ≤ w.heap.size)
    (hK : ∀ w', w'.ownsRow base e size (.slice (some ⟨w.heap.size, 0, none⟩) n n) n (madeCells z.cells (n * size)).toList → w.grownBy w' none → K (a.put o.dst (.slice (some ⟨w.heap.size, 0, none⟩) n n)) w') :
    if Region.wanted o (yielded ops a.tmps) = true then Oper.wp P o a w K Q else E := by
  rw [if_pos hw]
  obtain ⟨w', hrun, r1, r2⟩ := run_make_full (P := P) w base t e i z size h1 h2 h3 h4 .i64 .i64 n b2 b3 b4
  unfold Oper.wp
  simp [execOp, hop, hl, hc, hrun, Result.andThen]
  exact hK w' r1 r2
theorem madeL (n : Nat) : (madeCells #[Value.int IntKind.u8 0] n).toList = bvs (List.replicate n 0) := by
  rw [toList_madeCells_one]
  simp [bvs, bv]
theorem own_zero {w : World} {n : Nat} {v : Value} (h : w.ownsRow 0 5 1 v n (madeCells (Value.cells (.int .u8 0)) (n * 1)).toList) : RB w v (List.replicate n 0) := by
  have e : (madeCells (Value.cells (.int .u8 0)) (n * 1)).toList = bvs (List.replicate n 0) := by rw [Nat.mul_one]; exact madeL n
  rw [e] at h
  exact RB.own (base := 0) (e := 5) (by rw [List.length_replicate]; exact h)
theorem sum_as {l : List UInt8} {x : Nat} (hx : csum l = x) (v : Value) (w : World) (hv : RB w v l) :
    Calls Try.prog 9 #[v] w fun e w' => e = .returned (.int .u32 (x : Nat)) ∧ Below w.heap.size w w' := hx ▸ sum_any v l w hv
theorem blk_rb {w : World} {g n : Nat} {e : TypeId} {l : List UInt8} (h : Blk w g e (bvs l).toArray) (hn : n = l.length) (hm : n ≤ maxLen) : RB w (.slice (some ⟨g, 0, none⟩) n n) l := by
  subst hn
  refine ⟨some ⟨g, 0, none⟩, l.length, rfl, Nat.le_refl _, hm, .inr ⟨g, 0, rfl, h.lt, fun j hj => ?_⟩⟩
  rw [Nat.zero_add, h.cell, List.getElem?_toArray, bvs_get hj]
/-- A row that fills its block. -/
theorem own_blk {w : World} {base g n : Nat} {e : TypeId} {xs ys : List Value} (h : w.ownsRow base e 1 (.slice (some ⟨g, 0, none⟩) n n) n xs) (hx : xs = ys) : Blk w g e ys.toArray := by
  subst hx
  rcases h.2 with ⟨h0, _⟩ | ⟨g', cap, cur, hv, _, hg, _, _, hs, ht⟩
  · cases h0
  · injection hv with h1 _ h3
    injection h1 with h1
    injection h1 with h1 _ _
    subst h1
    subst h3
    have : cur.toList = xs := by rw [← ht, List.take_of_length_le (by rw [Array.length_toList]; omega)]
    unfold Blk
    rw [hg, ← this]
set_option maxRecDepth 100000 in
set_option maxHeartbeats 1000000 in
theorem alike_law (v : Value) (l : List UInt8) (u : Value) (m : List UInt8) (w : World) (hv : RB w v l) (hl : l.length ≤ 140737488351232) (hu : RB w u m) (hm : m.length ≤ 140737488351232) :
    Calls Try.prog 4 #[v, u] w fun e w' => e = .returned (.bool true) ∧ Below w.heap.size w w' := by
  have HV := Lib.hid hv
  have HU := Lib.hid hu
  obtain ⟨A, c, rfl, h1, h2, _⟩ := hv
  obtain ⟨A', c', rfl, h1', h2', _⟩ := hu
  simp only [maxLen] at h2 h2'
  obtain ⟨n, hn⟩ : ∃ n, n = min (min l.length m.length) 300 := ⟨_, rfl⟩
  have hnl : n ≤ l.length := by omega
  have hnm : n ≤ m.length := by omega
  have hn3 : n ≤ 300 := by omega
  have hmin : (if (300 : Int) < (if (m.length : Int) < (l.length : Int) then (m.length : Int) else (l.length : Int)) then 300 else (if (m.length : Int) < (l.length : Int) then (m.length : Int) else (l.length : Int))) = (n : Int) := by
    split <;> split <;> omega
  have HM := Lib.hid hmin
  clear hn hmin
  obtain ⟨i5, hi5, hz5, hs5, hb5⟩ := info_parts info5
  have hb5' : i5.bytes * n ≤ 281474976710656 := by rw [hb5]; omega
  have hmax : n ≤ maxLen := by unfold maxLen; omega
  have HI5 := Lib.hid hi5
  have HZ5 := Lib.hid hz5
  have HS5 := Lib.hid hs5
  have HB5 := Lib.hid hb5'
  have HM5 := Lib.hid hmax
  clear hi5 hz5 hs5 hb5 hb5' hmax
  go_enter Try.func4, Try.ntmps4
  go_wp2_with (first
    | (refine wpList_min3 rfl (.tmp 9) (.tmp 11) (.const (.int .i64 300)) _ rfl rfl rfl rfl HM.out ?_)
    | (refine wpList_make_full _ rfl (.tmp 13) (.tmp 13) 22 rfl w.heap.size 5 i5 (.int .u8 0) 1 Try.underlying22 HI5.out HZ5.out HS5.out .i64 .i64 n n n rfl rfl rfl rfl HB5.out HM5.out (Nat.le_refl _) ?_))
  intro w1 hown hgrow
  have hblk := own_blk hown (madeL n)
  rw [← xk_zero l m n] at hblk
  have hbel : Below w.heap.size w w1 := (Below.refl _ _).grown hgrow (Nat.le_refl _) (fun k hk => by cases hk)
  have HK := Lib.hid hblk
  have HB := Lib.hid hbel
  obtain ⟨g, hg⟩ : ∃ g, g = w.heap.size := ⟨_, rfl⟩
  have HG := Lib.hid hg
  rw [← hg]
  clear hown hgrow hblk hbel hg HM
  go_wp2
  go_loopw [7] (fun i wr => ∃ k : Nat, k ≤ n ∧ i = .int .i64 k ∧ Blk wr g 5 (bvs (xk l m n k)).toArray ∧ Below w.heap.size w wr) (fun i _ => n - (intOf i).toNat)
  case atStart => exact ⟨0, by omega, rfl, by rw [HG.out]; exact HK.out, HB.out⟩
  case round =>
    clear HK HB
    obtain ⟨k, hk, rfl, hblk, hbel⟩ := hrel
    by_cases hlt : k < n
    · obtain ⟨b, off, rfl, hbh, hc⟩ := rb_cell (HV.out.below hbel) (k := k) (by omega)
      obtain ⟨b', off', rfl, hbh', hc'⟩ := rb_cell (HU.out.below hbel) (k := k) (by omega)
      have hset := xk_set l m n k hlt
      have hset2 := bvs_set (xk l m n k) k (l.getD k 0 ^^^ m.getD k 0)
      rw [hset] at hset2
      have e1 : l.getD k 0 = l[k] := by simp [List.getD_eq_getElem?_getD, List.getElem?_eq_getElem (show k < l.length by omega)]
      have e2 : m.getD k 0 = m[k] := by simp [List.getD_eq_getElem?_getD, List.getElem?_eq_getElem (show k < m.length by omega)]
      rw [e1, e2] at hset2
      obtain ⟨x, hx⟩ : ∃ x, x = l[k] := ⟨_, rfl⟩
      obtain ⟨y, hy⟩ : ∃ y, y = m[k] := ⟨_, rfl⟩
      rw [← hx] at hc hset2
      rw [← hy] at hc' hset2
      have hxo : bits .xor .u8 (x.toNat : Int) (y.toNat : Int) = ((x ^^^ y).toNat : Int) := by rw [UInt8.toNat_xor]; exact xor8 x.toNat_lt y.toNat_lt
      have hold := (hblk.cell k).trans (show (bvs (xk l m n k)).toArray[k]? = some _ by rw [List.getElem?_toArray, bvs_get (by rw [xk_length]; exact hlt)])
      have hfr := hblk.frozen k
      unfold bv at hset2
      rw [UInt8.toNat_xor] at hset2
      have HS := Lib.hid hset2
      have HK := Lib.hid hblk
      have HB := Lib.hid hbel
      unfold bv at hc hc' hold
      clear hset hset2 e1 e2 hx hy hblk hbel
      go_wp2
      go_region
      go_wp2
      go_roundw
      case rel => exact ⟨k + 1, by omega, by go_num, by rw [← HS.out]; exact HK.out.set_ k _, (HB.out.setCell (p := ⟨g, k, none⟩) (by rw [← HG.out]; exact Nat.le_refl _) _).drew⟩
      case measure => simp [intOf]; omega
    · obtain rfl : n = k := by omega
      have hA := (HV.out.below hbel).head hnl
      have hM := (HU.out.below hbel).head hnm
      have hX := blk_rb hblk (xk_length l m n n).symm HM5.out
      have hal := alike (l.take n) (m.take n) (by simp; omega)
      have hfull := xk_full l m n hnl hnm
      rw [← hfull] at hal
      have e0 : (l.take n).length = n := by simp; omega
      rw [e0] at hal
      have la := csum_lt (l.take n)
      have lm := csum_lt (m.take n)
      have lx := csum_lt (xk l m n n)
      have lz := csum_lt (List.replicate n 0)
      obtain ⟨sa, hsa⟩ : ∃ x, x = csum (l.take n) := ⟨_, rfl⟩
      obtain ⟨sm, hsm⟩ : ∃ x, x = csum (m.take n) := ⟨_, rfl⟩
      obtain ⟨sx, hsx⟩ : ∃ x, x = csum (xk l m n n) := ⟨_, rfl⟩
      obtain ⟨sz, hsz⟩ : ∃ x, x = csum (List.replicate n 0) := ⟨_, rfl⟩
      rw [← hsa, ← hsm, ← hsx, ← hsz] at hal
      rw [← hsa] at la
      rw [← hsm] at lm
      rw [← hsx] at lx
      rw [← hsz] at lz
      have x1 := xor32 la lm
      have x2 := xor32 lx lz
      rw [← hal] at x2
      generalize sa ^^^ sm = q at *
      have SA := Lib.hid hsa.symm
      have SM := Lib.hid hsm.symm
      have SX := Lib.hid hsx.symm
      have SZ := Lib.hid hsz.symm
      have HA := Lib.hid hA
      have HM := Lib.hid hM
      have HX := Lib.hid hX
      have HB := Lib.hid hbel
      have b1 : (0 : Int) ≤ (n : Int) := by omega
      have b2 : (n : Int) ≤ (c : Int) := by omega
      have b3 : (n : Int) ≤ (c' : Int) := by omega
      clear hsa hsm hsx hsz hA hM hX hal hfull e0 la lm lx lz hbel hblk HV HU hlt
      go_wp2
      refine wp_region_held_drew (S := SB [wr]) (by kernel_rfl) (SB.start _) (fun hHeld => ?_)
      refine wpAnyH_ready (rs := [0]) (by kernel_rfl) (by simp) ?_
      refine AllReadyH.cons (o := { dst := some 32, op := Op.call { callee := Callee.value (Operand.func 8), args := #[], argTypes := #[] }, type := 4, pos := "late.go:14", after := #[], guard := none }) rfl (fun K hK => ?_) AllReadyH.nil
      go_simp
      refine (known_any _).mono ?_
      rintro x w1 ⟨rfl, hbw1⟩
      try (go_wp2_with fail)
      have hHeld' := SB.step hHeld hbw1
      refine hK.out _ _ ?_ (fun _ => ?_)
      · exact hHeld'
      clear hK K
      try simp only [Act.put, List.setIfInBounds_toArray, List.set_cons_zero, List.set_cons_succ]
      have hHeld := SB.more hHeld'
      clear hHeld'
      refine wpAnyH_more (S' := SB [w1, wr]) (fun W h => SB.less W h) _ _ _ _ ?_
      refine wpAnyH_take (i := 1) (oi := { dst := some 33, op := Op.move (Operand.tmp 32), type := 4, pos := "late.go:14", after := #[{ on := 0, ground := Ground.data }, { on := 0, ground := Ground.chain }], guard := none }) (v := ?_) rfl (by kernel_rfl) (by kernel_rfl) (by kernel_rfl) (fun _ _ _ h => h) (Or.inl ⟨by rfl, ?_⟩) (by assumption) ?_
      rotate_left
      · intro W hSw; go_simp; try (with_reducible rfl)
      try simp only [Act.put, List.setIfInBounds_toArray, List.set_cons_zero, List.set_cons_succ]
      refine wpAnyH_take (i := 2) (oi := { dst := some 34, op := Op.move (Operand.tmp 0), type := 22, pos := "late.go:14", after := #[{ on := 1, ground := Ground.guard }], guard := some (1, true) }) (v := ?_) rfl (by kernel_rfl) (by kernel_rfl) (by kernel_rfl) (fun _ _ _ h => h) (Or.inl ⟨by rfl, ?_⟩) (by assumption) ?_
      rotate_left
      · intro W hSw; go_simp; try (with_reducible rfl)
      try simp only [Act.put, List.setIfInBounds_toArray, List.set_cons_zero, List.set_cons_succ]
      refine wpAnyH_take (i := 3) (oi := { dst := some 35, op := Op.move (Operand.tmp 5), type := 3, pos := "late.go:14", after := #[{ on := 1, ground := Ground.guard }], guard := some (1, true) }) (v := ?_) rfl (by kernel_rfl) (by kernel_rfl) (by kernel_rfl) (fun _ _ _ h => h) (Or.inl ⟨by rfl, ?_⟩) (by assumption) ?_
      rotate_left
      · intro W hSw; go_simp; try (with_reducible rfl)
      try simp only [Act.put, List.setIfInBounds_toArray, List.set_cons_zero, List.set_cons_succ]
      refine wpAnyH_take (i := 4) (oi := { dst := some 36, op := Op.slice 22 (Operand.tmp 34) none (some (Operand.tmp 35)) none, type := 22, pos := "late.go:14", after := #[{ on := 2, ground := Ground.data }, { on := 3, ground := Ground.data }, { on := 1, ground := Ground.guard }], guard := some (1, true) }) (v := ?_) rfl (by kernel_rfl) (by kernel_rfl) (by kernel_rfl) (fun _ _ _ h => h) (Or.inl ⟨by rfl, ?_⟩) (by assumption) ?_
      rotate_left
      · intro W hSw; go_simp; try (with_reducible rfl)
      try simp only [Act.put, List.setIfInBounds_toArray, List.set_cons_zero, List.set_cons_succ]
      refine wpAnyH_take (i := 6) (oi := { dst := some 38, op := Op.move (Operand.tmp 1), type := 22, pos := "late.go:14", after := #[{ on := 1, ground := Ground.guard }], guard := some (1, true) }) (v := ?_) rfl (by kernel_rfl) (by kernel_rfl) (by kernel_rfl) (fun _ _ _ h => h) (Or.inl ⟨by rfl, ?_⟩) (by assumption) ?_
      rotate_left
      · intro W hSw; go_simp; try (with_reducible rfl)
      try simp only [Act.put, List.setIfInBounds_toArray, List.set_cons_zero, List.set_cons_succ]
      refine wpAnyH_take (i := 7) (oi := { dst := some 39, op := Op.move (Operand.tmp 5), type := 3, pos := "late.go:14", after := #[{ on := 1, ground := Ground.guard }], guard := some (1, true) }) (v := ?_) rfl (by kernel_rfl) (by kernel_rfl) (by kernel_rfl) (fun _ _ _ h => h) (Or.inl ⟨by rfl, ?_⟩) (by assumption) ?_
      rotate_left
      · intro W hSw; go_simp; try (with_reducible rfl)
      try simp only [Act.put, List.setIfInBounds_toArray, List.set_cons_zero, List.set_cons_succ]
      refine wpAnyH_take (i := 8) (oi := { dst := some 40, op := Op.slice 22 (Operand.tmp 38) none (some (Operand.tmp 39)) none, type := 22, pos := "late.go:14", after := #[{ on := 6, ground := Ground.data }, { on := 7, ground := Ground.data }, { on := 1, ground := Ground.guard }], guard := some (1, true) }) (v := ?_) rfl (by kernel_rfl) (by kernel_rfl) (by kernel_rfl) (fun _ _ _ h => h) (Or.inl ⟨by rfl, ?_⟩) (by assumption) ?_
      rotate_left
      · intro W hSw; go_simp; try (with_reducible rfl)
      try simp only [Act.put, List.setIfInBounds_toArray, List.set_cons_zero, List.set_cons_succ]
      refine wpAnyH_take (i := 11) (oi := { dst := some 43, op := Op.move (Operand.tmp 6), type := 22, pos := "late.go:14", after := #[{ on := 1, ground := Ground.guard }], guard := some (1, true) }) (v := ?_) rfl (by kernel_rfl) (by kernel_rfl) (by kernel_rfl) (fun _ _ _ h => h) (Or.inl ⟨by rfl, ?_⟩) (by assumption) ?_
      rotate_left
      · intro W hSw; go_simp; try (with_reducible rfl)
      try simp only [Act.put, List.setIfInBounds_toArray, List.set_cons_zero, List.set_cons_succ]
      refine wpAnyH_take (i := 13) (oi := { dst := some 45, op := Op.move (Operand.tmp 5), type := 3, pos := "late.go:14", after := #[{ on := 1, ground := Ground.guard }], guard := some (1, true) }) (v := ?_) rfl (by kernel_rfl) (by kernel_rfl) (by kernel_rfl) (fun _ _ _ h => h) (Or.inl ⟨by rfl, ?_⟩) (by assumption) ?_
      rotate_left
      · intro W hSw; go_simp; try (with_reducible rfl)
      try simp only [Act.put, List.setIfInBounds_toArray, List.set_cons_zero, List.set_cons_succ]
      refine wpAnyH_ready (rs := [5, 14]) (by kernel_rfl) (by simp) ?_
      refine AllReadyH.cons (o := { dst := some 37, op := Op.call { callee := Callee.value (Operand.func 9), args := #[Operand.tmp 36], argTypes := #[22] }, type := 23, pos := "late.go:14", after := #[{ on := 4, ground := Ground.data }, { on := 1, ground := Ground.chain }, { on := 1, ground := Ground.guard }], guard := some (1, true) }) rfl (fun K hK => ?_) (AllReadyH.cons (o := { dst := some 46, op := Op.makeSlice 22 (Operand.tmp 45) (Operand.tmp 45), type := 22, pos := "late.go:14", after := #[{ on := 13, ground := Ground.data }, { on := 13, ground := Ground.data }, { on := 1, ground := Ground.guard }], guard := some (1, true) }) rfl (fun K hK => ?_) AllReadyH.nil)
      · go_simp
        refine (sum_as SA.out _ _ (HA.out.below (SB.b1 hHeld))).mono ?_
        rintro x w2 ⟨rfl, hbw2⟩
        try (go_wp2_with fail)
        have hHeld' := SB.step hHeld hbw2
        refine hK.out _ _ ?_ (fun _ => ?_)
        · exact hHeld'
        clear hK K
        try simp only [Act.put, List.setIfInBounds_toArray, List.set_cons_zero, List.set_cons_succ]
        have hHeld := SB.more hHeld'
        clear hHeld'
        refine wpAnyH_more (S' := SB [w2, w1, wr]) (fun W h => SB.less W h) _ _ _ _ ?_
        refine wpAnyH_ready (rs := [9, 14]) (by kernel_rfl) (by simp) ?_
        refine AllReadyH.cons (o := { dst := some 41, op := Op.call { callee := Callee.value (Operand.func 9), args := #[Operand.tmp 40], argTypes := #[22] }, type := 23, pos := "late.go:14", after := #[{ on := 8, ground := Ground.data }, { on := 5, ground := Ground.chain }, { on := 1, ground := Ground.guard }], guard := some (1, true) }) rfl (fun K hK => ?_) (AllReadyH.cons (o := { dst := some 46, op := Op.makeSlice 22 (Operand.tmp 45) (Operand.tmp 45), type := 22, pos := "late.go:14", after := #[{ on := 13, ground := Ground.data }, { on := 13, ground := Ground.data }, { on := 1, ground := Ground.guard }], guard := some (1, true) }) rfl (fun K hK => ?_) AllReadyH.nil)
        · go_simp
          refine (sum_as SM.out _ _ (HM.out.below (SB.b2 hHeld))).mono ?_
          rintro x w3 ⟨rfl, hbw3⟩
          try (go_wp2_with fail)
          have hHeld' := SB.step hHeld hbw3
          refine hK.out _ _ ?_ (fun _ => ?_)
          · exact hHeld'
          clear hK K
          try simp only [Act.put, List.setIfInBounds_toArray, List.set_cons_zero, List.set_cons_succ]
          have hHeld := SB.more hHeld'
          clear hHeld'
          refine wpAnyH_more (S' := SB [w3, w2, w1, wr]) (fun W h => SB.less W h) _ _ _ _ ?_
          refine wpAnyH_take (i := 10) (oi := { dst := some 42, op := Op.binOp BinOp.xor 23 (Operand.tmp 37) (Operand.tmp 41) 23, type := 23, pos := "late.go:14", after := #[{ on := 5, ground := Ground.data }, { on := 9, ground := Ground.data }, { on := 1, ground := Ground.guard }], guard := some (1, true) }) (v := ?_) rfl (by kernel_rfl) (by kernel_rfl) (by kernel_rfl) (fun _ _ _ h => h) (Or.inl ⟨by rfl, ?_⟩) (by assumption) ?_
          rotate_left
          · intro W hSw; go_simp; try (with_reducible rfl)
          try simp only [Act.put, List.setIfInBounds_toArray, List.set_cons_zero, List.set_cons_succ]
          refine wpAnyH_ready (rs := [12, 14]) (by kernel_rfl) (by simp) ?_
          refine AllReadyH.cons (o := { dst := some 44, op := Op.call { callee := Callee.value (Operand.func 9), args := #[Operand.tmp 43], argTypes := #[22] }, type := 23, pos := "late.go:14", after := #[{ on := 11, ground := Ground.data }, { on := 9, ground := Ground.chain }, { on := 1, ground := Ground.guard }], guard := some (1, true) }) rfl (fun K hK => ?_) (AllReadyH.cons (o := { dst := some 46, op := Op.makeSlice 22 (Operand.tmp 45) (Operand.tmp 45), type := 22, pos := "late.go:14", after := #[{ on := 13, ground := Ground.data }, { on := 13, ground := Ground.data }, { on := 1, ground := Ground.guard }], guard := some (1, true) }) rfl (fun K hK => ?_) AllReadyH.nil)
          · go_simp
            refine (sum_as SX.out _ _ (HX.out.below (SB.b3 hHeld))).mono ?_
            rintro x w4 ⟨rfl, hbw4⟩
            try (go_wp2_with fail)
            have hHeld' := SB.step hHeld hbw4
            refine hK.out _ _ ?_ (fun _ => ?_)
            · exact hHeld'
            clear hK K
            try simp only [Act.put, List.setIfInBounds_toArray, List.set_cons_zero, List.set_cons_succ]
            have hHeld := SB.more hHeld'
            clear hHeld'
            refine wpAnyH_more (S' := SB [w4, w3, w2, w1, wr]) (fun W h => SB.less W h) _ _ _ _ ?_
            refine wpAnyH_ready (rs := [14]) (by kernel_rfl) (by simp) ?_
            refine AllReadyH.cons (o := { dst := some 46, op := Op.makeSlice 22 (Operand.tmp 45) (Operand.tmp 45), type := 22, pos := "late.go:14", after := #[{ on := 13, ground := Ground.data }, { on := 13, ground := Ground.data }, { on := 1, ground := Ground.guard }], guard := some (1, true) }) rfl (fun K hK => ?_) AllReadyH.nil
            refine step_make (by rfl) (.tmp 45) (.tmp 45) 22 (by rfl) 0 5 i5 (.int .u8 0) 1 Try.underlying22 HI5.out HZ5.out HS5.out n (by rfl) (by rfl) HB5.out HM5.out (Nat.zero_le _) ?_
            intro w5 hown5 hgrow5
            have hz5 := Lib.hid (own_zero hown5)
            have hbw5 := (Below.refl _ _).grown hgrow5 (Nat.le_refl _) (fun k hk => by cases hk)
            clear hown5 hgrow5
            have hHeld' := SB.step hHeld hbw5
            refine hK.out _ _ ?_ (fun _ => ?_)
            · exact hHeld'
            clear hK K
            try simp only [Act.put, List.setIfInBounds_toArray, List.set_cons_zero, List.set_cons_succ]
            have hHeld := SB.more hHeld'
            clear hHeld'
            refine wpAnyH_more (S' := SB [w5, w4, w3, w2, w1, wr]) (fun W h => SB.less W h) _ _ _ _ ?_
            refine wpAnyH_ready (rs := [15]) (by kernel_rfl) (by simp) ?_
            refine AllReadyH.cons (o := { dst := some 47, op := Op.call { callee := Callee.value (Operand.func 9), args := #[Operand.tmp 46], argTypes := #[22] }, type := 23, pos := "late.go:14", after := #[{ on := 14, ground := Ground.data }, { on := 12, ground := Ground.chain }, { on := 1, ground := Ground.guard }], guard := some (1, true) }) rfl (fun K hK => ?_) AllReadyH.nil
            go_simp
            refine (sum_as SZ.out _ _ (hz5.out.below (SB.b0 hHeld))).mono ?_
            rintro x w6 ⟨rfl, hbw6⟩
            try (go_wp2_with fail)
            have hHeld' := SB.step hHeld hbw6
            refine hK.out _ _ ?_ (fun _ => ?_)
            · exact hHeld'
            clear hK K
            try simp only [Act.put, List.setIfInBounds_toArray, List.set_cons_zero, List.set_cons_succ]
            have hHeld := SB.more hHeld'
            clear hHeld'
            refine wpAnyH_more (S' := SB [w6, w5, w4, w3, w2, w1, wr]) (fun W h => SB.less W h) _ _ _ _ ?_
            refine wpAnyH_take (i := 16) (oi := { dst := some 48, op := Op.binOp BinOp.xor 23 (Operand.tmp 44) (Operand.tmp 47) 23, type := 23, pos := "late.go:14", after := #[{ on := 12, ground := Ground.data }, { on := 15, ground := Ground.data }, { on := 1, ground := Ground.guard }], guard := some (1, true) }) (v := ?_) rfl (by kernel_rfl) (by kernel_rfl) (by kernel_rfl) (fun _ _ _ h => h) (Or.inl ⟨by rfl, ?_⟩) (by assumption) ?_
            rotate_left
            · intro W hSw; go_simp; try (with_reducible rfl)
            try simp only [Act.put, List.setIfInBounds_toArray, List.set_cons_zero, List.set_cons_succ]
            refine wpAnyH_take (i := 17) (oi := { dst := some 49, op := Op.binOp BinOp.eql 23 (Operand.tmp 42) (Operand.tmp 48) 23, type := 4, pos := "late.go:14", after := #[{ on := 10, ground := Ground.data }, { on := 16, ground := Ground.data }, { on := 1, ground := Ground.guard }], guard := some (1, true) }) (v := ?_) rfl (by kernel_rfl) (by kernel_rfl) (by kernel_rfl) (fun _ _ _ h => h) (Or.inl ⟨by rfl, ?_⟩) (by assumption) ?_
            rotate_left
            · intro W hSw; go_simp; try (with_reducible rfl)
            try simp only [Act.put, List.setIfInBounds_toArray, List.set_cons_zero, List.set_cons_succ]
            refine wpAnyH_take (i := 18) (oi := { dst := some 50, op := Op.pick (Operand.tmp 33) (Operand.tmp 49) (Operand.const (Value.bool false)), type := 4, pos := "late.go:14", after := #[{ on := 1, ground := Ground.data }, { on := 17, ground := Ground.data }], guard := none }) (v := ?_) rfl (by kernel_rfl) (by kernel_rfl) (by kernel_rfl) (fun _ _ _ h => h) (Or.inl ⟨by rfl, ?_⟩) (by assumption) ?_
            rotate_left
            · intro W hSw; go_simp; try (with_reducible rfl)
            try simp only [Act.put, List.setIfInBounds_toArray, List.set_cons_zero, List.set_cons_succ]
            refine wpAnyH_take (i := 19) (oi := { dst := some 4, op := Op.assign (Operand.tmp 50), type := 4, pos := "late.go:14", after := #[{ on := 18, ground := Ground.data }, { on := 15, ground := Ground.chain }, { on := 0, ground := Ground.phase }, { on := 1, ground := Ground.phase }, { on := 2, ground := Ground.phase }, { on := 3, ground := Ground.phase }, { on := 4, ground := Ground.phase }, { on := 5, ground := Ground.phase }, { on := 6, ground := Ground.phase }, { on := 7, ground := Ground.phase }, { on := 8, ground := Ground.phase }, { on := 9, ground := Ground.phase }, { on := 10, ground := Ground.phase }, { on := 11, ground := Ground.phase }, { on := 12, ground := Ground.phase }, { on := 13, ground := Ground.phase }, { on := 14, ground := Ground.phase }, { on := 15, ground := Ground.phase }, { on := 16, ground := Ground.phase }, { on := 17, ground := Ground.phase }, { on := 18, ground := Ground.phase }], guard := none }) (v := ?_) rfl (by kernel_rfl) (by kernel_rfl) (by kernel_rfl) (fun _ _ _ h => h) (Or.inl ⟨by rfl, ?_⟩) (by assumption) ?_
            rotate_left
            · intro W hSw; go_simp; try (with_reducible rfl)
            try simp only [Act.put, List.setIfInBounds_toArray, List.set_cons_zero, List.set_cons_succ]
            refine wpAnyH_done (by kernel_rfl) ?_ _
            go_wp2
            go_ret
            exact ⟨rfl, HB.out.trans ((SB.b6 hHeld).mono HB.out.size)⟩
          · refine step_make (by rfl) (.tmp 45) (.tmp 45) 22 (by rfl) 0 5 i5 (.int .u8 0) 1 Try.underlying22 HI5.out HZ5.out HS5.out n (by rfl) (by rfl) HB5.out HM5.out (Nat.zero_le _) ?_
            intro w5 hown5 hgrow5
            have hz5 := Lib.hid (own_zero hown5)
            have hbw5 := (Below.refl _ _).grown hgrow5 (Nat.le_refl _) (fun k hk => by cases hk)
            clear hown5 hgrow5
            have hHeld' := SB.step hHeld hbw5
            refine hK.out _ _ ?_ (fun _ => ?_)
            · exact hHeld'
            clear hK K
            try simp only [Act.put, List.setIfInBounds_toArray, List.set_cons_zero, List.set_cons_succ]
            have hHeld := SB.more hHeld'
            clear hHeld'
            refine wpAnyH_more (S' := SB [w5, w3, w2, w1, wr]) (fun W h => SB.less W h) _ _ _ _ ?_
            refine wpAnyH_ready (rs := [12]) (by kernel_rfl) (by simp) ?_
            refine AllReadyH.cons (o := { dst := some 44, op := Op.call { callee := Callee.value (Operand.func 9), args := #[Operand.tmp 43], argTypes := #[22] }, type := 23, pos := "late.go:14", after := #[{ on := 11, ground := Ground.data }, { on := 9, ground := Ground.chain }, { on := 1, ground := Ground.guard }], guard := some (1, true) }) rfl (fun K hK => ?_) AllReadyH.nil
            go_simp
            refine (sum_as SX.out _ _ (HX.out.below (SB.b4 hHeld))).mono ?_
            rintro x w4 ⟨rfl, hbw4⟩
            try (go_wp2_with fail)
            have hHeld' := SB.step hHeld hbw4
            refine hK.out _ _ ?_ (fun _ => ?_)
            · exact hHeld'
            clear hK K
            try simp only [Act.put, List.setIfInBounds_toArray, List.set_cons_zero, List.set_cons_succ]
            have hHeld := SB.more hHeld'
            clear hHeld'
            refine wpAnyH_more (S' := SB [w4, w5, w3, w2, w1, wr]) (fun W h => SB.less W h) _ _ _ _ ?_
            refine wpAnyH_ready (rs := [15]) (by kernel_rfl) (by simp) ?_
            refine AllReadyH.cons (o := { dst := some 47, op := Op.call { callee := Callee.value (Operand.func 9), args := #[Operand.tmp 46], argTypes := #[22] }, type := 23, pos := "late.go:14", after := #[{ on := 14, ground := Ground.data }, { on := 12, ground := Ground.chain }, { on := 1, ground := Ground.guard }], guard := some (1, true) }) rfl (fun K hK => ?_) AllReadyH.nil
            go_simp
            refine (sum_as SZ.out _ _ (hz5.out.below (SB.b1 hHeld))).mono ?_
            rintro x w6 ⟨rfl, hbw6⟩
            try (go_wp2_with fail)
            have hHeld' := SB.step hHeld hbw6
            refine hK.out _ _ ?_ (fun _ => ?_)
            · exact hHeld'
            clear hK K
            try simp only [Act.put, List.setIfInBounds_toArray, List.set_cons_zero, List.set_cons_succ]
            have hHeld := SB.more hHeld'
            clear hHeld'
            refine wpAnyH_more (S' := SB [w6, w4, w5, w3, w2, w1, wr]) (fun W h => SB.less W h) _ _ _ _ ?_
            refine wpAnyH_take (i := 16) (oi := { dst := some 48, op := Op.binOp BinOp.xor 23 (Operand.tmp 44) (Operand.tmp 47) 23, type := 23, pos := "late.go:14", after := #[{ on := 12, ground := Ground.data }, { on := 15, ground := Ground.data }, { on := 1, ground := Ground.guard }], guard := some (1, true) }) (v := ?_) rfl (by kernel_rfl) (by kernel_rfl) (by kernel_rfl) (fun _ _ _ h => h) (Or.inl ⟨by rfl, ?_⟩) (by assumption) ?_
            rotate_left
            · intro W hSw; go_simp; try (with_reducible rfl)
            try simp only [Act.put, List.setIfInBounds_toArray, List.set_cons_zero, List.set_cons_succ]
            refine wpAnyH_take (i := 17) (oi := { dst := some 49, op := Op.binOp BinOp.eql 23 (Operand.tmp 42) (Operand.tmp 48) 23, type := 4, pos := "late.go:14", after := #[{ on := 10, ground := Ground.data }, { on := 16, ground := Ground.data }, { on := 1, ground := Ground.guard }], guard := some (1, true) }) (v := ?_) rfl (by kernel_rfl) (by kernel_rfl) (by kernel_rfl) (fun _ _ _ h => h) (Or.inl ⟨by rfl, ?_⟩) (by assumption) ?_
            rotate_left
            · intro W hSw; go_simp; try (with_reducible rfl)
            try simp only [Act.put, List.setIfInBounds_toArray, List.set_cons_zero, List.set_cons_succ]
            refine wpAnyH_take (i := 18) (oi := { dst := some 50, op := Op.pick (Operand.tmp 33) (Operand.tmp 49) (Operand.const (Value.bool false)), type := 4, pos := "late.go:14", after := #[{ on := 1, ground := Ground.data }, { on := 17, ground := Ground.data }], guard := none }) (v := ?_) rfl (by kernel_rfl) (by kernel_rfl) (by kernel_rfl) (fun _ _ _ h => h) (Or.inl ⟨by rfl, ?_⟩) (by assumption) ?_
            rotate_left
            · intro W hSw; go_simp; try (with_reducible rfl)
            try simp only [Act.put, List.setIfInBounds_toArray, List.set_cons_zero, List.set_cons_succ]
            refine wpAnyH_take (i := 19) (oi := { dst := some 4, op := Op.assign (Operand.tmp 50), type := 4, pos := "late.go:14", after := #[{ on := 18, ground := Ground.data }, { on := 15, ground := Ground.chain }, { on := 0, ground := Ground.phase }, { on := 1, ground := Ground.phase }, { on := 2, ground := Ground.phase }, { on := 3, ground := Ground.phase }, { on := 4, ground := Ground.phase }, { on := 5, ground := Ground.phase }, { on := 6, ground := Ground.phase }, { on := 7, ground := Ground.phase }, { on := 8, ground := Ground.phase }, { on := 9, ground := Ground.phase }, { on := 10, ground := Ground.phase }, { on := 11, ground := Ground.phase }, { on := 12, ground := Ground.phase }, { on := 13, ground := Ground.phase }, { on := 14, ground := Ground.phase }, { on := 15, ground := Ground.phase }, { on := 16, ground := Ground.phase }, { on := 17, ground := Ground.phase }, { on := 18, ground := Ground.phase }], guard := none }) (v := ?_) rfl (by kernel_rfl) (by kernel_rfl) (by kernel_rfl) (fun _ _ _ h => h) (Or.inl ⟨by rfl, ?_⟩) (by assumption) ?_
            rotate_left
            · intro W hSw; go_simp; try (with_reducible rfl)
            try simp only [Act.put, List.setIfInBounds_toArray, List.set_cons_zero, List.set_cons_succ]
            refine wpAnyH_done (by kernel_rfl) ?_ _
            go_wp2
            go_ret
            exact ⟨rfl, HB.out.trans ((SB.b6 hHeld).mono HB.out.size)⟩
        · refine step_make (by rfl) (.tmp 45) (.tmp 45) 22 (by rfl) 0 5 i5 (.int .u8 0) 1 Try.underlying22 HI5.out HZ5.out HS5.out n (by rfl) (by rfl) HB5.out HM5.out (Nat.zero_le _) ?_
          intro w5 hown5 hgrow5
          have hz5 := Lib.hid (own_zero hown5)
          have hbw5 := (Below.refl _ _).grown hgrow5 (Nat.le_refl _) (fun k hk => by cases hk)
          clear hown5 hgrow5
          have hHeld' := SB.step hHeld hbw5
          refine hK.out _ _ ?_ (fun _ => ?_)
          · exact hHeld'
          clear hK K
          try simp only [Act.put, List.setIfInBounds_toArray, List.set_cons_zero, List.set_cons_succ]
          have hHeld := SB.more hHeld'
          clear hHeld'
          refine wpAnyH_more (S' := SB [w5, w2, w1, wr]) (fun W h => SB.less W h) _ _ _ _ ?_
          refine wpAnyH_ready (rs := [9]) (by kernel_rfl) (by simp) ?_
          refine AllReadyH.cons (o := { dst := some 41, op := Op.call { callee := Callee.value (Operand.func 9), args := #[Operand.tmp 40], argTypes := #[22] }, type := 23, pos := "late.go:14", after := #[{ on := 8, ground := Ground.data }, { on := 5, ground := Ground.chain }, { on := 1, ground := Ground.guard }], guard := some (1, true) }) rfl (fun K hK => ?_) AllReadyH.nil
          go_simp
          refine (sum_as SM.out _ _ (HM.out.below (SB.b3 hHeld))).mono ?_
          rintro x w3 ⟨rfl, hbw3⟩
          try (go_wp2_with fail)
          have hHeld' := SB.step hHeld hbw3
          refine hK.out _ _ ?_ (fun _ => ?_)
          · exact hHeld'
          clear hK K
          try simp only [Act.put, List.setIfInBounds_toArray, List.set_cons_zero, List.set_cons_succ]
          have hHeld := SB.more hHeld'
          clear hHeld'
          refine wpAnyH_more (S' := SB [w3, w5, w2, w1, wr]) (fun W h => SB.less W h) _ _ _ _ ?_
          refine wpAnyH_take (i := 10) (oi := { dst := some 42, op := Op.binOp BinOp.xor 23 (Operand.tmp 37) (Operand.tmp 41) 23, type := 23, pos := "late.go:14", after := #[{ on := 5, ground := Ground.data }, { on := 9, ground := Ground.data }, { on := 1, ground := Ground.guard }], guard := some (1, true) }) (v := ?_) rfl (by kernel_rfl) (by kernel_rfl) (by kernel_rfl) (fun _ _ _ h => h) (Or.inl ⟨by rfl, ?_⟩) (by assumption) ?_
          rotate_left
          · intro W hSw; go_simp; try (with_reducible rfl)
          try simp only [Act.put, List.setIfInBounds_toArray, List.set_cons_zero, List.set_cons_succ]
          refine wpAnyH_ready (rs := [12]) (by kernel_rfl) (by simp) ?_
          refine AllReadyH.cons (o := { dst := some 44, op := Op.call { callee := Callee.value (Operand.func 9), args := #[Operand.tmp 43], argTypes := #[22] }, type := 23, pos := "late.go:14", after := #[{ on := 11, ground := Ground.data }, { on := 9, ground := Ground.chain }, { on := 1, ground := Ground.guard }], guard := some (1, true) }) rfl (fun K hK => ?_) AllReadyH.nil
          go_simp
          refine (sum_as SX.out _ _ (HX.out.below (SB.b4 hHeld))).mono ?_
          rintro x w4 ⟨rfl, hbw4⟩
          try (go_wp2_with fail)
          have hHeld' := SB.step hHeld hbw4
          refine hK.out _ _ ?_ (fun _ => ?_)
          · exact hHeld'
          clear hK K
          try simp only [Act.put, List.setIfInBounds_toArray, List.set_cons_zero, List.set_cons_succ]
          have hHeld := SB.more hHeld'
          clear hHeld'
          refine wpAnyH_more (S' := SB [w4, w3, w5, w2, w1, wr]) (fun W h => SB.less W h) _ _ _ _ ?_
          refine wpAnyH_ready (rs := [15]) (by kernel_rfl) (by simp) ?_
          refine AllReadyH.cons (o := { dst := some 47, op := Op.call { callee := Callee.value (Operand.func 9), args := #[Operand.tmp 46], argTypes := #[22] }, type := 23, pos := "late.go:14", after := #[{ on := 14, ground := Ground.data }, { on := 12, ground := Ground.chain }, { on := 1, ground := Ground.guard }], guard := some (1, true) }) rfl (fun K hK => ?_) AllReadyH.nil
          go_simp
          refine (sum_as SZ.out _ _ (hz5.out.below (SB.b2 hHeld))).mono ?_
          rintro x w6 ⟨rfl, hbw6⟩
          try (go_wp2_with fail)
          have hHeld' := SB.step hHeld hbw6
          refine hK.out _ _ ?_ (fun _ => ?_)
          · exact hHeld'
          clear hK K
          try simp only [Act.put, List.setIfInBounds_toArray, List.set_cons_zero, List.set_cons_succ]
          have hHeld := SB.more hHeld'
          clear hHeld'
          refine wpAnyH_more (S' := SB [w6, w4, w3, w5, w2, w1, wr]) (fun W h => SB.less W h) _ _ _ _ ?_
          refine wpAnyH_take (i := 16) (oi := { dst := some 48, op := Op.binOp BinOp.xor 23 (Operand.tmp 44) (Operand.tmp 47) 23, type := 23, pos := "late.go:14", after := #[{ on := 12, ground := Ground.data }, { on := 15, ground := Ground.data }, { on := 1, ground := Ground.guard }], guard := some (1, true) }) (v := ?_) rfl (by kernel_rfl) (by kernel_rfl) (by kernel_rfl) (fun _ _ _ h => h) (Or.inl ⟨by rfl, ?_⟩) (by assumption) ?_
          rotate_left
          · intro W hSw; go_simp; try (with_reducible rfl)
          try simp only [Act.put, List.setIfInBounds_toArray, List.set_cons_zero, List.set_cons_succ]
          refine wpAnyH_take (i := 17) (oi := { dst := some 49, op := Op.binOp BinOp.eql 23 (Operand.tmp 42) (Operand.tmp 48) 23, type := 4, pos := "late.go:14", after := #[{ on := 10, ground := Ground.data }, { on := 16, ground := Ground.data }, { on := 1, ground := Ground.guard }], guard := some (1, true) }) (v := ?_) rfl (by kernel_rfl) (by kernel_rfl) (by kernel_rfl) (fun _ _ _ h => h) (Or.inl ⟨by rfl, ?_⟩) (by assumption) ?_
          rotate_left
          · intro W hSw; go_simp; try (with_reducible rfl)
          try simp only [Act.put, List.setIfInBounds_toArray, List.set_cons_zero, List.set_cons_succ]
          refine wpAnyH_take (i := 18) (oi := { dst := some 50, op := Op.pick (Operand.tmp 33) (Operand.tmp 49) (Operand.const (Value.bool false)), type := 4, pos := "late.go:14", after := #[{ on := 1, ground := Ground.data }, { on := 17, ground := Ground.data }], guard := none }) (v := ?_) rfl (by kernel_rfl) (by kernel_rfl) (by kernel_rfl) (fun _ _ _ h => h) (Or.inl ⟨by rfl, ?_⟩) (by assumption) ?_
          rotate_left
          · intro W hSw; go_simp; try (with_reducible rfl)
          try simp only [Act.put, List.setIfInBounds_toArray, List.set_cons_zero, List.set_cons_succ]
          refine wpAnyH_take (i := 19) (oi := { dst := some 4, op := Op.assign (Operand.tmp 50), type := 4, pos := "late.go:14", after := #[{ on := 18, ground := Ground.data }, { on := 15, ground := Ground.chain }, { on := 0, ground := Ground.phase }, { on := 1, ground := Ground.phase }, { on := 2, ground := Ground.phase }, { on := 3, ground := Ground.phase }, { on := 4, ground := Ground.phase }, { on := 5, ground := Ground.phase }, { on := 6, ground := Ground.phase }, { on := 7, ground := Ground.phase }, { on := 8, ground := Ground.phase }, { on := 9, ground := Ground.phase }, { on := 10, ground := Ground.phase }, { on := 11, ground := Ground.phase }, { on := 12, ground := Ground.phase }, { on := 13, ground := Ground.phase }, { on := 14, ground := Ground.phase }, { on := 15, ground := Ground.phase }, { on := 16, ground := Ground.phase }, { on := 17, ground := Ground.phase }, { on := 18, ground := Ground.phase }], guard := none }) (v := ?_) rfl (by kernel_rfl) (by kernel_rfl) (by kernel_rfl) (fun _ _ _ h => h) (Or.inl ⟨by rfl, ?_⟩) (by assumption) ?_
          rotate_left
          · intro W hSw; go_simp; try (with_reducible rfl)
          try simp only [Act.put, List.setIfInBounds_toArray, List.set_cons_zero, List.set_cons_succ]
          refine wpAnyH_done (by kernel_rfl) ?_ _
          go_wp2
          go_ret
          exact ⟨rfl, HB.out.trans ((SB.b6 hHeld).mono HB.out.size)⟩
      · refine step_make (by rfl) (.tmp 45) (.tmp 45) 22 (by rfl) 0 5 i5 (.int .u8 0) 1 Try.underlying22 HI5.out HZ5.out HS5.out n (by rfl) (by rfl) HB5.out HM5.out (Nat.zero_le _) ?_
        intro w5 hown5 hgrow5
        have hz5 := Lib.hid (own_zero hown5)
        have hbw5 := (Below.refl _ _).grown hgrow5 (Nat.le_refl _) (fun k hk => by cases hk)
        clear hown5 hgrow5
        have hHeld' := SB.step hHeld hbw5
        refine hK.out _ _ ?_ (fun _ => ?_)
        · exact hHeld'
        clear hK K
        try simp only [Act.put, List.setIfInBounds_toArray, List.set_cons_zero, List.set_cons_succ]
        have hHeld := SB.more hHeld'
        clear hHeld'
        refine wpAnyH_more (S' := SB [w5, w1, wr]) (fun W h => SB.less W h) _ _ _ _ ?_
        refine wpAnyH_ready (rs := [5]) (by kernel_rfl) (by simp) ?_
        refine AllReadyH.cons (o := { dst := some 37, op := Op.call { callee := Callee.value (Operand.func 9), args := #[Operand.tmp 36], argTypes := #[22] }, type := 23, pos := "late.go:14", after := #[{ on := 4, ground := Ground.data }, { on := 1, ground := Ground.chain }, { on := 1, ground := Ground.guard }], guard := some (1, true) }) rfl (fun K hK => ?_) AllReadyH.nil
        go_simp
        refine (sum_as SA.out _ _ (HA.out.below (SB.b2 hHeld))).mono ?_
        rintro x w2 ⟨rfl, hbw2⟩
        try (go_wp2_with fail)
        have hHeld' := SB.step hHeld hbw2
        refine hK.out _ _ ?_ (fun _ => ?_)
        · exact hHeld'
        clear hK K
        try simp only [Act.put, List.setIfInBounds_toArray, List.set_cons_zero, List.set_cons_succ]
        have hHeld := SB.more hHeld'
        clear hHeld'
        refine wpAnyH_more (S' := SB [w2, w5, w1, wr]) (fun W h => SB.less W h) _ _ _ _ ?_
        refine wpAnyH_ready (rs := [9]) (by kernel_rfl) (by simp) ?_
        refine AllReadyH.cons (o := { dst := some 41, op := Op.call { callee := Callee.value (Operand.func 9), args := #[Operand.tmp 40], argTypes := #[22] }, type := 23, pos := "late.go:14", after := #[{ on := 8, ground := Ground.data }, { on := 5, ground := Ground.chain }, { on := 1, ground := Ground.guard }], guard := some (1, true) }) rfl (fun K hK => ?_) AllReadyH.nil
        go_simp
        refine (sum_as SM.out _ _ (HM.out.below (SB.b3 hHeld))).mono ?_
        rintro x w3 ⟨rfl, hbw3⟩
        try (go_wp2_with fail)
        have hHeld' := SB.step hHeld hbw3
        refine hK.out _ _ ?_ (fun _ => ?_)
        · exact hHeld'
        clear hK K
        try simp only [Act.put, List.setIfInBounds_toArray, List.set_cons_zero, List.set_cons_succ]
        have hHeld := SB.more hHeld'
        clear hHeld'
        refine wpAnyH_more (S' := SB [w3, w2, w5, w1, wr]) (fun W h => SB.less W h) _ _ _ _ ?_
        refine wpAnyH_take (i := 10) (oi := { dst := some 42, op := Op.binOp BinOp.xor 23 (Operand.tmp 37) (Operand.tmp 41) 23, type := 23, pos := "late.go:14", after := #[{ on := 5, ground := Ground.data }, { on := 9, ground := Ground.data }, { on := 1, ground := Ground.guard }], guard := some (1, true) }) (v := ?_) rfl (by kernel_rfl) (by kernel_rfl) (by kernel_rfl) (fun _ _ _ h => h) (Or.inl ⟨by rfl, ?_⟩) (by assumption) ?_
        rotate_left
        · intro W hSw; go_simp; try (with_reducible rfl)
        try simp only [Act.put, List.setIfInBounds_toArray, List.set_cons_zero, List.set_cons_succ]
        refine wpAnyH_ready (rs := [12]) (by kernel_rfl) (by simp) ?_
        refine AllReadyH.cons (o := { dst := some 44, op := Op.call { callee := Callee.value (Operand.func 9), args := #[Operand.tmp 43], argTypes := #[22] }, type := 23, pos := "late.go:14", after := #[{ on := 11, ground := Ground.data }, { on := 9, ground := Ground.chain }, { on := 1, ground := Ground.guard }], guard := some (1, true) }) rfl (fun K hK => ?_) AllReadyH.nil
        go_simp
        refine (sum_as SX.out _ _ (HX.out.below (SB.b4 hHeld))).mono ?_
        rintro x w4 ⟨rfl, hbw4⟩
        try (go_wp2_with fail)
        have hHeld' := SB.step hHeld hbw4
        refine hK.out _ _ ?_ (fun _ => ?_)
        · exact hHeld'
        clear hK K
        try simp only [Act.put, List.setIfInBounds_toArray, List.set_cons_zero, List.set_cons_succ]
        have hHeld := SB.more hHeld'
        clear hHeld'
        refine wpAnyH_more (S' := SB [w4, w3, w2, w5, w1, wr]) (fun W h => SB.less W h) _ _ _ _ ?_
        refine wpAnyH_ready (rs := [15]) (by kernel_rfl) (by simp) ?_
        refine AllReadyH.cons (o := { dst := some 47, op := Op.call { callee := Callee.value (Operand.func 9), args := #[Operand.tmp 46], argTypes := #[22] }, type := 23, pos := "late.go:14", after := #[{ on := 14, ground := Ground.data }, { on := 12, ground := Ground.chain }, { on := 1, ground := Ground.guard }], guard := some (1, true) }) rfl (fun K hK => ?_) AllReadyH.nil
        go_simp
        refine (sum_as SZ.out _ _ (hz5.out.below (SB.b3 hHeld))).mono ?_
        rintro x w6 ⟨rfl, hbw6⟩
        try (go_wp2_with fail)
        have hHeld' := SB.step hHeld hbw6
        refine hK.out _ _ ?_ (fun _ => ?_)
        · exact hHeld'
        clear hK K
        try simp only [Act.put, List.setIfInBounds_toArray, List.set_cons_zero, List.set_cons_succ]
        have hHeld := SB.more hHeld'
        clear hHeld'
        refine wpAnyH_more (S' := SB [w6, w4, w3, w2, w5, w1, wr]) (fun W h => SB.less W h) _ _ _ _ ?_
        refine wpAnyH_take (i := 16) (oi := { dst := some 48, op := Op.binOp BinOp.xor 23 (Operand.tmp 44) (Operand.tmp 47) 23, type := 23, pos := "late.go:14", after := #[{ on := 12, ground := Ground.data }, { on := 15, ground := Ground.data }, { on := 1, ground := Ground.guard }], guard := some (1, true) }) (v := ?_) rfl (by kernel_rfl) (by kernel_rfl) (by kernel_rfl) (fun _ _ _ h => h) (Or.inl ⟨by rfl, ?_⟩) (by assumption) ?_
        rotate_left
        · intro W hSw; go_simp; try (with_reducible rfl)
        try simp only [Act.put, List.setIfInBounds_toArray, List.set_cons_zero, List.set_cons_succ]
        refine wpAnyH_take (i := 17) (oi := { dst := some 49, op := Op.binOp BinOp.eql 23 (Operand.tmp 42) (Operand.tmp 48) 23, type := 4, pos := "late.go:14", after := #[{ on := 10, ground := Ground.data }, { on := 16, ground := Ground.data }, { on := 1, ground := Ground.guard }], guard := some (1, true) }) (v := ?_) rfl (by kernel_rfl) (by kernel_rfl) (by kernel_rfl) (fun _ _ _ h => h) (Or.inl ⟨by rfl, ?_⟩) (by assumption) ?_
        rotate_left
        · intro W hSw; go_simp; try (with_reducible rfl)
        try simp only [Act.put, List.setIfInBounds_toArray, List.set_cons_zero, List.set_cons_succ]
        refine wpAnyH_take (i := 18) (oi := { dst := some 50, op := Op.pick (Operand.tmp 33) (Operand.tmp 49) (Operand.const (Value.bool false)), type := 4, pos := "late.go:14", after := #[{ on := 1, ground := Ground.data }, { on := 17, ground := Ground.data }], guard := none }) (v := ?_) rfl (by kernel_rfl) (by kernel_rfl) (by kernel_rfl) (fun _ _ _ h => h) (Or.inl ⟨by rfl, ?_⟩) (by assumption) ?_
        rotate_left
        · intro W hSw; go_simp; try (with_reducible rfl)
        try simp only [Act.put, List.setIfInBounds_toArray, List.set_cons_zero, List.set_cons_succ]
        refine wpAnyH_take (i := 19) (oi := { dst := some 4, op := Op.assign (Operand.tmp 50), type := 4, pos := "late.go:14", after := #[{ on := 18, ground := Ground.data }, { on := 15, ground := Ground.chain }, { on := 0, ground := Ground.phase }, { on := 1, ground := Ground.phase }, { on := 2, ground := Ground.phase }, { on := 3, ground := Ground.phase }, { on := 4, ground := Ground.phase }, { on := 5, ground := Ground.phase }, { on := 6, ground := Ground.phase }, { on := 7, ground := Ground.phase }, { on := 8, ground := Ground.phase }, { on := 9, ground := Ground.phase }, { on := 10, ground := Ground.phase }, { on := 11, ground := Ground.phase }, { on := 12, ground := Ground.phase }, { on := 13, ground := Ground.phase }, { on := 14, ground := Ground.phase }, { on := 15, ground := Ground.phase }, { on := 16, ground := Ground.phase }, { on := 17, ground := Ground.phase }, { on := 18, ground := Ground.phase }], guard := none }) (v := ?_) rfl (by kernel_rfl) (by kernel_rfl) (by kernel_rfl) (fun _ _ _ h => h) (Or.inl ⟨by rfl, ?_⟩) (by assumption) ?_
        rotate_left
        · intro W hSw; go_simp; try (with_reducible rfl)
        try simp only [Act.put, List.setIfInBounds_toArray, List.set_cons_zero, List.set_cons_succ]
        refine wpAnyH_done (by kernel_rfl) ?_ _
        go_wp2
        go_ret
        exact ⟨rfl, HB.out.trans ((SB.b6 hHeld).mono HB.out.size)⟩
theorem alike_walk (v : Value) (l : List UInt8) (u : Value) (m : List UInt8) (w : World) (hv : RB w v l) (hl : l.length ≤ 140737488351232) (hu : RB w u m) (hm : m.length ≤ 140737488351232) :
    Calls Try.prog 4 #[v, u] w fun e w' => e = .returned (.bool true) ∧ Below w.heap.size w w' := alike_law v l u m w hv hl hu hm
end Go.Proofs.Ytloklbjaabbgcaa
