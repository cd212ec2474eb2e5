/-
  CodeBack returns true, and changes nothing that was there, for every number, text and bytes.
-/
import Derived.Test.YtjanggdjbieceaaBackM
import Derived.Test.YtjanggdjbieceaaGetsW
import Derived.Test.YtjanggdjbieceaaSame
namespace Go.Proofs.Ytjanggdjbieceaa
open Go.RowKit Go.Rst

/-- The same memory. -/
structure HE (w wr X : World) : Prop where
  he : X.heap = wr.heap
  bel : Below w.heap.size w X
theorem HE.cell {w wr X : World} (h : HE w wr X) (p : Addr) : X.cell? p = wr.cell? p := World.cell?_of_block (by rw [h.he])
theorem gen_any {K : World → Prop} {W : World} (h : ∀ w', w' = W → K w') : K W := h _ rfl
theorem set_same {w : World} {g i : Nat} {cur : Array Value} {t : TypeId} {u : Value} (hg : w.heap[g]? = some (.cells cur t (0, 0))) (hc : cur[i]? = some u) : (w.setCell ⟨g, i, none⟩ u).heap = w.heap := by
  apply Array.ext_getElem?
  intro k
  by_cases hk : k = g
  · subst hk
    rw [heap_setCell_same w k i cur t u hg, hg]
    have : cur.setIfInBounds i u = cur := by
      apply Array.ext_getElem?
      intro m
      by_cases hm : i = m
      · subst hm
        rw [Array.getElem?_setIfInBounds_self_of_lt (Array.getElem?_eq_some_iff.1 hc).1, hc]
      · rw [Array.getElem?_setIfInBounds_ne hm]
    rw [this]
  · exact heap_setCell_other w _ k u hk
theorem HE.store {w wr w1 : World} {g i : Nat} {cur : Array Value} {t : TypeId} {u : Value} (hw : w1 = (wr.setCell ⟨g, i, none⟩ u).drew) (hg : wr.heap[g]? = some (.cells cur t (0, 0))) (hc : cur[i]? = some u)
    (hb : Below w.heap.size w wr) (hl : w.heap.size ≤ g) : HE w wr w1 := by
  subst hw
  exact ⟨set_same hg hc, (hb.setCell (p := ⟨g, i, none⟩) hl u).drew⟩
theorem FB.of_heap {e : TypeId} {w w' : World} {base : Nat} {v : Value} {l : List UInt8} (h : FB e w base v l) (he : w'.heap = w.heap) : FB e w' base v l := by unfold FB at h ⊢; rw [he]; exact h
theorem OR.of_heap {e eR : TypeId} {w w' : World} {base : Nat} {v : Value} {rs : List (ByteArray × List UInt8)} (h : OR e eR w base v rs) (he : w'.heap = w.heap) : OR e eR w' base v rs := by
  obtain ⟨us, h1, h2, h3⟩ := h
  refine ⟨us, h1, ?_, fun x hx => FB.of_heap (h3 x hx) he⟩
  unfold World.ownsRow at h2 ⊢
  rw [he]
  exact h2
theorem or_cells {e : TypeId} {w : World} {base : Nat} {v : Value} {rs : List (ByteArray × List UInt8)} (h : OR e 34 w base v rs) {j : Nat} (hj : j < rs.length) :
    ∃ g cap cur A c, v = .slice (some ⟨g, 0, none⟩) rs.length cap ∧ rs.length ≤ cap ∧ base ≤ g ∧ w.heap[g]? = some (.cells cur 34 (0, 0)) ∧ cur[j * 2 + 1]? = some (.slice A rs[j].2.length c) ∧ rs[j].2.length ≤ c ∧ c ≤ maxLen := by
  obtain ⟨us, rfl, ho, hf⟩ := h
  have hj' : j < us.length := by simpa using hj
  obtain ⟨A, c, hu, hc1, hc2, _⟩ := (hf us[j] (List.getElem_mem hj')).rb
  rcases ho.2 with ⟨_, h0⟩ | ⟨g, cap, cur, rfl, hb, hg, hnc, hcm, hcs, ht⟩
  · omega
  · refine ⟨g, cap, cur, A, c, by simp, by simpa using hnc, hb, hg, ?_, by simpa using hc1, hc2⟩
    have h1 := (rowCells_get us j hj').2
    rw [← ht, List.getElem?_take, if_pos (by omega), Array.getElem?_toList] at h1
    rw [h1, hu]
    simp
theorem rowsAt_short (l : List UInt8) (k : Nat) : Short (rowsAt l k) := by
  intro r hr
  simp only [rowsAt, List.mem_map] at hr
  obtain ⟨j, _, rfl⟩ := hr
  unfold rowOf
  refine ⟨by simp, ?_⟩
  simp only [fill_length]
  unfold rlen
  split <;> omega
theorem rowList_10 (v : Value) (l : List UInt8) (w : World) (hv : RB w v l) (hl : l.length ≤ 140737488351232) :
    Calls Try.prog 20 #[v, .int .i64 10] w (GivesRL w (rowsAt l (nrows l 10))) := rowList_any v l 10 (by decide) w hv hl
theorem rows_made (v : Value) (l : List UInt8) {n : Nat} (hn : n ≤ 100) (w : World) (hv : RR w v (rowsAt l (nrows l n))) :
    Calls Try.prog 14 #[v] w (NewB 5 w (madeB l n)) := by
  have h1 := rowsAt_len l (nrows l n)
  have h2 := nrows_le l n
  exact rows_any v _ (by omega) (by rw [rowsAt_length]; omega) w hv
theorem readRows_made (v : Value) (l : List UInt8) {n : Nat} (hn : n ≤ 100) (w : World) (hv : RB w v (madeB l n)) :
    Calls Try.prog 13 #[v] w (GivesRows w (rowsAt l (nrows l n), 0)) := by
  have h2 := nrows_le l n
  have h := readRows_any v (madeB l n) w hv
  unfold madeB at h
  rw [readRows_back _ (by rw [rowsAt_length]; omega) (rowsAt_short _ _)] at h
  exact h
theorem getNum_as {L : List UInt8} {p a b e : Int} (h : getNum L p = (a, b, e)) (v : Value) (w : World) (hv : RB w v L) : Calls Try.prog 16 #[v, .int .i64 p] w fun x w' => x = .returned (.tuple #[.int .i64 a, .int .i64 b, .int .u16 e]) ∧ w = w' := by
  have h1 := getNum_any v L p w hv
  rw [h] at h1
  exact h1
theorem getText_as {L t : List UInt8} {p m b e : Int} (h : getText L p m = (t, b, e)) (v : Value) (w : World) (hv : RB w v L) : Calls Try.prog 18 #[v, .int .i64 p, .int .i64 m] w fun x w' => x = .returned (.tuple #[.string ⟨t.toArray⟩, .int .i64 b, .int .u16 e]) ∧ w = w' := by
  have h1 := getText_any v L p m w hv
  rw [h] at h1
  exact h1
theorem readRows_as (v : Value) (rs : List (ByteArray × List UInt8)) (hn : rs.length ≤ 5000) (hs : Short rs) (w : World) (hv : RB w v (rowsL rs)) :
    Calls Try.prog 13 #[v] w (GivesRows w (rs, 0)) := by
  have h := readRows_any v (rowsL rs) w hv
  rw [readRows_back rs hn hs] at h
  exact h
theorem rr_below {w w' : World} {v : Value} {rs : List (ByteArray × List UInt8)} (h : RR w v rs) (hb : Below w.heap.size w w') : RR w' v rs := by
  obtain ⟨A, c, hv, h1, h2, h3⟩ := h
  refine ⟨A, c, hv, h1, h2, ?_⟩
  rcases h3 with h3 | ⟨b, off, e, hlt, hc⟩
  · exact .inl h3
  · refine .inr ⟨b, off, e, Nat.lt_of_lt_of_le hlt hb.size, fun j hj => ?_⟩
    obtain ⟨c0, u, c1, c2⟩ := hc j hj
    exact ⟨(hb.cell (p := ⟨b, off + j * 2, none⟩) hlt).trans c0, u, (hb.cell (p := ⟨b, off + j * 2 + 1, none⟩) hlt).trans c1, c2.below hb⟩
theorem bel_drewN {w : World} {n B : Nat} : Below B w (w.drewN n) := ⟨rfl, rfl, rfl, Nat.le_refl _, fun _ _ => rfl⟩
/-- min and max of two integers, the value given. -/
theorem wpList_min2 {P : Program} {w : World} {ops : Array Oper} {rest : List Oper} {o : Oper} {a : Act} {Q : Exit → Act → World → Prop} (hgd : o.guard = none) (x y : Operand) (ts : Array TypeId)
    (ho : o.op = .call { callee := .builtin .min, args := #[x, y], argTypes := ts }) {X Y n : Int} (hx : a.eval x = .int .i64 X) (hy : a.eval y = .int .i64 Y)
    (hn : (if Y < X then Y else X) = n) (h : wpList P ops Q rest (a.put o.dst (.int .i64 n)) w) : wpList P ops Q (o :: rest) a w := by
  refine wpList_plain hgd fun K hK => ?_
  unfold Oper.wp execOp
  simp only [ho, resolve, invoke, builtin, Sem.run_bind, Sem.run_pure, Result.andThen_ok, List.map_toArray, List.map_cons, List.map_nil, hx, hy, run_min_int2, hn]
  exact hK _ _ h
theorem wpList_max2 {P : Program} {w : World} {ops : Array Oper} {rest : List Oper} {o : Oper} {a : Act} {Q : Exit → Act → World → Prop} (hgd : o.guard = none) (x y : Operand) (ts : Array TypeId)
    (ho : o.op = .call { callee := .builtin .max, args := #[x, y], argTypes := ts }) {X Y n : Int} (hx : a.eval x = .int .i64 X) (hy : a.eval y = .int .i64 Y)
    (hn : (if Y > X then Y else X) = n) (h : wpList P ops Q rest (a.put o.dst (.int .i64 n)) w) : wpList P ops Q (o :: rest) a w := by
  refine wpList_plain hgd fun K hK => ?_
  unfold Oper.wp execOp
  simp only [ho, resolve, invoke, builtin, Sem.run_bind, Sem.run_pure, Result.andThen_ok, List.map_toArray, List.map_cons, List.map_nil, hx, hy, run_max_int2, hn]
  exact hK _ _ h

set_option maxRecDepth 100000 in
set_option maxHeartbeats 4000000 in
theorem back_walk (n : Int) (s : ByteArray) (va : Value) (l : List UInt8) (vc : Value) (c : List UInt8) (w : World)
    (hb : RB w va l) (hl : l.length ≤ 140737488351232) (hc : RB w vc c) (hcl : c.length ≤ 140737488351232) :
    Calls Try.prog 9 #[.int .i64 n, .string s, va, vc] w fun e w' => e = .returned (.bool true) ∧ Below w.heap.size w w' := by
  have HV := Lib.hid hb
  have HC := Lib.hid hc
  obtain ⟨A, cA, rfl, _, h2, _⟩ := hb
  obtain ⟨A', cA', rfl, _, h2', _⟩ := hc
  simp only [maxLen] at h2 h2'
  by_cases hbig : 300 < s.size ∨ 300 < l.length
  · by_cases h3 : 300 < s.size
    · have h3' : (300 : Int) < (s.size : Int) := by omega
      go_enter Try.func9, Try.ntmps9
      go_wp2_with fail
      refine (known_any _).mono ?_
      rintro e w1 ⟨rfl, hb⟩
      have HB := Lib.hid hb
      clear hb
      go_wp2
      go_ret
      exact ⟨rfl, HB.out⟩
    · have h4 : (300 : Int) < (l.length : Int) := by omega
      have h3' : ¬ (300 : Int) < (s.size : Int) := by omega
      go_enter Try.func9, Try.ntmps9
      go_wp2_with fail
      refine (known_any _).mono ?_
      rintro e w1 ⟨rfl, hb⟩
      have HB := Lib.hid hb
      clear hb
      go_wp2
      go_ret
      exact ⟨rfl, HB.out⟩
  · have h3' : ¬ (300 : Int) < (s.size : Int) := by omega
    have h4' : ¬ (300 : Int) < (l.length : Int) := by omega
    have hs3 : s.size ≤ 300 := by omega
    have hl3 : l.length ≤ 300 := by omega
    have hcl' := clip_le n
    have h8 := numL_len8 hcl'
    obtain ⟨x, hx⟩ : ∃ x, x = clip n := ⟨_, rfl⟩
    obtain ⟨m1, hm1⟩ : ∃ m1 : Int, (if n > 9007199254740992 then 9007199254740992 else n) = m1 := ⟨_, rfl⟩
    have hmax : (if m1 > 0 then m1 else 0) = (x : Int) := by
      rw [hx, ← hm1]
      unfold clip
      split <;> split <;> omega
    have HM1 := Lib.hid hm1
    have HMAX := Lib.hid hmax
    obtain ⟨t, ht⟩ : ∃ t, t = s.data.toList := ⟨_, rfl⟩
    have htl : t.length = s.size := by rw [ht, Array.length_toList]; rfl
    have htx := numL_len8 (n := t.length) (by omega)
    have hst : (⟨t.toArray⟩ : ByteArray) = s := by rw [ht]
    have hgn := getNum_back (n := x) (q := l.length) (L := l ++ numL x ++ textL t) (post := textL t) (by rw [List.append_assoc, List.drop_left]) (by omega)
    have hgt := getText_back (s := t) (q := l.length + (numL x).length) (L := l ++ numL x ++ textL t) (post := []) (by rw [← List.length_append, List.drop_left]; exact (List.append_nil _).symm) (by omega) (t.length : Int)
    rw [if_neg (by omega)] at hgt
    have hlen : (l ++ numL x ++ textL t).length = l.length + (numL x).length + (textL t).length := by rw [List.length_append, List.length_append]
    rw [← hlen, htl] at hgt
    have htt : (textL t).length ≤ 308 := by unfold textL; rw [List.length_append]; omega
    have hL : (l ++ numL x ++ textL t).length ≤ 700 := by rw [← hx] at h8; omega
    obtain ⟨q1, hq1⟩ : ∃ q, q = l.length + (numL x).length := ⟨_, rfl⟩
    rw [← hq1] at hgn hgt
    obtain ⟨LL, hLL⟩ : ∃ L, L = l ++ numL x ++ textL t := ⟨_, rfl⟩
    rw [← hLL] at hgn hgt hL
    have HGN := Lib.hid hgn
    have HGT := Lib.hid hgt
    have HLL := Lib.hid hLL.symm
    have HX := Lib.hid hx.symm
    have HTT := Lib.hid ht
    have HST := Lib.hid hst
    have HTL := Lib.hid htl
    rw [← hx] at h8
    clear hm1 hmax hgn hgt hlen hx ht hst htl htx hcl' hbig hLL hq1
    go_enter Try.func9, Try.ntmps9
    go_wp2_with (first
      | (refine wpList_min2 rfl (.tmp 33) (.const (.int .i64 9007199254740992)) _ rfl rfl rfl HM1.out ?_)
      | (refine wpList_max2 rfl (.const (.int .i64 0)) (.tmp 34) _ rfl rfl rfl HMAX.out ?_)
      | (at_builtin; refine wpList_own rfl (.tmp 36) (.tmp 37) 22 22 rfl w.heap.size 5 (.int .u8 0) 1 1 Try.underlying22 info5 rfl rfl (World.ownsRow_nil _ _ _ _) rfl (HV.out.src Try.underlying22) (Below.refl _ _) (Nat.le_refl _) ?_ ?_ ?_ ?_))
    · unfold maxLen; omega
    · omega
    · intro v1 w1 hown1 hb1 _
      have HB1 := Lib.hid hb1
      have hown1' : w1.ownsRow w.heap.size 5 1 v1 l.length (bvs l) := by simpa using hown1
      have HO1 := Lib.hid hown1'
      have HLT1 := Lib.hid hown1'.lt
      clear hown1 hb1 hown1'
      go_wp2_with fail
      refine (num_any n _).mono ?_
      rintro e w2 ⟨v2, rfl, hown2, hb2⟩
      rw [HX.out] at hown2
      have HB2 := Lib.hid (HB1.out.trans (hb2.mono HB1.out.size))
      have HO2 := Lib.hid (own_below HO1.out hb2)
      have HP2 := Lib.hid (RB.own hown2)
      have HZ2 := Lib.hid hb2.size
      obtain ⟨A2, c2, rfl, _⟩ := own_shape hown2
      clear hown2 hb2 HB1 HO1
      go_wp2_with fail
      refine (text_any s (by omega) _).mono ?_
      rintro e w3 ⟨v3, rfl, hown3, hb3⟩
      rw [← HTT.out] at hown3
      have HB3 := Lib.hid (HB2.out.trans (hb3.mono HB2.out.size))
      have HO3 := Lib.hid (own_below HO2.out hb3)
      have HP3 := Lib.hid (HP2.out.below hb3)
      have HQ3 := Lib.hid (RB.own hown3)
      obtain ⟨A3, c3, rfl, _⟩ := own_shape hown3
      have HQO := Lib.hid hown3
      have HSZ := Lib.hid (Nat.le_trans HB2.out.size hb3.size)
      clear hown3 hb3 HB2 HO2 HP2
      go_wp2_with (at_builtin; refine wpList_own rfl (.tmp 43) (.tmp 44) 22 22 rfl w.heap.size 5 (.int .u8 0) 1 1 Try.underlying22 info5 rfl rfl HO3.out rfl (HP3.out.src Try.underlying22) HB3.out (Nat.le_refl _) ?_ ?_ ?_ ?_)
      · unfold maxLen; omega
      · omega
      · exact HB3.out.size
      · intro v4 w4 hown4 hb4 hg4
        have hkept := HQO.out.kept hg4 (by
          by_cases h0 : v1.ownBlock = none
          · rw [h0]
            by_cases h1 : (Value.slice A3 (textL t).length c3).ownBlock = none
            · exact .inl h1
            · exact .inr h1
          · refine .inr fun he => ?_
            obtain ⟨z, hz⟩ := Option.ne_none_iff_exists'.1 h0
            have z1 := HLT1.out z hz
            have z2 := HQO.out.lt z (he.trans hz)
            have := HZ2.out
            omega)
        have HQ4 := Lib.hid (RB.own hkept)
        have HO4 := Lib.hid (own_cat hown4)
        have HB4 := Lib.hid hb4
        obtain ⟨A4, c4, rfl, _⟩ := own_shape hown4
        clear hown4 hb4 hg4 hkept HO3 HP3 HQ3 HQO HLT1 HZ2 HB3 HSZ
        go_wp2_with (at_builtin; refine wpList_own rfl (.tmp 46) (.tmp 47) 22 22 rfl w.heap.size 5 (.int .u8 0) 1 1 Try.underlying22 info5 rfl rfl HO4.out rfl (HQ4.out.src Try.underlying22) HB4.out (Nat.le_refl _) ?_ ?_ ?_ ?_)
        · rw [List.length_append]; unfold maxLen; omega
        · rw [List.length_append]; omega
        · exact HB4.out.size
        · intro v5 w5 hown5 hb5 _
          have ho5 := own_cat (l := l ++ numL x) (m := textL t) (by rw [List.length_append]; exact hown5)
          rw [HLL.out] at ho5
          have HR5 := Lib.hid (RB.own ho5)
          have HB5 := Lib.hid hb5
          obtain ⟨A5, c5, rfl, _⟩ := own_shape ho5
          clear hown5 hb5 ho5 HO4 HQ4 HB4
          go_wp2_with fail
          refine (getNum_as HGN.out _ _ HR5.out).mono ?_
          rintro e w6 ⟨rfl, rfl⟩
          go_wp2_with fail
          refine (getText_as HGT.out _ _ HR5.out).mono ?_
          rintro e w6 ⟨rfl, rfl⟩
          rw [HST.out]
          go_wp2_with fail
          refine (rowList_10 _ c _ (HC.out.below HB5.out) hcl).mono ?_
          rintro e w6 ⟨v6, rfl, hor, hb6⟩
          have hB := rowsAt_len c (nrows c 10)
          have hN := nrows_le c 10
          have hlen := rowsAt_length c (nrows c 10)
          have hshort := rowsAt_short c (nrows c 10)
          generalize rowsAt c (nrows c 10) = rs at *
          have hrs10 : rs.length ≤ 10 := by omega
          have hrsB : (rowsB rs).length ≤ 2000 := by omega
          have HSH := Lib.hid hshort
          have HBase := Lib.hid HB5.out.size
          have HB6 := Lib.hid (HB5.out.trans (hb6.mono HB5.out.size))
          have HO6 := Lib.hid hor
          obtain ⟨A6, c6, rfl⟩ := or_shape hor
          clear hor hb6 hB hN hlen hshort
          obtain ⟨B, hBe⟩ : ∃ B, B = w5.heap.size := ⟨_, rfl⟩
          rw [← hBe] at HO6 HBase
          clear hBe
          go_wp2
          go_loopw [20] (fun i wr => ∃ j : Nat, j ≤ rs.length ∧ i = .int .i64 j ∧ OR 5 34 wr B (.slice A6 rs.length c6) rs ∧ Below w.heap.size w wr) (fun i _ => rs.length - (intOf i).toNat)
          case atStart => exact ⟨0, Nat.zero_le _, rfl, HO6.out, HB6.out⟩
          case round =>
            clear HO6 HB6
            obtain ⟨j, hj, rfl, hor, hbel⟩ := hrel
            by_cases hlt : j < rs.length
            · obtain ⟨g, cap, cur, A7, c7, hsl, hcap, hgB, hblk, hcv, hc71, hc72⟩ := or_cells hor hlt
              injection hsl with e1 _ e3
              subst e1
              subst e3
              have hsh := (HSH.out rs[j] (List.getElem_mem hlt)).2
              generalize rs[j].2.length = m at *
              have HBG := Lib.hid (Nat.le_trans HBase.out hgB)
              have HCU := Lib.hid ((cell_of_row wr g (j * 2 + 1) cur 34 (0, 0) hblk).trans hcv)
              have HFZ := Lib.hid (frozen_of_row wr g (j * 2 + 1) cur 34 hblk)
              have HBK := Lib.hid hblk
              have HCV := Lib.hid hcv
              have HBR := Lib.hid hbel
              have HOR := Lib.hid hor
              have b1 : (0 : Int) ≤ (j : Int) := by omega
              have b2 : (j : Int) < (rs.length : Int) := by omega
              have b3 : ¬ (150 : Int) < (m : Int) := by omega
              have b4 : (0 : Int) ≤ (m : Int) := by omega
              have b5 : (m : Int) ≤ (c7 : Int) := by omega
              simp only [maxLen] at hc72
              clear hblk hcv hbel hor hsh
              go_wp2
              refine wp_region_held_drew (S := HE w wr) (by kernel_rfl) ⟨rfl, HBR.out.drew⟩ (fun hHeld => ?_)
              refine wpAnyH_take (i := 0) (oi := { dst := some 74, op := Op.move (Operand.tmp 19), type := 29, pos := "law.go:138", after := #[], guard := none }) (v := ?_) rfl (by kernel_rfl) (by kernel_rfl) (by kernel_rfl) (fun _ _ _ h => h) (Or.inl ⟨by rfl, ?_⟩) (by assumption) ?_
              rotate_left
              · intro X hSw; go_simp; try (with_reducible rfl)
              try simp only [Act.put, List.setIfInBounds_toArray, List.set_cons_zero, List.set_cons_succ]
              refine wpAnyH_take (i := 1) (oi := { dst := some 75, op := Op.move (Operand.tmp 20), type := 3, pos := "law.go:138", after := #[], guard := none }) (v := ?_) rfl (by kernel_rfl) (by kernel_rfl) (by kernel_rfl) (fun _ _ _ h => h) (Or.inl ⟨by rfl, ?_⟩) (by assumption) ?_
              rotate_left
              · intro X hSw; go_simp; try (with_reducible rfl)
              try simp only [Act.put, List.setIfInBounds_toArray, List.set_cons_zero, List.set_cons_succ]
              refine wpAnyH_take (i := 2) (oi := { dst := some 76, op := Op.move (Operand.tmp 19), type := 29, pos := "law.go:138", after := #[], guard := none }) (v := ?_) rfl (by kernel_rfl) (by kernel_rfl) (by kernel_rfl) (fun _ _ _ h => h) (Or.inl ⟨by rfl, ?_⟩) (by assumption) ?_
              rotate_left
              · intro X hSw; go_simp; try (with_reducible rfl)
              try simp only [Act.put, List.setIfInBounds_toArray, List.set_cons_zero, List.set_cons_succ]
              refine wpAnyH_take (i := 3) (oi := { dst := some 77, op := Op.move (Operand.tmp 20), type := 3, pos := "law.go:138", after := #[], guard := none }) (v := ?_) rfl (by kernel_rfl) (by kernel_rfl) (by kernel_rfl) (fun _ _ _ h => h) (Or.inl ⟨by rfl, ?_⟩) (by assumption) ?_
              rotate_left
              · intro X hSw; go_simp; try (with_reducible rfl)
              try simp only [Act.put, List.setIfInBounds_toArray, List.set_cons_zero, List.set_cons_succ]
              refine wpAnyH_take (i := 4) (oi := { dst := some 78, op := Op.indexAddr 29 (Operand.tmp 76) (Operand.tmp 77), type := 0, pos := "law.go:138", after := #[{ on := 2, ground := Ground.data }, { on := 3, ground := Ground.data }], guard := none }) (v := ?_) rfl (by kernel_rfl) (by kernel_rfl) (by kernel_rfl) (fun _ _ _ h => h) (Or.inl ⟨by rfl, ?_⟩) (by assumption) ?_
              rotate_left
              · intro X hSw; go_simp; try (with_reducible rfl)
              try simp only [Act.put, List.setIfInBounds_toArray, List.set_cons_zero, List.set_cons_succ]
              refine wpAnyH_take (i := 5) (oi := { dst := some 79, op := Op.fieldAddr 34 (Operand.tmp 78) 1, type := 0, pos := "law.go:138", after := #[{ on := 4, ground := Ground.data }], guard := none }) (v := ?_) rfl (by kernel_rfl) (by kernel_rfl) (by kernel_rfl) (fun _ _ _ h => h) (Or.inl ⟨by rfl, ?_⟩) (by assumption) ?_
              rotate_left
              · intro X hSw; go_simp; try (with_reducible rfl)
              try simp only [Act.put, List.setIfInBounds_toArray, List.set_cons_zero, List.set_cons_succ]
              refine wpAnyH_take (i := 6) (oi := { dst := some 80, op := Op.load 22 (Operand.tmp 79), type := 22, pos := "law.go:138", after := #[{ on := 5, ground := Ground.data }], guard := none }) (v := ?_) rfl (by kernel_rfl) (by kernel_rfl) (by kernel_rfl) (fun _ _ _ h => h) (Or.inl ⟨by rfl, ?_⟩) (by assumption) ?_
              rotate_left
              · intro X hSw; have hq := (hSw.cell ⟨g, j * 2 + 1, none⟩).trans HCU.out; go_simp; try (with_reducible rfl)
              try simp only [Act.put, List.setIfInBounds_toArray, List.set_cons_zero, List.set_cons_succ]
              refine wpAnyH_take (i := 7) (oi := { dst := some 81, op := Op.move (Operand.tmp 19), type := 29, pos := "law.go:138", after := #[], guard := none }) (v := ?_) rfl (by kernel_rfl) (by kernel_rfl) (by kernel_rfl) (fun _ _ _ h => h) (Or.inl ⟨by rfl, ?_⟩) (by assumption) ?_
              rotate_left
              · intro X hSw; go_simp; try (with_reducible rfl)
              try simp only [Act.put, List.setIfInBounds_toArray, List.set_cons_zero, List.set_cons_succ]
              refine wpAnyH_take (i := 8) (oi := { dst := some 82, op := Op.move (Operand.tmp 20), type := 3, pos := "law.go:138", after := #[], guard := none }) (v := ?_) rfl (by kernel_rfl) (by kernel_rfl) (by kernel_rfl) (fun _ _ _ h => h) (Or.inl ⟨by rfl, ?_⟩) (by assumption) ?_
              rotate_left
              · intro X hSw; go_simp; try (with_reducible rfl)
              try simp only [Act.put, List.setIfInBounds_toArray, List.set_cons_zero, List.set_cons_succ]
              refine wpAnyH_take (i := 9) (oi := { dst := some 83, op := Op.indexAddr 29 (Operand.tmp 81) (Operand.tmp 82), type := 0, pos := "law.go:138", after := #[{ on := 7, ground := Ground.data }, { on := 8, ground := Ground.data }], guard := none }) (v := ?_) rfl (by kernel_rfl) (by kernel_rfl) (by kernel_rfl) (fun _ _ _ h => h) (Or.inl ⟨by rfl, ?_⟩) (by assumption) ?_
              rotate_left
              · intro X hSw; go_simp; try (with_reducible rfl)
              try simp only [Act.put, List.setIfInBounds_toArray, List.set_cons_zero, List.set_cons_succ]
              refine wpAnyH_take (i := 10) (oi := { dst := some 84, op := Op.fieldAddr 34 (Operand.tmp 83) 1, type := 0, pos := "law.go:138", after := #[{ on := 9, ground := Ground.data }], guard := none }) (v := ?_) rfl (by kernel_rfl) (by kernel_rfl) (by kernel_rfl) (fun _ _ _ h => h) (Or.inl ⟨by rfl, ?_⟩) (by assumption) ?_
              rotate_left
              · intro X hSw; go_simp; try (with_reducible rfl)
              try simp only [Act.put, List.setIfInBounds_toArray, List.set_cons_zero, List.set_cons_succ]
              refine wpAnyH_take (i := 11) (oi := { dst := some 85, op := Op.load 22 (Operand.tmp 84), type := 22, pos := "law.go:138", after := #[{ on := 10, ground := Ground.data }], guard := none }) (v := ?_) rfl (by kernel_rfl) (by kernel_rfl) (by kernel_rfl) (fun _ _ _ h => h) (Or.inl ⟨by rfl, ?_⟩) (by assumption) ?_
              rotate_left
              · intro X hSw; have hq := (hSw.cell ⟨g, j * 2 + 1, none⟩).trans HCU.out; go_simp; try (with_reducible rfl)
              try simp only [Act.put, List.setIfInBounds_toArray, List.set_cons_zero, List.set_cons_succ]
              refine wpAnyH_take (i := 12) (oi := { dst := some 86, op := Op.call { callee := Callee.builtin Builtin.len, args := #[Operand.tmp 85], argTypes := #[22] }, type := 3, pos := "law.go:138", after := #[{ on := 11, ground := Ground.data }], guard := none }) (v := ?_) rfl (by kernel_rfl) (by kernel_rfl) (by kernel_rfl) (fun _ _ _ h => h) (Or.inl ⟨by rfl, ?_⟩) (by assumption) ?_
              rotate_left
              · intro X hSw; go_simp; try (with_reducible rfl)
              try simp only [Act.put, List.setIfInBounds_toArray, List.set_cons_zero, List.set_cons_succ]
              refine wpAnyH_take (i := 13) (oi := { dst := some 87, op := Op.call { callee := Callee.builtin Builtin.min, args := #[Operand.tmp 86, Operand.const (Value.int IntKind.i64 150)], argTypes := #[3, 3] }, type := 3, pos := "law.go:138", after := #[{ on := 12, ground := Ground.data }], guard := none }) (v := ?_) rfl (by kernel_rfl) (by kernel_rfl) (by kernel_rfl) (fun _ _ _ h => h) (Or.inl ⟨by rfl, ?_⟩) (by assumption) ?_
              rotate_left
              · intro X hSw; have hq13 : (if (150 : Int) < (m : Int) then 150 else (m : Int)) = (m : Int) := if_neg (by omega); go_simp; try (with_reducible rfl)
              try simp only [Act.put, List.setIfInBounds_toArray, List.set_cons_zero, List.set_cons_succ]
              refine wpAnyH_take (i := 14) (oi := { dst := some 88, op := Op.slice 22 (Operand.tmp 80) none (some (Operand.tmp 87)) none, type := 22, pos := "law.go:138", after := #[{ on := 6, ground := Ground.data }, { on := 13, ground := Ground.data }], guard := none }) (v := ?_) rfl (by kernel_rfl) (by kernel_rfl) (by kernel_rfl) (fun _ _ _ h => h) (Or.inl ⟨by rfl, ?_⟩) (by assumption) ?_
              rotate_left
              · intro X hSw; go_simp; try (with_reducible rfl)
              try simp only [Act.put, List.setIfInBounds_toArray, List.set_cons_zero, List.set_cons_succ]
              refine wpAnyH_take (i := 15) (oi := { dst := some 89, op := Op.indexAddr 29 (Operand.tmp 74) (Operand.tmp 75), type := 0, pos := "law.go:138", after := #[{ on := 0, ground := Ground.data }, { on := 1, ground := Ground.data }, { on := 0, ground := Ground.phase }, { on := 1, ground := Ground.phase }, { on := 2, ground := Ground.phase }, { on := 3, ground := Ground.phase }, { on := 4, ground := Ground.phase }, { on := 5, ground := Ground.phase }, { on := 6, ground := Ground.phase }, { on := 7, ground := Ground.phase }, { on := 8, ground := Ground.phase }, { on := 9, ground := Ground.phase }, { on := 10, ground := Ground.phase }, { on := 11, ground := Ground.phase }, { on := 12, ground := Ground.phase }, { on := 13, ground := Ground.phase }, { on := 14, ground := Ground.phase }], guard := none }) (v := ?_) rfl (by kernel_rfl) (by kernel_rfl) (by kernel_rfl) (fun _ _ _ h => h) (Or.inl ⟨by rfl, ?_⟩) (by assumption) ?_
              rotate_left
              · intro X hSw; go_simp; try (with_reducible rfl)
              try simp only [Act.put, List.setIfInBounds_toArray, List.set_cons_zero, List.set_cons_succ]
              refine wpAnyH_take (i := 16) (oi := { dst := some 90, op := Op.fieldAddr 34 (Operand.tmp 89) 1, type := 0, pos := "law.go:138", after := #[{ on := 15, ground := Ground.data }, { on := 0, ground := Ground.phase }, { on := 1, ground := Ground.phase }, { on := 2, ground := Ground.phase }, { on := 3, ground := Ground.phase }, { on := 4, ground := Ground.phase }, { on := 5, ground := Ground.phase }, { on := 6, ground := Ground.phase }, { on := 7, ground := Ground.phase }, { on := 8, ground := Ground.phase }, { on := 9, ground := Ground.phase }, { on := 10, ground := Ground.phase }, { on := 11, ground := Ground.phase }, { on := 12, ground := Ground.phase }, { on := 13, ground := Ground.phase }, { on := 14, ground := Ground.phase }], guard := none }) (v := ?_) rfl (by kernel_rfl) (by kernel_rfl) (by kernel_rfl) (fun _ _ _ h => h) (Or.inl ⟨by rfl, ?_⟩) (by assumption) ?_
              rotate_left
              · intro X hSw; go_simp; try (with_reducible rfl)
              try simp only [Act.put, List.setIfInBounds_toArray, List.set_cons_zero, List.set_cons_succ]
              have hqc := HCU.out
              have hqf := HFZ.out
              refine wpAnyH_ready (rs := [17]) (by kernel_rfl) (by simp) ?_
              refine AllReadyH.cons (o := { dst := none, op := Op.store 22 (Operand.tmp 90) (Operand.tmp 88), type := 0, pos := "law.go:138", after := #[{ on := 16, ground := Ground.data }, { on := 14, ground := Ground.data }, { on := 0, ground := Ground.phase }, { on := 1, ground := Ground.phase }, { on := 2, ground := Ground.phase }, { on := 3, ground := Ground.phase }, { on := 4, ground := Ground.phase }, { on := 5, ground := Ground.phase }, { on := 6, ground := Ground.phase }, { on := 7, ground := Ground.phase }, { on := 8, ground := Ground.phase }, { on := 9, ground := Ground.phase }, { on := 10, ground := Ground.phase }, { on := 11, ground := Ground.phase }, { on := 12, ground := Ground.phase }, { on := 13, ground := Ground.phase }, { on := 14, ground := Ground.phase }], guard := none }) rfl (fun K hK => ?_) AllReadyH.nil
              go_simp
              refine gen_any ?_
              intro w1 hw1
              refine hK.out _ _ ?_ (fun _ => ?_)
              · exact HE.store hw1 HBK.out HCV.out HBR.out HBG.out
              clear hK K
              try simp only [Act.put, List.setIfInBounds_toArray, List.set_cons_zero, List.set_cons_succ]
              have hHeld := HE.store hw1 HBK.out HCV.out HBR.out HBG.out
              clear hw1 hqc hqf
              refine wpAnyH_done (by kernel_rfl) ?_ _
              go_wp2
              go_roundw
              case rel => exact ⟨j + 1, by omega, by go_num, OR.of_heap HOR.out hHeld.he, hHeld.bel⟩
              case measure => simp [intOf]; omega
            · have HRR := Lib.hid hor.rr
              have HB6 := Lib.hid hbel
              clear hor hbel
              go_wp2_with fail
              refine (rows_any _ rs (by omega) (by omega) _ HRR.out).mono ?_
              rintro e w7 ⟨v7, rfl, hown7, hb7⟩
              have HR7 := Lib.hid (RB.own hown7)
              have HRR7 := Lib.hid (rr_below HRR.out hb7)
              have HB7 := Lib.hid (HB6.out.trans (hb7.mono HB6.out.size))
              obtain ⟨A7, c7, rfl, _⟩ := own_shape hown7
              clear hown7 hb7 HRR HB6
              go_wp2_with fail
              refine (readRows_as _ rs (by omega) HSH.out _ HR7.out).mono ?_
              rintro e w8 ⟨v8, rfl, hor8, hb8⟩
              have HR8 := Lib.hid hor8.rr
              have HRR8 := Lib.hid (rr_below HRR7.out hb8)
              have HB8 := Lib.hid (HB7.out.trans (hb8.mono HB7.out.size))
              obtain ⟨A8, c8, rfl⟩ := or_shape hor8
              clear hor8 hb8 HR7 HRR7 HB7
              go_wp2_with fail
              refine (sameRows_any _ _ rs _ HRR8.out HR8.out).mono ?_
              rintro e w9 ⟨rfl, mm, rfl⟩
              go_wp2_with fail
              refine (known_any _).mono ?_
              rintro e w9 ⟨rfl, hb9⟩
              have hb10 : Below w8.heap.size w8 w9 := bel_drewN.trans hb9
              have HB9 := Lib.hid (HB8.out.trans (hb10.mono HB8.out.size))
              clear hb9 hb10
              go_wp2
              go_ret
              exact ⟨rfl, HB9.out⟩
end Go.Proofs.Ytjanggdjbieceaa
