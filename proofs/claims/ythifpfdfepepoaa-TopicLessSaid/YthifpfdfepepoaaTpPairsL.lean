/-
  The contract of the statements' own Pairs (layer topic): its text.
-/
import Derived.Test.YthifpfdfepepoaaTpM
import Derived.Test.YthifpfdfepepoaaWords
import Derived.Test.YthifpfdfepepoaaRg
import Derived.Test.YthifpfdfepepoaaTpSplit
set_option linter.unusedVariables false
namespace Go.Tp
open Go
def digB (b : UInt8) : UInt8 := if b.toNat / 8 % 4 = 0 then 49 else if b.toNat / 8 % 4 = 1 then 50 else if b.toNat / 8 % 4 = 2 then 120 else 121
def nextB (last b : UInt8) : UInt8 := if 245 < b.toNat then last + (b % 3 + 1) - 3 else last + (b % 3 + 1)
def prS (st : List UInt8 × UInt8) (b : UInt8) : List UInt8 × UInt8 := ((if st.1 = [] then [] else st.1 ++ [44]) ++ [nextB st.2 b, 61, digB b], nextB st.2 b)
def prF (l : List UInt8) : List UInt8 × UInt8 := l.foldl prS ([], 97)
theorem prF_snoc (l : List UInt8) (b : UInt8) : prF (l ++ [b]) = prS (prF l) b := by simp [prF]
theorem prF_len' : ∀ (l : List UInt8) (st : List UInt8 × UInt8), (l.foldl prS st).1.length ≤ st.1.length + 4 * l.length
  | [], st => by simp
  | b :: l, st => by
    have := prF_len' l (prS st b)
    have h : (prS st b).1.length ≤ st.1.length + 4 := by
      simp only [prS]
      split
      · simp
      · simp
    simp only [List.foldl_cons, List.length_cons]
    omega
theorem prF_len (l : List UInt8) : (prF l).1.length ≤ 4 * l.length := by
  have := prF_len' l ([], 97)
  simpa [prF] using this
theorem prF_ne' : ∀ (l : List UInt8) (st : List UInt8 × UInt8), (st.1 ≠ [] ∨ l ≠ []) → (l.foldl prS st).1 ≠ []
  | [], st, h => by rcases h with h | h; exact h; exact absurd rfl h
  | b :: l, st, _ => by
    rw [List.foldl_cons]
    exact prF_ne' l _ (.inl (by simp [prS]))
theorem prF_ne {l : List UInt8} (h : l ≠ []) : (prF l).1 ≠ [] := prF_ne' l _ (.inr h)
theorem nextB_big {y x : UInt8} (h : 245 < x.toNat) : (((y.toNat : Int) + ((x.toNat : Int) % 3 + 1)) % 256 - 3) % 256 = ((nextB y x).toNat : Int) := by
  unfold nextB
  rw [if_pos h, UInt8.toNat_sub, UInt8.toNat_add, UInt8.toNat_add, UInt8.toNat_mod]
  simp
  omega
theorem nextB_small {y x : UInt8} (h : ¬ 245 < x.toNat) : ((y.toNat : Int) + ((x.toNat : Int) % 3 + 1)) % 256 = ((nextB y x).toNat : Int) := by
  unfold nextB
  rw [if_neg h, UInt8.toNat_add, UInt8.toNat_add, UInt8.toNat_mod]
  simp
end Go.Tp
namespace Go.Proofs.Ythifpfdfepepoaa
open Go.RowKit Go.Rst Go.Tp
theorem SB.al {ws : List World} {w w' : World} (h : SB ws w.drew) (hb : Below w.heap.size w w') : SB (w' :: ws) w'.drew := fun x hx => by
  rcases List.mem_cons.1 hx with rfl | hx
  · exact (Below.refl _ _).drew
  · have h1 := h x hx
    have h2 : Below w.drew.heap.size w.drew w'.drew := ⟨hb.os, hb.tape, hb.output, hb.size, hb.block⟩
    exact h1.trans (h2.mono h1.size)
theorem wrap_u8_nat {n : Nat} (h : n < 256) : IntKind.u8.wrap (n : Int) = (n : Int) := by
  rw [IntKind.wrap_u8]; omega
theorem dig_cell (w : World) (x : UInt8) : (w.alloc (.cells #[.string ⟨#[49]⟩, .string ⟨#[50]⟩, .string ⟨#[120]⟩, .string ⟨#[121]⟩] 9)).cell? ⟨w.heap.size, x.toNat / 8 % 4, none⟩ = some (.string ⟨#[digB x]⟩) := by
  have e := (show Blk (w.alloc (Obj.cells #[.string ⟨#[49]⟩, .string ⟨#[50]⟩, .string ⟨#[120]⟩, .string ⟨#[121]⟩] 9)) w.heap.size 9 #[.string ⟨#[49]⟩, .string ⟨#[50]⟩, .string ⟨#[120]⟩, .string ⟨#[121]⟩] from heap_alloc_new w _).cell (x.toNat / 8 % 4)
  unfold digB
  rcases (show x.toNat / 8 % 4 = 0 ∨ x.toNat / 8 % 4 = 1 ∨ x.toNat / 8 % 4 = 2 ∨ x.toNat / 8 % 4 = 3 by omega) with hd | hd | hd | hd <;> rw [hd] at e ⊢ <;> exact e
theorem one_lit (w : World) (z : UInt8) : RB (w.alloc (.cells #[.int .u8 z.toNat] 5)) (.slice (some ⟨w.heap.size, 0, none⟩) 1 1) [z] := RB.lit w 5 (0, 0) [z] _ rfl 1 rfl (by decide)
end Go.Proofs.Ythifpfdfepepoaa
namespace Go.Proofs.Ythifpfdfepepoaa
open Go.RowKit Go.Rst Go.Tp
set_option maxRecDepth 100000 in
set_option maxHeartbeats 4000000 in
theorem pairsL_any {cv : Value} {l : List UInt8} {w : World} (h : RB w cv l) : Calls Try.prog 17 #[cv] w fun e w' => e = .returned (sv (prF (l.take 5)).1) ∧ Below w.heap.size w w' := by
  have HV := Lib.hid h
  obtain ⟨A, c, rfl, _⟩ := id h
  clear h
  go_enter Try.func17, Try.ntmps17
  go_wp2_with fail
  go_loopw [3, 4, 5] (fun s la i wr => ∃ (k : Nat), k ≤ l.length ∧ k ≤ 5 ∧ i = .int .i64 k ∧ s = sv (prF (l.take k)).1 ∧ la = .int .u8 ((prF (l.take k)).2.toNat : Int) ∧ Below w.heap.size w wr) (fun _ _ i _ => l.length - (intOf i).toNat)
  case atStart => exact ⟨0, Nat.zero_le _, Nat.zero_le _, rfl, rfl, rfl, Below.refl _ _⟩
  case round =>
    obtain ⟨k, hk, hk5, rfl, rfl, rfl, hbel⟩ := hrel
    have HBl := Lib.hid hbel
    clear hbel
    have hpl := prF_len (l.take k)
    rw [List.length_take] at hpl
    by_cases hlt : k < l.length
    · have q1 : (k : Int) < (l.length : Int) := by omega
      by_cases h5 : k < 5
      · have q2 : (k : Int) < 5 := by omega
        obtain ⟨b, off, rfl, hb, hcell⟩ := rb_cell (HV.out.below HBl.out) hlt
        have hsn : prF (l.take (k + 1)) = prS (prF (l.take k)) l[k] := by rw [List.take_succ_eq_append_getElem hlt, prF_snoc]
        unfold bv at hcell
        obtain ⟨x, hx⟩ : ∃ x, x = l[k] := ⟨_, rfl⟩
        rw [← hx] at hcell hsn
        have hn : x.toNat < 256 := UInt8.toNat_lt _
        obtain ⟨s, hs⟩ : ∃ s, s = (prF (l.take k)).1 := ⟨_, rfl⟩
        obtain ⟨y, hy⟩ : ∃ y, y = (prF (l.take k)).2 := ⟨_, rfl⟩
        rw [← hs, ← hy]
        rw [← hs] at hpl
        have hyn : y.toNat < 256 := UInt8.toNat_lt _
        have hsl : s.length ≤ 16 := by omega
        have HS := Lib.hid hs
        have HY := Lib.hid hy
        have HSN0 := Lib.hid hsn
        have HX := Lib.hid hx
        obtain ⟨q, hq0⟩ : ∃ q, q = x.toNat / 8 := ⟨_, rfl⟩
        obtain ⟨d, hd0⟩ : ∃ d, d = x.toNat / 8 % 4 := ⟨_, rfl⟩
        have hq8 : IntKind.u8.wrap ((x.toNat : Int) / 8) = (q : Int) := by
          have : (x.toNat : Int) / 8 = (q : Int) := by omega
          rw [this]; exact wrap_u8_nat (by omega)
        have hq4 : (q : Int).tmod 4 = (d : Int) := by rw [hd0, ← hq0]; rfl
        have hd4 : d < 4 := by omega
        have hd4' : (d : Int) < 4 := by omega
        have HDD := Lib.hid hd0
        clear hq0 hd0
        by_cases z1 : 0 < k
        · have z1' : (0 : Int) < (k : Int) := by omega
          have hsne : ¬ s = [] := by rw [hs]; exact prF_ne (List.ne_nil_of_length_pos (by rw [List.length_take]; omega))
          have hct := ext_cat s [44]
          clear hs hy hsn hx
          by_cases z2 : 245 < x.toNat
          · have z2' : (245 : Int) < (x.toNat : Int) := by omega
            have HSN1 := Lib.hid (show prF (l.take (k + 1)) = (s ++ [44] ++ [nextB y x] ++ [61] ++ [digB x], nextB y x) by rw [HSN0.out]; simp [prS, ← HS.out, ← HY.out, hsne])
            have hz := nextB_big (y := y) (x := x) z2
            obtain ⟨z, hzz⟩ : ∃ z, z = nextB y x := ⟨_, rfl⟩
            rw [← hzz] at hz HSN1
            clear hzz hsne z2
            obtain ⟨s2, hs2⟩ : ∃ s2, s2 = s ++ [44] := ⟨_, rfl⟩
            rw [← hs2] at hct HSN1
            have hl2 : s2.length ≤ 17 := by rw [hs2]; simp; omega
            clear hs2
            have hc1 := ext_cat s2 [z]
            have hc2 := ext_cat (s2 ++ [z]) [61]
            have hc3 := ext_cat (s2 ++ [z] ++ [61]) [digB x]
            obtain ⟨s3, hs3⟩ : ∃ s3, s3 = s2 ++ [z] := ⟨_, rfl⟩
            rw [← hs3] at hc1 hc2 hc3 HSN1
            have hl3 : s3.length ≤ 18 := by rw [hs3]; simp; omega
            clear hs3
            obtain ⟨s4, hs4⟩ : ∃ s4, s4 = s3 ++ [61] := ⟨_, rfl⟩
            rw [← hs4] at hc2 hc3 HSN1
            have hl4 : s4.length ≤ 19 := by rw [hs4]; simp; omega
            clear hs4
            obtain ⟨s5, hs5⟩ : ∃ s5, s5 = s4 ++ [digB x] := ⟨_, rfl⟩
            rw [← hs5] at hc3 HSN1
            clear hs5
            have HSN := HSN1
            clear HSN1
            have n2 : ¬ 9223372036854775807 < s2.length + 1 := by omega
            have n3 : ¬ 9223372036854775807 < s3.length + 1 := by omega
            have n4 : ¬ 9223372036854775807 < s4.length + 1 := by omega
            go_wp2_with fail
            refine wp_region_held_drew (S := SB [wr]) (by kernel_rfl) (SB.start _) (fun hHeld => ?_)
            refine tkC 0 ?_
            refine tkC 1 ?_
            refine tkC 7 ?_
            refine tkC 8 ?_
            refine tkC 9 ?_
            refine tkA 10 (v := ?_) ?_ ?_
            rotate_left
            · intro W hSw; have hq := (SB.b0 hSw).cell (p := ⟨b, off + k, none⟩) hb |>.trans hcell; go_simp; try (with_reducible rfl)
            try simp only [Act.put, zA, zB, zC]
            refine tkC 11 ?_
            refine tkC 12 ?_
            refine wpAnyH_ready (rs := [2, 6]) (by kernel_rfl) (by simp) ?_
            refine AllReadyH.cons (o := { dst := some 37, op := Op.buildSlice 22 1 #[(0, Operand.tmp 36)], type := 22, pos := "law.go:42", after := #[{ on := 1, ground := Ground.data }], guard := none }) rfl (fun K hK => ?_) (AllReadyH.cons (o := { dst := some 41, op := Op.buildSlice 37 4 #[(0, Operand.const (Value.string { data := #[49] })), (1, Operand.const (Value.string { data := #[50] })), (2, Operand.const (Value.string { data := #[120] })), (3, Operand.const (Value.string { data := #[121] }))], type := 37, pos := "law.go:42", after := #[], guard := none }) rfl (fun K hK => ?_) AllReadyH.nil)
            · go_simp
              try (go_wp2_with fail)
              obtain ⟨wA, hwA⟩ : ∃ w, w = wr.alloc (.cells #[.int .u8 z.toNat] 5) := ⟨_, rfl⟩
              have hRA := one_lit wr z
              have hltA : wr.heap.size < wA.heap.size := by rw [hwA]; simp
              have hbeA : Below wr.heap.size wr wA := by rw [hwA]; exact (Below.refl _ _).alloc (Nat.le_refl _) _
              rw [← hwA] at hRA ⊢
              clear hwA
              have hHeld' : SB [wA, wr] wA.drew := SB.al hHeld hbeA
              refine hK.out _ _ ?_ (fun _ => ?_)
              · exact SB.less _ hHeld'
              clear hK K
              try simp only [Act.put, zA, zB, zC]
              refine wpAnyH_more (S' := SB [wA, wr]) (fun W h => SB.less W h) _ _ _ _ ?_
              clear hHeld
              have hHeld := hHeld'
              clear hHeld'
              refine tkA 3 (v := ?_) ?_ ?_
              rotate_left
              · intro W hSw; have hq := str22 (hRA.below (SB.b0 hSw)); go_simp; try (with_reducible rfl)
              try simp only [Act.put, zA, zB, zC]
              refine tkC 4 ?_
              refine tkC 5 ?_
              refine wpAnyH_ready (rs := [6]) (by kernel_rfl) (by simp) ?_
              refine AllReadyH.cons (o := { dst := some 41, op := Op.buildSlice 37 4 #[(0, Operand.const (Value.string { data := #[49] })), (1, Operand.const (Value.string { data := #[50] })), (2, Operand.const (Value.string { data := #[120] })), (3, Operand.const (Value.string { data := #[121] }))], type := 37, pos := "law.go:42", after := #[], guard := none }) rfl (fun K hK => ?_) AllReadyH.nil
              go_simp
              try (go_wp2_with fail)
              obtain ⟨wS, hwS⟩ : ∃ w, w = wA.alloc (.cells #[.string ⟨#[49]⟩, .string ⟨#[50]⟩, .string ⟨#[120]⟩, .string ⟨#[121]⟩] 9) := ⟨_, rfl⟩
              have hRS := dig_cell wA x
              have hltS : wA.heap.size < wS.heap.size := by rw [hwS]; simp
              have hbeS : Below wA.heap.size wA wS := by rw [hwS]; exact (Below.refl _ _).alloc (Nat.le_refl _) _
              rw [← hwS] at hRS ⊢
              clear hwS
              obtain ⟨g, hg⟩ : ∃ g, g = wA.heap.size := ⟨_, rfl⟩
              rw [← hg] at hRS hltS ⊢
              have HG := Lib.hid hg
              clear hg
              rw [← HDD.out] at hRS
              have hHeld' : SB [wS, wA, wr] wS.drew := SB.al hHeld hbeS
              refine hK.out _ _ ?_ (fun _ => ?_)
              · exact SB.less _ hHeld'
              clear hK K
              try simp only [Act.put, zA, zB, zC]
              refine wpAnyH_more (S' := SB [wS, wA, wr]) (fun W h => SB.less W h) _ _ _ _ ?_
              clear hHeld
              have hHeld := hHeld'
              clear hHeld'
              refine tkC 13 ?_
              refine tkA 14 (v := ?_) ?_ ?_
              rotate_left
              · intro W hSw; have hq := (SB.b0 hSw).cell (p := ⟨g, d, none⟩) hltS |>.trans hRS; go_simp; try (with_reducible rfl)
              try simp only [Act.put, zA, zB, zC]
              refine tkC 15 ?_
              refine tkC 16 ?_
              refine wpAnyH_done (by kernel_rfl) ?_ _
              have HBf := Lib.hid (HBl.out.trans ((SB.b2 hHeld).mono HBl.out.size))
              clear hHeld hRA hRS
              go_wp2
              go_roundw
              case rel => exact ⟨k + 1, by omega, by omega, by go_num, by rw [HSN.out], by rw [HSN.out], HBf.out⟩
              case measure => simp [intOf]; omega
            · go_simp
              try (go_wp2_with fail)
              obtain ⟨wS, hwS⟩ : ∃ w, w = wr.alloc (.cells #[.string ⟨#[49]⟩, .string ⟨#[50]⟩, .string ⟨#[120]⟩, .string ⟨#[121]⟩] 9) := ⟨_, rfl⟩
              have hRS := dig_cell wr x
              have hltS : wr.heap.size < wS.heap.size := by rw [hwS]; simp
              have hbeS : Below wr.heap.size wr wS := by rw [hwS]; exact (Below.refl _ _).alloc (Nat.le_refl _) _
              rw [← hwS] at hRS ⊢
              clear hwS
              obtain ⟨g, hg⟩ : ∃ g, g = wr.heap.size := ⟨_, rfl⟩
              rw [← hg] at hRS hltS ⊢
              have HG := Lib.hid hg
              clear hg
              rw [← HDD.out] at hRS
              have hHeld' : SB [wS, wr] wS.drew := SB.al hHeld hbeS
              refine hK.out _ _ ?_ (fun _ => ?_)
              · exact SB.less _ hHeld'
              clear hK K
              try simp only [Act.put, zA, zB, zC]
              refine wpAnyH_more (S' := SB [wS, wr]) (fun W h => SB.less W h) _ _ _ _ ?_
              clear hHeld
              have hHeld := hHeld'
              clear hHeld'
              refine tkC 13 ?_
              refine tkA 14 (v := ?_) ?_ ?_
              rotate_left
              · intro W hSw; have hq := (SB.b0 hSw).cell (p := ⟨g, d, none⟩) hltS |>.trans hRS; go_simp; try (with_reducible rfl)
              try simp only [Act.put, zA, zB, zC]
              refine wpAnyH_ready (rs := [2]) (by kernel_rfl) (by simp) ?_
              refine AllReadyH.cons (o := { dst := some 37, op := Op.buildSlice 22 1 #[(0, Operand.tmp 36)], type := 22, pos := "law.go:42", after := #[{ on := 1, ground := Ground.data }], guard := none }) rfl (fun K hK => ?_) AllReadyH.nil
              go_simp
              try (go_wp2_with fail)
              obtain ⟨wA, hwA⟩ : ∃ w, w = wS.alloc (.cells #[.int .u8 z.toNat] 5) := ⟨_, rfl⟩
              have hRA := one_lit wS z
              have hltA : wS.heap.size < wA.heap.size := by rw [hwA]; simp
              have hbeA : Below wS.heap.size wS wA := by rw [hwA]; exact (Below.refl _ _).alloc (Nat.le_refl _) _
              rw [← hwA] at hRA ⊢
              clear hwA
              have hHeld' : SB [wA, wS, wr] wA.drew := SB.al hHeld hbeA
              refine hK.out _ _ ?_ (fun _ => ?_)
              · exact SB.less _ hHeld'
              clear hK K
              try simp only [Act.put, zA, zB, zC]
              refine wpAnyH_more (S' := SB [wA, wS, wr]) (fun W h => SB.less W h) _ _ _ _ ?_
              clear hHeld
              have hHeld := hHeld'
              clear hHeld'
              refine tkA 3 (v := ?_) ?_ ?_
              rotate_left
              · intro W hSw; have hq := str22 (hRA.below (SB.b0 hSw)); go_simp; try (with_reducible rfl)
              try simp only [Act.put, zA, zB, zC]
              refine tkC 4 ?_
              refine tkC 5 ?_
              refine tkC 15 ?_
              refine tkC 16 ?_
              refine wpAnyH_done (by kernel_rfl) ?_ _
              have HBf := Lib.hid (HBl.out.trans ((SB.b2 hHeld).mono HBl.out.size))
              clear hHeld hRA hRS
              go_wp2
              go_roundw
              case rel => exact ⟨k + 1, by omega, by omega, by go_num, by rw [HSN.out], by rw [HSN.out], HBf.out⟩
              case measure => simp [intOf]; omega
          · have z2' : ¬ (245 : Int) < (x.toNat : Int) := by omega
            have HSN1 := Lib.hid (show prF (l.take (k + 1)) = (s ++ [44] ++ [nextB y x] ++ [61] ++ [digB x], nextB y x) by rw [HSN0.out]; simp [prS, ← HS.out, ← HY.out, hsne])
            have hz := nextB_small (y := y) (x := x) z2
            obtain ⟨z, hzz⟩ : ∃ z, z = nextB y x := ⟨_, rfl⟩
            rw [← hzz] at hz HSN1
            clear hzz hsne z2
            obtain ⟨s2, hs2⟩ : ∃ s2, s2 = s ++ [44] := ⟨_, rfl⟩
            rw [← hs2] at hct HSN1
            have hl2 : s2.length ≤ 17 := by rw [hs2]; simp; omega
            clear hs2
            have hc1 := ext_cat s2 [z]
            have hc2 := ext_cat (s2 ++ [z]) [61]
            have hc3 := ext_cat (s2 ++ [z] ++ [61]) [digB x]
            obtain ⟨s3, hs3⟩ : ∃ s3, s3 = s2 ++ [z] := ⟨_, rfl⟩
            rw [← hs3] at hc1 hc2 hc3 HSN1
            have hl3 : s3.length ≤ 18 := by rw [hs3]; simp; omega
            clear hs3
            obtain ⟨s4, hs4⟩ : ∃ s4, s4 = s3 ++ [61] := ⟨_, rfl⟩
            rw [← hs4] at hc2 hc3 HSN1
            have hl4 : s4.length ≤ 19 := by rw [hs4]; simp; omega
            clear hs4
            obtain ⟨s5, hs5⟩ : ∃ s5, s5 = s4 ++ [digB x] := ⟨_, rfl⟩
            rw [← hs5] at hc3 HSN1
            clear hs5
            have HSN := HSN1
            clear HSN1
            have n2 : ¬ 9223372036854775807 < s2.length + 1 := by omega
            have n3 : ¬ 9223372036854775807 < s3.length + 1 := by omega
            have n4 : ¬ 9223372036854775807 < s4.length + 1 := by omega
            go_wp2_with fail
            refine wp_region_held_drew (S := SB [wr]) (by kernel_rfl) (SB.start _) (fun hHeld => ?_)
            refine tkC 0 ?_
            refine tkC 1 ?_
            refine tkC 7 ?_
            refine tkC 8 ?_
            refine tkC 9 ?_
            refine tkA 10 (v := ?_) ?_ ?_
            rotate_left
            · intro W hSw; have hq := (SB.b0 hSw).cell (p := ⟨b, off + k, none⟩) hb |>.trans hcell; go_simp; try (with_reducible rfl)
            try simp only [Act.put, zA, zB, zC]
            refine tkC 11 ?_
            refine tkC 12 ?_
            refine wpAnyH_ready (rs := [2, 6]) (by kernel_rfl) (by simp) ?_
            refine AllReadyH.cons (o := { dst := some 37, op := Op.buildSlice 22 1 #[(0, Operand.tmp 36)], type := 22, pos := "law.go:42", after := #[{ on := 1, ground := Ground.data }], guard := none }) rfl (fun K hK => ?_) (AllReadyH.cons (o := { dst := some 41, op := Op.buildSlice 37 4 #[(0, Operand.const (Value.string { data := #[49] })), (1, Operand.const (Value.string { data := #[50] })), (2, Operand.const (Value.string { data := #[120] })), (3, Operand.const (Value.string { data := #[121] }))], type := 37, pos := "law.go:42", after := #[], guard := none }) rfl (fun K hK => ?_) AllReadyH.nil)
            · go_simp
              try (go_wp2_with fail)
              obtain ⟨wA, hwA⟩ : ∃ w, w = wr.alloc (.cells #[.int .u8 z.toNat] 5) := ⟨_, rfl⟩
              have hRA := one_lit wr z
              have hltA : wr.heap.size < wA.heap.size := by rw [hwA]; simp
              have hbeA : Below wr.heap.size wr wA := by rw [hwA]; exact (Below.refl _ _).alloc (Nat.le_refl _) _
              rw [← hwA] at hRA ⊢
              clear hwA
              have hHeld' : SB [wA, wr] wA.drew := SB.al hHeld hbeA
              refine hK.out _ _ ?_ (fun _ => ?_)
              · exact SB.less _ hHeld'
              clear hK K
              try simp only [Act.put, zA, zB, zC]
              refine wpAnyH_more (S' := SB [wA, wr]) (fun W h => SB.less W h) _ _ _ _ ?_
              clear hHeld
              have hHeld := hHeld'
              clear hHeld'
              refine tkA 3 (v := ?_) ?_ ?_
              rotate_left
              · intro W hSw; have hq := str22 (hRA.below (SB.b0 hSw)); go_simp; try (with_reducible rfl)
              try simp only [Act.put, zA, zB, zC]
              refine tkC 4 ?_
              refine tkC 5 ?_
              refine wpAnyH_ready (rs := [6]) (by kernel_rfl) (by simp) ?_
              refine AllReadyH.cons (o := { dst := some 41, op := Op.buildSlice 37 4 #[(0, Operand.const (Value.string { data := #[49] })), (1, Operand.const (Value.string { data := #[50] })), (2, Operand.const (Value.string { data := #[120] })), (3, Operand.const (Value.string { data := #[121] }))], type := 37, pos := "law.go:42", after := #[], guard := none }) rfl (fun K hK => ?_) AllReadyH.nil
              go_simp
              try (go_wp2_with fail)
              obtain ⟨wS, hwS⟩ : ∃ w, w = wA.alloc (.cells #[.string ⟨#[49]⟩, .string ⟨#[50]⟩, .string ⟨#[120]⟩, .string ⟨#[121]⟩] 9) := ⟨_, rfl⟩
              have hRS := dig_cell wA x
              have hltS : wA.heap.size < wS.heap.size := by rw [hwS]; simp
              have hbeS : Below wA.heap.size wA wS := by rw [hwS]; exact (Below.refl _ _).alloc (Nat.le_refl _) _
              rw [← hwS] at hRS ⊢
              clear hwS
              obtain ⟨g, hg⟩ : ∃ g, g = wA.heap.size := ⟨_, rfl⟩
              rw [← hg] at hRS hltS ⊢
              have HG := Lib.hid hg
              clear hg
              rw [← HDD.out] at hRS
              have hHeld' : SB [wS, wA, wr] wS.drew := SB.al hHeld hbeS
              refine hK.out _ _ ?_ (fun _ => ?_)
              · exact SB.less _ hHeld'
              clear hK K
              try simp only [Act.put, zA, zB, zC]
              refine wpAnyH_more (S' := SB [wS, wA, wr]) (fun W h => SB.less W h) _ _ _ _ ?_
              clear hHeld
              have hHeld := hHeld'
              clear hHeld'
              refine tkC 13 ?_
              refine tkA 14 (v := ?_) ?_ ?_
              rotate_left
              · intro W hSw; have hq := (SB.b0 hSw).cell (p := ⟨g, d, none⟩) hltS |>.trans hRS; go_simp; try (with_reducible rfl)
              try simp only [Act.put, zA, zB, zC]
              refine tkC 15 ?_
              refine tkC 16 ?_
              refine wpAnyH_done (by kernel_rfl) ?_ _
              have HBf := Lib.hid (HBl.out.trans ((SB.b2 hHeld).mono HBl.out.size))
              clear hHeld hRA hRS
              go_wp2
              go_roundw
              case rel => exact ⟨k + 1, by omega, by omega, by go_num, by rw [HSN.out], by rw [HSN.out], HBf.out⟩
              case measure => simp [intOf]; omega
            · go_simp
              try (go_wp2_with fail)
              obtain ⟨wS, hwS⟩ : ∃ w, w = wr.alloc (.cells #[.string ⟨#[49]⟩, .string ⟨#[50]⟩, .string ⟨#[120]⟩, .string ⟨#[121]⟩] 9) := ⟨_, rfl⟩
              have hRS := dig_cell wr x
              have hltS : wr.heap.size < wS.heap.size := by rw [hwS]; simp
              have hbeS : Below wr.heap.size wr wS := by rw [hwS]; exact (Below.refl _ _).alloc (Nat.le_refl _) _
              rw [← hwS] at hRS ⊢
              clear hwS
              obtain ⟨g, hg⟩ : ∃ g, g = wr.heap.size := ⟨_, rfl⟩
              rw [← hg] at hRS hltS ⊢
              have HG := Lib.hid hg
              clear hg
              rw [← HDD.out] at hRS
              have hHeld' : SB [wS, wr] wS.drew := SB.al hHeld hbeS
              refine hK.out _ _ ?_ (fun _ => ?_)
              · exact SB.less _ hHeld'
              clear hK K
              try simp only [Act.put, zA, zB, zC]
              refine wpAnyH_more (S' := SB [wS, wr]) (fun W h => SB.less W h) _ _ _ _ ?_
              clear hHeld
              have hHeld := hHeld'
              clear hHeld'
              refine tkC 13 ?_
              refine tkA 14 (v := ?_) ?_ ?_
              rotate_left
              · intro W hSw; have hq := (SB.b0 hSw).cell (p := ⟨g, d, none⟩) hltS |>.trans hRS; go_simp; try (with_reducible rfl)
              try simp only [Act.put, zA, zB, zC]
              refine wpAnyH_ready (rs := [2]) (by kernel_rfl) (by simp) ?_
              refine AllReadyH.cons (o := { dst := some 37, op := Op.buildSlice 22 1 #[(0, Operand.tmp 36)], type := 22, pos := "law.go:42", after := #[{ on := 1, ground := Ground.data }], guard := none }) rfl (fun K hK => ?_) AllReadyH.nil
              go_simp
              try (go_wp2_with fail)
              obtain ⟨wA, hwA⟩ : ∃ w, w = wS.alloc (.cells #[.int .u8 z.toNat] 5) := ⟨_, rfl⟩
              have hRA := one_lit wS z
              have hltA : wS.heap.size < wA.heap.size := by rw [hwA]; simp
              have hbeA : Below wS.heap.size wS wA := by rw [hwA]; exact (Below.refl _ _).alloc (Nat.le_refl _) _
              rw [← hwA] at hRA ⊢
              clear hwA
              have hHeld' : SB [wA, wS, wr] wA.drew := SB.al hHeld hbeA
              refine hK.out _ _ ?_ (fun _ => ?_)
              · exact SB.less _ hHeld'
              clear hK K
              try simp only [Act.put, zA, zB, zC]
              refine wpAnyH_more (S' := SB [wA, wS, wr]) (fun W h => SB.less W h) _ _ _ _ ?_
              clear hHeld
              have hHeld := hHeld'
              clear hHeld'
              refine tkA 3 (v := ?_) ?_ ?_
              rotate_left
              · intro W hSw; have hq := str22 (hRA.below (SB.b0 hSw)); go_simp; try (with_reducible rfl)
              try simp only [Act.put, zA, zB, zC]
              refine tkC 4 ?_
              refine tkC 5 ?_
              refine tkC 15 ?_
              refine tkC 16 ?_
              refine wpAnyH_done (by kernel_rfl) ?_ _
              have HBf := Lib.hid (HBl.out.trans ((SB.b2 hHeld).mono HBl.out.size))
              clear hHeld hRA hRS
              go_wp2
              go_roundw
              case rel => exact ⟨k + 1, by omega, by omega, by go_num, by rw [HSN.out], by rw [HSN.out], HBf.out⟩
              case measure => simp [intOf]; omega
        · have z1' : ¬ (0 : Int) < (k : Int) := by omega
          have hsne : s = [] := by rw [hs, show k = 0 by omega]; rfl
          clear hs hy hsn hx
          by_cases z2 : 245 < x.toNat
          · have z2' : (245 : Int) < (x.toNat : Int) := by omega
            have HSN1 := Lib.hid (show prF (l.take (k + 1)) = (s ++ [nextB y x] ++ [61] ++ [digB x], nextB y x) by rw [HSN0.out]; simp [prS, ← HS.out, ← HY.out, hsne])
            have hz := nextB_big (y := y) (x := x) z2
            obtain ⟨z, hzz⟩ : ∃ z, z = nextB y x := ⟨_, rfl⟩
            rw [← hzz] at hz HSN1
            clear hzz hsne z2
            obtain ⟨s2, hs2⟩ : ∃ s2, s2 = s := ⟨_, rfl⟩
            rw [← hs2] at HSN1 ⊢
            have hl2 : s2.length ≤ 17 := by rw [hs2]; omega
            clear hs2 HS
            have hc1 := ext_cat s2 [z]
            have hc2 := ext_cat (s2 ++ [z]) [61]
            have hc3 := ext_cat (s2 ++ [z] ++ [61]) [digB x]
            obtain ⟨s3, hs3⟩ : ∃ s3, s3 = s2 ++ [z] := ⟨_, rfl⟩
            rw [← hs3] at hc1 hc2 hc3 HSN1
            have hl3 : s3.length ≤ 18 := by rw [hs3]; simp; omega
            clear hs3
            obtain ⟨s4, hs4⟩ : ∃ s4, s4 = s3 ++ [61] := ⟨_, rfl⟩
            rw [← hs4] at hc2 hc3 HSN1
            have hl4 : s4.length ≤ 19 := by rw [hs4]; simp; omega
            clear hs4
            obtain ⟨s5, hs5⟩ : ∃ s5, s5 = s4 ++ [digB x] := ⟨_, rfl⟩
            rw [← hs5] at hc3 HSN1
            clear hs5
            have HSN := HSN1
            clear HSN1
            have n2 : ¬ 9223372036854775807 < s2.length + 1 := by omega
            have n3 : ¬ 9223372036854775807 < s3.length + 1 := by omega
            have n4 : ¬ 9223372036854775807 < s4.length + 1 := by omega
            go_wp2_with fail
            refine wp_region_held_drew (S := SB [wr]) (by kernel_rfl) (SB.start _) (fun hHeld => ?_)
            refine tkC 0 ?_
            refine tkC 1 ?_
            refine tkC 7 ?_
            refine tkC 8 ?_
            refine tkC 9 ?_
            refine tkA 10 (v := ?_) ?_ ?_
            rotate_left
            · intro W hSw; have hq := (SB.b0 hSw).cell (p := ⟨b, off + k, none⟩) hb |>.trans hcell; go_simp; try (with_reducible rfl)
            try simp only [Act.put, zA, zB, zC]
            refine tkC 11 ?_
            refine tkC 12 ?_
            refine wpAnyH_ready (rs := [2, 6]) (by kernel_rfl) (by simp) ?_
            refine AllReadyH.cons (o := { dst := some 37, op := Op.buildSlice 22 1 #[(0, Operand.tmp 36)], type := 22, pos := "law.go:42", after := #[{ on := 1, ground := Ground.data }], guard := none }) rfl (fun K hK => ?_) (AllReadyH.cons (o := { dst := some 41, op := Op.buildSlice 37 4 #[(0, Operand.const (Value.string { data := #[49] })), (1, Operand.const (Value.string { data := #[50] })), (2, Operand.const (Value.string { data := #[120] })), (3, Operand.const (Value.string { data := #[121] }))], type := 37, pos := "law.go:42", after := #[], guard := none }) rfl (fun K hK => ?_) AllReadyH.nil)
            · go_simp
              try (go_wp2_with fail)
              obtain ⟨wA, hwA⟩ : ∃ w, w = wr.alloc (.cells #[.int .u8 z.toNat] 5) := ⟨_, rfl⟩
              have hRA := one_lit wr z
              have hltA : wr.heap.size < wA.heap.size := by rw [hwA]; simp
              have hbeA : Below wr.heap.size wr wA := by rw [hwA]; exact (Below.refl _ _).alloc (Nat.le_refl _) _
              rw [← hwA] at hRA ⊢
              clear hwA
              have hHeld' : SB [wA, wr] wA.drew := SB.al hHeld hbeA
              refine hK.out _ _ ?_ (fun _ => ?_)
              · exact SB.less _ hHeld'
              clear hK K
              try simp only [Act.put, zA, zB, zC]
              refine wpAnyH_more (S' := SB [wA, wr]) (fun W h => SB.less W h) _ _ _ _ ?_
              clear hHeld
              have hHeld := hHeld'
              clear hHeld'
              refine tkA 3 (v := ?_) ?_ ?_
              rotate_left
              · intro W hSw; have hq := str22 (hRA.below (SB.b0 hSw)); go_simp; try (with_reducible rfl)
              try simp only [Act.put, zA, zB, zC]
              refine tkC 4 ?_
              refine tkC 5 ?_
              refine wpAnyH_ready (rs := [6]) (by kernel_rfl) (by simp) ?_
              refine AllReadyH.cons (o := { dst := some 41, op := Op.buildSlice 37 4 #[(0, Operand.const (Value.string { data := #[49] })), (1, Operand.const (Value.string { data := #[50] })), (2, Operand.const (Value.string { data := #[120] })), (3, Operand.const (Value.string { data := #[121] }))], type := 37, pos := "law.go:42", after := #[], guard := none }) rfl (fun K hK => ?_) AllReadyH.nil
              go_simp
              try (go_wp2_with fail)
              obtain ⟨wS, hwS⟩ : ∃ w, w = wA.alloc (.cells #[.string ⟨#[49]⟩, .string ⟨#[50]⟩, .string ⟨#[120]⟩, .string ⟨#[121]⟩] 9) := ⟨_, rfl⟩
              have hRS := dig_cell wA x
              have hltS : wA.heap.size < wS.heap.size := by rw [hwS]; simp
              have hbeS : Below wA.heap.size wA wS := by rw [hwS]; exact (Below.refl _ _).alloc (Nat.le_refl _) _
              rw [← hwS] at hRS ⊢
              clear hwS
              obtain ⟨g, hg⟩ : ∃ g, g = wA.heap.size := ⟨_, rfl⟩
              rw [← hg] at hRS hltS ⊢
              have HG := Lib.hid hg
              clear hg
              rw [← HDD.out] at hRS
              have hHeld' : SB [wS, wA, wr] wS.drew := SB.al hHeld hbeS
              refine hK.out _ _ ?_ (fun _ => ?_)
              · exact SB.less _ hHeld'
              clear hK K
              try simp only [Act.put, zA, zB, zC]
              refine wpAnyH_more (S' := SB [wS, wA, wr]) (fun W h => SB.less W h) _ _ _ _ ?_
              clear hHeld
              have hHeld := hHeld'
              clear hHeld'
              refine tkC 13 ?_
              refine tkA 14 (v := ?_) ?_ ?_
              rotate_left
              · intro W hSw; have hq := (SB.b0 hSw).cell (p := ⟨g, d, none⟩) hltS |>.trans hRS; go_simp; try (with_reducible rfl)
              try simp only [Act.put, zA, zB, zC]
              refine tkC 15 ?_
              refine tkC 16 ?_
              refine wpAnyH_done (by kernel_rfl) ?_ _
              have HBf := Lib.hid (HBl.out.trans ((SB.b2 hHeld).mono HBl.out.size))
              clear hHeld hRA hRS
              go_wp2
              go_roundw
              case rel => exact ⟨k + 1, by omega, by omega, by go_num, by rw [HSN.out], by rw [HSN.out], HBf.out⟩
              case measure => simp [intOf]; omega
            · go_simp
              try (go_wp2_with fail)
              obtain ⟨wS, hwS⟩ : ∃ w, w = wr.alloc (.cells #[.string ⟨#[49]⟩, .string ⟨#[50]⟩, .string ⟨#[120]⟩, .string ⟨#[121]⟩] 9) := ⟨_, rfl⟩
              have hRS := dig_cell wr x
              have hltS : wr.heap.size < wS.heap.size := by rw [hwS]; simp
              have hbeS : Below wr.heap.size wr wS := by rw [hwS]; exact (Below.refl _ _).alloc (Nat.le_refl _) _
              rw [← hwS] at hRS ⊢
              clear hwS
              obtain ⟨g, hg⟩ : ∃ g, g = wr.heap.size := ⟨_, rfl⟩
              rw [← hg] at hRS hltS ⊢
              have HG := Lib.hid hg
              clear hg
              rw [← HDD.out] at hRS
              have hHeld' : SB [wS, wr] wS.drew := SB.al hHeld hbeS
              refine hK.out _ _ ?_ (fun _ => ?_)
              · exact SB.less _ hHeld'
              clear hK K
              try simp only [Act.put, zA, zB, zC]
              refine wpAnyH_more (S' := SB [wS, wr]) (fun W h => SB.less W h) _ _ _ _ ?_
              clear hHeld
              have hHeld := hHeld'
              clear hHeld'
              refine tkC 13 ?_
              refine tkA 14 (v := ?_) ?_ ?_
              rotate_left
              · intro W hSw; have hq := (SB.b0 hSw).cell (p := ⟨g, d, none⟩) hltS |>.trans hRS; go_simp; try (with_reducible rfl)
              try simp only [Act.put, zA, zB, zC]
              refine wpAnyH_ready (rs := [2]) (by kernel_rfl) (by simp) ?_
              refine AllReadyH.cons (o := { dst := some 37, op := Op.buildSlice 22 1 #[(0, Operand.tmp 36)], type := 22, pos := "law.go:42", after := #[{ on := 1, ground := Ground.data }], guard := none }) rfl (fun K hK => ?_) AllReadyH.nil
              go_simp
              try (go_wp2_with fail)
              obtain ⟨wA, hwA⟩ : ∃ w, w = wS.alloc (.cells #[.int .u8 z.toNat] 5) := ⟨_, rfl⟩
              have hRA := one_lit wS z
              have hltA : wS.heap.size < wA.heap.size := by rw [hwA]; simp
              have hbeA : Below wS.heap.size wS wA := by rw [hwA]; exact (Below.refl _ _).alloc (Nat.le_refl _) _
              rw [← hwA] at hRA ⊢
              clear hwA
              have hHeld' : SB [wA, wS, wr] wA.drew := SB.al hHeld hbeA
              refine hK.out _ _ ?_ (fun _ => ?_)
              · exact SB.less _ hHeld'
              clear hK K
              try simp only [Act.put, zA, zB, zC]
              refine wpAnyH_more (S' := SB [wA, wS, wr]) (fun W h => SB.less W h) _ _ _ _ ?_
              clear hHeld
              have hHeld := hHeld'
              clear hHeld'
              refine tkA 3 (v := ?_) ?_ ?_
              rotate_left
              · intro W hSw; have hq := str22 (hRA.below (SB.b0 hSw)); go_simp; try (with_reducible rfl)
              try simp only [Act.put, zA, zB, zC]
              refine tkC 4 ?_
              refine tkC 5 ?_
              refine tkC 15 ?_
              refine tkC 16 ?_
              refine wpAnyH_done (by kernel_rfl) ?_ _
              have HBf := Lib.hid (HBl.out.trans ((SB.b2 hHeld).mono HBl.out.size))
              clear hHeld hRA hRS
              go_wp2
              go_roundw
              case rel => exact ⟨k + 1, by omega, by omega, by go_num, by rw [HSN.out], by rw [HSN.out], HBf.out⟩
              case measure => simp [intOf]; omega
          · have z2' : ¬ (245 : Int) < (x.toNat : Int) := by omega
            have HSN1 := Lib.hid (show prF (l.take (k + 1)) = (s ++ [nextB y x] ++ [61] ++ [digB x], nextB y x) by rw [HSN0.out]; simp [prS, ← HS.out, ← HY.out, hsne])
            have hz := nextB_small (y := y) (x := x) z2
            obtain ⟨z, hzz⟩ : ∃ z, z = nextB y x := ⟨_, rfl⟩
            rw [← hzz] at hz HSN1
            clear hzz hsne z2
            obtain ⟨s2, hs2⟩ : ∃ s2, s2 = s := ⟨_, rfl⟩
            rw [← hs2] at HSN1 ⊢
            have hl2 : s2.length ≤ 17 := by rw [hs2]; omega
            clear hs2 HS
            have hc1 := ext_cat s2 [z]
            have hc2 := ext_cat (s2 ++ [z]) [61]
            have hc3 := ext_cat (s2 ++ [z] ++ [61]) [digB x]
            obtain ⟨s3, hs3⟩ : ∃ s3, s3 = s2 ++ [z] := ⟨_, rfl⟩
            rw [← hs3] at hc1 hc2 hc3 HSN1
            have hl3 : s3.length ≤ 18 := by rw [hs3]; simp; omega
            clear hs3
            obtain ⟨s4, hs4⟩ : ∃ s4, s4 = s3 ++ [61] := ⟨_, rfl⟩
            rw [← hs4] at hc2 hc3 HSN1
            have hl4 : s4.length ≤ 19 := by rw [hs4]; simp; omega
            clear hs4
            obtain ⟨s5, hs5⟩ : ∃ s5, s5 = s4 ++ [digB x] := ⟨_, rfl⟩
            rw [← hs5] at hc3 HSN1
            clear hs5
            have HSN := HSN1
            clear HSN1
            have n2 : ¬ 9223372036854775807 < s2.length + 1 := by omega
            have n3 : ¬ 9223372036854775807 < s3.length + 1 := by omega
            have n4 : ¬ 9223372036854775807 < s4.length + 1 := by omega
            go_wp2_with fail
            refine wp_region_held_drew (S := SB [wr]) (by kernel_rfl) (SB.start _) (fun hHeld => ?_)
            refine tkC 0 ?_
            refine tkC 1 ?_
            refine tkC 7 ?_
            refine tkC 8 ?_
            refine tkC 9 ?_
            refine tkA 10 (v := ?_) ?_ ?_
            rotate_left
            · intro W hSw; have hq := (SB.b0 hSw).cell (p := ⟨b, off + k, none⟩) hb |>.trans hcell; go_simp; try (with_reducible rfl)
            try simp only [Act.put, zA, zB, zC]
            refine tkC 11 ?_
            refine tkC 12 ?_
            refine wpAnyH_ready (rs := [2, 6]) (by kernel_rfl) (by simp) ?_
            refine AllReadyH.cons (o := { dst := some 37, op := Op.buildSlice 22 1 #[(0, Operand.tmp 36)], type := 22, pos := "law.go:42", after := #[{ on := 1, ground := Ground.data }], guard := none }) rfl (fun K hK => ?_) (AllReadyH.cons (o := { dst := some 41, op := Op.buildSlice 37 4 #[(0, Operand.const (Value.string { data := #[49] })), (1, Operand.const (Value.string { data := #[50] })), (2, Operand.const (Value.string { data := #[120] })), (3, Operand.const (Value.string { data := #[121] }))], type := 37, pos := "law.go:42", after := #[], guard := none }) rfl (fun K hK => ?_) AllReadyH.nil)
            · go_simp
              try (go_wp2_with fail)
              obtain ⟨wA, hwA⟩ : ∃ w, w = wr.alloc (.cells #[.int .u8 z.toNat] 5) := ⟨_, rfl⟩
              have hRA := one_lit wr z
              have hltA : wr.heap.size < wA.heap.size := by rw [hwA]; simp
              have hbeA : Below wr.heap.size wr wA := by rw [hwA]; exact (Below.refl _ _).alloc (Nat.le_refl _) _
              rw [← hwA] at hRA ⊢
              clear hwA
              have hHeld' : SB [wA, wr] wA.drew := SB.al hHeld hbeA
              refine hK.out _ _ ?_ (fun _ => ?_)
              · exact SB.less _ hHeld'
              clear hK K
              try simp only [Act.put, zA, zB, zC]
              refine wpAnyH_more (S' := SB [wA, wr]) (fun W h => SB.less W h) _ _ _ _ ?_
              clear hHeld
              have hHeld := hHeld'
              clear hHeld'
              refine tkA 3 (v := ?_) ?_ ?_
              rotate_left
              · intro W hSw; have hq := str22 (hRA.below (SB.b0 hSw)); go_simp; try (with_reducible rfl)
              try simp only [Act.put, zA, zB, zC]
              refine tkC 4 ?_
              refine tkC 5 ?_
              refine wpAnyH_ready (rs := [6]) (by kernel_rfl) (by simp) ?_
              refine AllReadyH.cons (o := { dst := some 41, op := Op.buildSlice 37 4 #[(0, Operand.const (Value.string { data := #[49] })), (1, Operand.const (Value.string { data := #[50] })), (2, Operand.const (Value.string { data := #[120] })), (3, Operand.const (Value.string { data := #[121] }))], type := 37, pos := "law.go:42", after := #[], guard := none }) rfl (fun K hK => ?_) AllReadyH.nil
              go_simp
              try (go_wp2_with fail)
              obtain ⟨wS, hwS⟩ : ∃ w, w = wA.alloc (.cells #[.string ⟨#[49]⟩, .string ⟨#[50]⟩, .string ⟨#[120]⟩, .string ⟨#[121]⟩] 9) := ⟨_, rfl⟩
              have hRS := dig_cell wA x
              have hltS : wA.heap.size < wS.heap.size := by rw [hwS]; simp
              have hbeS : Below wA.heap.size wA wS := by rw [hwS]; exact (Below.refl _ _).alloc (Nat.le_refl _) _
              rw [← hwS] at hRS ⊢
              clear hwS
              obtain ⟨g, hg⟩ : ∃ g, g = wA.heap.size := ⟨_, rfl⟩
              rw [← hg] at hRS hltS ⊢
              have HG := Lib.hid hg
              clear hg
              rw [← HDD.out] at hRS
              have hHeld' : SB [wS, wA, wr] wS.drew := SB.al hHeld hbeS
              refine hK.out _ _ ?_ (fun _ => ?_)
              · exact SB.less _ hHeld'
              clear hK K
              try simp only [Act.put, zA, zB, zC]
              refine wpAnyH_more (S' := SB [wS, wA, wr]) (fun W h => SB.less W h) _ _ _ _ ?_
              clear hHeld
              have hHeld := hHeld'
              clear hHeld'
              refine tkC 13 ?_
              refine tkA 14 (v := ?_) ?_ ?_
              rotate_left
              · intro W hSw; have hq := (SB.b0 hSw).cell (p := ⟨g, d, none⟩) hltS |>.trans hRS; go_simp; try (with_reducible rfl)
              try simp only [Act.put, zA, zB, zC]
              refine tkC 15 ?_
              refine tkC 16 ?_
              refine wpAnyH_done (by kernel_rfl) ?_ _
              have HBf := Lib.hid (HBl.out.trans ((SB.b2 hHeld).mono HBl.out.size))
              clear hHeld hRA hRS
              go_wp2
              go_roundw
              case rel => exact ⟨k + 1, by omega, by omega, by go_num, by rw [HSN.out], by rw [HSN.out], HBf.out⟩
              case measure => simp [intOf]; omega
            · go_simp
              try (go_wp2_with fail)
              obtain ⟨wS, hwS⟩ : ∃ w, w = wr.alloc (.cells #[.string ⟨#[49]⟩, .string ⟨#[50]⟩, .string ⟨#[120]⟩, .string ⟨#[121]⟩] 9) := ⟨_, rfl⟩
              have hRS := dig_cell wr x
              have hltS : wr.heap.size < wS.heap.size := by rw [hwS]; simp
              have hbeS : Below wr.heap.size wr wS := by rw [hwS]; exact (Below.refl _ _).alloc (Nat.le_refl _) _
              rw [← hwS] at hRS ⊢
              clear hwS
              obtain ⟨g, hg⟩ : ∃ g, g = wr.heap.size := ⟨_, rfl⟩
              rw [← hg] at hRS hltS ⊢
              have HG := Lib.hid hg
              clear hg
              rw [← HDD.out] at hRS
              have hHeld' : SB [wS, wr] wS.drew := SB.al hHeld hbeS
              refine hK.out _ _ ?_ (fun _ => ?_)
              · exact SB.less _ hHeld'
              clear hK K
              try simp only [Act.put, zA, zB, zC]
              refine wpAnyH_more (S' := SB [wS, wr]) (fun W h => SB.less W h) _ _ _ _ ?_
              clear hHeld
              have hHeld := hHeld'
              clear hHeld'
              refine tkC 13 ?_
              refine tkA 14 (v := ?_) ?_ ?_
              rotate_left
              · intro W hSw; have hq := (SB.b0 hSw).cell (p := ⟨g, d, none⟩) hltS |>.trans hRS; go_simp; try (with_reducible rfl)
              try simp only [Act.put, zA, zB, zC]
              refine wpAnyH_ready (rs := [2]) (by kernel_rfl) (by simp) ?_
              refine AllReadyH.cons (o := { dst := some 37, op := Op.buildSlice 22 1 #[(0, Operand.tmp 36)], type := 22, pos := "law.go:42", after := #[{ on := 1, ground := Ground.data }], guard := none }) rfl (fun K hK => ?_) AllReadyH.nil
              go_simp
              try (go_wp2_with fail)
              obtain ⟨wA, hwA⟩ : ∃ w, w = wS.alloc (.cells #[.int .u8 z.toNat] 5) := ⟨_, rfl⟩
              have hRA := one_lit wS z
              have hltA : wS.heap.size < wA.heap.size := by rw [hwA]; simp
              have hbeA : Below wS.heap.size wS wA := by rw [hwA]; exact (Below.refl _ _).alloc (Nat.le_refl _) _
              rw [← hwA] at hRA ⊢
              clear hwA
              have hHeld' : SB [wA, wS, wr] wA.drew := SB.al hHeld hbeA
              refine hK.out _ _ ?_ (fun _ => ?_)
              · exact SB.less _ hHeld'
              clear hK K
              try simp only [Act.put, zA, zB, zC]
              refine wpAnyH_more (S' := SB [wA, wS, wr]) (fun W h => SB.less W h) _ _ _ _ ?_
              clear hHeld
              have hHeld := hHeld'
              clear hHeld'
              refine tkA 3 (v := ?_) ?_ ?_
              rotate_left
              · intro W hSw; have hq := str22 (hRA.below (SB.b0 hSw)); go_simp; try (with_reducible rfl)
              try simp only [Act.put, zA, zB, zC]
              refine tkC 4 ?_
              refine tkC 5 ?_
              refine tkC 15 ?_
              refine tkC 16 ?_
              refine wpAnyH_done (by kernel_rfl) ?_ _
              have HBf := Lib.hid (HBl.out.trans ((SB.b2 hHeld).mono HBl.out.size))
              clear hHeld hRA hRS
              go_wp2
              go_roundw
              case rel => exact ⟨k + 1, by omega, by omega, by go_num, by rw [HSN.out], by rw [HSN.out], HBf.out⟩
              case measure => simp [intOf]; omega
      · have q2 : ¬ (k : Int) < 5 := by omega
        have HE := Lib.hid (show (prF (l.take k)).1 = (prF (l.take 5)).1 by rw [show k = 5 by omega])
        go_wp2
        go_ret
        exact ⟨by rw [← HE.out]; rfl, HBl.out⟩
    · have q1 : ¬ (k : Int) < (l.length : Int) := by omega
      have HE := Lib.hid (show (prF (l.take k)).1 = (prF (l.take 5)).1 by rw [List.take_of_length_le (by omega), List.take_of_length_le (by omega)])
      go_wp2
      go_ret
      exact ⟨by rw [← HE.out]; rfl, HBl.out⟩
end Go.Proofs.Ythifpfdfepepoaa
