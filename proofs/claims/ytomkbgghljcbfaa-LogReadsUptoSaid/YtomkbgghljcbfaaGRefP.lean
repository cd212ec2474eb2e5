/-
  The contracts of the reference's Num, join and Text: they make the same bytes as the code's.
-/
import Derived.Test.YtomkbgghljcbfaaGWords
import Derived.Test.YtomkbgghljcbfaaGSec
import Derived.Test.YtomkbgghljcbfaaGPg
import Derived.Test.YtomkbgghljcbfaaGSeal
import Derived.RangeFuncBox
set_option linter.unusedVariables false

namespace Go.Proofs.Ytomkbgghljcbfaa
open Go.RowKit Go.Rst
theorem refByte (k : Nat) : (128 : Int) + (k : Int) % 128 = ((UInt8.ofNat (k % 128 + 128)).toNat : Int) := by
  have : (UInt8.ofNat (k % 128 + 128)).toNat = k % 128 + 128 := byte_val (by omega)
  rw [this]; omega

set_option maxRecDepth 100000 in
set_option maxHeartbeats 400000 in
theorem refNum_any (n : Int) (w : World) : Calls Try.prog 70 #[.int .i64 n] w (NewB 5 w (numL (clip n))) := by
  have hcl := clip_le n
  have h8 := numL_len8 hcl
  have hc : (clip n : Int) = max 0 (min n 9007199254740992) := by unfold clip; omega
  generalize clip n = c at *
  have HC := Lib.hid hc
  clear hc
  rcases (show n < 0 ∨ n = 0 ∨ (0 < n ∧ n ≤ 9007199254740992) ∨ 9007199254740992 < n from by omega) with h | rfl | ⟨h, h'⟩ | h
  all_goals
    go_enter Try.func70, Try.ntmps70
    go_wp2
    go_loopw [0, 3] (fun x b wr => ∃ (k : Nat) (acc : List UInt8), (k : Int) ≤ 9007199254740992 ∧ x = .int .i64 k ∧ acc ++ numL k = numL c ∧ wr.ownsRow w.heap.size 5 1 b acc.length (bvs acc) ∧ Below w.heap.size w wr)
      (fun x _ _ => (intOf x).toNat)
    case atStart => exact ⟨c, [], by omega, by have := HC.out; go_num, rfl, World.ownsRow_nil _ _ _ _, Below.refl _ _⟩
    case round =>
      obtain ⟨k, acc, hk, rfl, heq, hown, hbel⟩ := hrel
      have hsz := hbel.size
      have hlen : acc.length ≤ 7 := by
        have h1 := congrArg List.length heq
        rw [List.length_append] at h1
        have h2 := numL_pos k
        omega
      have H := Lib.hid heq
      clear heq
      by_cases hlt : 128 ≤ k
      · go_wp2_with (at_builtin; refine wpList_own rfl (.tmp 9) (.tmp 14) 23 23 rfl w.heap.size 5 (.int .u8 0) 1 1 Try.underlying23 info5 rfl rfl (hown.alloc _) rfl (src_one wr Try.underlying23 5 _ rfl) (hbel.alloc hbel.size _) (Nat.le_refl _) ?_ ?_ ?_ ?_)
        · unfold maxLen; omega
        · omega
        · simp; omega
        · intro v' w1 hown' hbel' _
          rw [refByte k] at hown'
          clear hown hbel
          go_wp2
          go_roundw
          case rel => exact ⟨k / 128, acc ++ [UInt8.ofNat (k % 128 + 128)], by omega, by go_num, by rw [← H.out, numL_ge hlt, List.append_assoc]; rfl, own_snoc hown', hbel'⟩
          case measure => simp [intOf]; omega
      · go_wp2_with (at_builtin; refine wpList_own rfl (.tmp 18) (.tmp 21) 23 23 rfl w.heap.size 5 (.int .u8 0) 1 1 Try.underlying23 info5 rfl rfl (hown.alloc _) rfl (src_one wr Try.underlying23 5 _ rfl) (hbel.alloc hbel.size _) (Nat.le_refl _) ?_ ?_ ?_ ?_)
        · unfold maxLen; omega
        · omega
        · simp; omega
        · intro v' w1 hown' hbel' _
          go_wp2
          go_ret
          rw [byte_last (show k < 128 by omega)] at hown'
          have e : numL c = acc ++ [UInt8.ofNat k] := by rw [← H.out, numL_lt (by omega)]
          exact ⟨v', rfl, by rw [e]; exact own_snoc hown', hbel'⟩

set_option maxRecDepth 100000 in
set_option maxHeartbeats 400000 in
theorem join_any (va vb : Value) (a b : List UInt8) (ha : a.length ≤ 10000000000) (hb : b.length ≤ 10000000000) (w : World) (h1 : RB w va a) (h2 : RB w vb b) : Calls Try.prog 71 #[va, vb] w (NewB 5 w (a ++ b)) := by
  have H1 := Lib.hid h1
  have H2 := Lib.hid h2
  obtain ⟨A1, c1, rfl, _⟩ := h1
  obtain ⟨A2, c2, rfl, _⟩ := h2
  go_enter Try.func71, Try.ntmps71
  go_wp2_with (at_builtin; refine wpList_own rfl (.tmp 6) (.tmp 7) 23 23 rfl w.heap.size 5 (.int .u8 0) 1 1 Try.underlying23 info5 rfl rfl (World.ownsRow_nil _ _ _ _) rfl (H1.out.src Try.underlying23) (Below.refl w.heap.size w) (Nat.le_refl _) ?_ ?_ ?_ ?_)
  · unfold maxLen; omega
  · omega
  · exact Nat.le_refl _
  intro v1 w1 hown hbel _
  have hown' : w1.ownsRow w.heap.size 5 1 v1 a.length (bvs a) := by simpa using hown
  have HO := Lib.hid hown'
  have HB := Lib.hid hbel
  clear hown hown' hbel
  go_wp2_with (at_builtin; refine wpList_own (n := a.length) (xs := bvs a) rfl (.tmp 9) (.tmp 10) 23 23 rfl w.heap.size 5 (.int .u8 0) 1 1 Try.underlying23 info5 rfl rfl HO.out rfl ((H2.out.below HB.out).src Try.underlying23) HB.out (Nat.le_refl _) ?_ ?_ ?_ ?_)
  · unfold maxLen; omega
  · omega
  · exact HB.out.size
  intro v2 w2 hown2 hbel2 _
  go_wp2
  go_ret
  exact ⟨v2, rfl, own_cat hown2, hbel2⟩

set_option maxRecDepth 100000 in
set_option maxHeartbeats 400000 in
theorem refText_any (s : ByteArray) (hs : s.size ≤ 1000000000) (w : World) : Calls Try.prog 72 #[.string s] w (NewB 5 w (textL s.data.toList)) := by
  have e1 : clip (s.size : Int) = s.data.toList.length := by unfold clip; rw [Array.length_toList]; show _ = s.size; omega
  have hnum := fun W => refNum_any (s.size : Int) W
  rw [e1] at hnum
  have h8 := numL_len8 (n := s.data.toList.length) (by rw [Array.length_toList]; show s.size ≤ _; omega)
  have hls : s.data.toList.length ≤ 1000000000 := by rw [Array.length_toList]; exact hs
  have HN := Lib.hid hnum
  clear hnum e1
  go_enter Try.func72, Try.ntmps72
  go_wp2_with fail
  refine (HN.out _).mono ?_
  rintro e w1 ⟨v, rfl, hown, hbel⟩
  have HR := Lib.hid (RB.own hown)
  have HB := Lib.hid hbel
  clear hown hbel
  go_wp2_with (refine wpList_bytes rfl (.tmp 6) 9 23 5 rfl Try.underlying9 Try.underlying23 Try.underlying5 (by rfl) ?_ ?_)
  · unfold maxLen; omega
  intro g c w2 hfb hb2
  have HF := Lib.hid hfb.rb
  have HB2 := Lib.hid hb2
  clear hfb hb2
  go_wp2_with fail
  refine (join_any _ _ _ _ (by omega) (by omega) _ (HR.out.below HB2.out) HF.out).mono ?_
  rintro e w3 ⟨v3, rfl, hown3, hb3⟩
  have h1 := HB.out.size
  have h2 := HB2.out.size
  go_wp2
  go_ret
  exact ⟨v3, rfl, own_base hown3 (by omega), (HB.out.trans (HB2.out.mono h1)).trans (hb3.mono (by omega))⟩
end Go.Proofs.Ytomkbgghljcbfaa

/-
  The contract of the reference's Changes: the same bytes of changes that take at most a hundred million bytes in all.
-/
namespace Go.Proofs.Ytomkbgghljcbfaa
open Go.RowKit Go.Rst

theorem gen_allocN {K : World → Prop} {W : World} {o : Obj} (h : ∀ w', w' = W.alloc o → Below W.heap.size W w' → K w') : K (W.alloc o) := h _ rfl ((Below.refl _ _).alloc (Nat.le_refl _) _)
theorem chgL_key (c : Chg) : (textL c.1.data.toList).length ≤ (chgL c).length := by
  unfold chgL
  simp only [List.length_append]
  omega
theorem chgL_put (key : ByteArray) (val : List UInt8) : chgL (key, val, false) = textL key.data.toList ++ [0] ++ textL val := by simp [chgL]
theorem chgL_gone (key : ByteArray) (val : List UInt8) : chgL (key, val, true) = textL key.data.toList ++ [1] := by simp [chgL]

set_option maxRecDepth 100000 in
set_option maxHeartbeats 4000000 in
theorem refChanges_any (v : Value) (rs : List Chg) (hbig : (chgsB rs).length ≤ 100000000) (hn : rs.length ≤ 100000000) (w : World) (hv : RC w v rs) :
    Calls Try.prog 48 #[v] w (NewB 5 w (chgsL rs)) := by
  obtain ⟨A, c, rfl, hlc, hc, hcells⟩ := hv
  have HC := Lib.hid hcells
  clear hcells
  unfold maxLen at hc
  go_enter Try.func48, Try.ntmps48
  go_wp2_with fail
  refine (refNum_any _ _).mono ?_
  rintro e w1 ⟨vn, rfl, hown, hbel⟩
  have e1 : clip (rs.length : Int) = rs.length := by unfold clip; omega
  rw [e1] at hown
  have h8 := numL_len8 (n := rs.length) (by omega)
  have HO := Lib.hid hown
  have HB := Lib.hid hbel
  clear e1 hown hbel
  go_wp2
  go_loopw [3, 4] (fun b i wr => ∃ k : Nat, k ≤ rs.length ∧ i = .int .i64 k ∧ wr.ownsRow w.heap.size 5 1 b (numL rs.length ++ chgsB (rs.take k)).length (bvs (numL rs.length ++ chgsB (rs.take k))) ∧ Below w.heap.size w wr)
    (fun _ i _ => rs.length - (intOf i).toNat)
  case atStart => exact ⟨0, Nat.zero_le _, rfl, by simpa [chgsB] using HO.out, HB.out⟩
  case round =>
    clear HO HB
    obtain ⟨k, hk, rfl, hown, hbel⟩ := hrel
    by_cases hlt : k < rs.length
    · obtain ⟨b, off, rfl, hb0, hcell⟩ : ∃ b off, A = some ⟨b, off, none⟩ ∧ b < w.heap.size ∧
          ∀ j (h : j < rs.length), w.cell? ⟨b, off + j * 3, none⟩ = some (.string rs[j].1) ∧ (∃ u, w.cell? ⟨b, off + j * 3 + 1, none⟩ = some u ∧ RB w u rs[j].2.1) ∧ w.cell? ⟨b, off + j * 3 + 2, none⟩ = some (.bool rs[j].2.2) := by
        rcases HC.out with rfl | h
        · simp at hlt
        · exact h
      obtain ⟨hc0, ⟨u, hc1, hru⟩, hc2⟩ := hcell k hlt
      have hb : b < wr.heap.size := Nat.lt_of_lt_of_le hb0 hbel.size
      have hk0 := (hbel.cell (p := ⟨b, off + k * 3, none⟩) hb0).trans hc0
      have hk1 := (hbel.cell (p := ⟨b, off + k * 3 + 1, none⟩) hb0).trans hc1
      have hk2 := (hbel.cell (p := ⟨b, off + k * 3 + 2, none⟩) hb0).trans hc2
      have hru1 := hru.below hbel
      have htk := chgsB_take hlt
      have hle := chgsB_le rs (k + 1)
      have hkl := chgL_len rs[k]
      have hkt := chgL_key rs[k]
      rw [htk, List.length_append] at hle
      obtain ⟨⟨key, val, gone⟩, hr⟩ : ∃ r, rs[k] = r := ⟨_, rfl⟩
      rw [hr] at hk0 hk2 hru hru1 htk hle hkl hkt
      have hacc : (numL rs.length ++ chgsB (rs.take k)).length ≤ 1000000000 := by rw [List.length_append]; omega
      have hnext : numL rs.length ++ chgsB (rs.take (k + 1)) = (numL rs.length ++ chgsB (rs.take k)) ++ chgL (key, val, gone) := by rw [htk]; simp [List.append_assoc]
      generalize numL rs.length ++ chgsB (rs.take k) = acc at *
      have hsz := hbel.size
      have hks : key.size ≤ 1000000000 := by rw [Array.length_toList] at hkl; show key.data.size ≤ _; simp only at hkl; omega
      have t1 : (textL key.data.toList).length ≤ 1000000000 := by simp only at hkt; omega
      have HO := Lib.hid (RB.own hown)
      have HB := Lib.hid hbel
      have HRU := Lib.hid hru1
      obtain ⟨A2, c2, rfl⟩ : ∃ A2 c2, u = .slice A2 val.length c2 := by
        obtain ⟨A2, c2, h, _⟩ := hru
        exact ⟨A2, c2, h⟩
      obtain ⟨A3, c3, rfl, _⟩ := own_shape hown
      have b1 : (0 : Int) ≤ (k : Int) := by omega
      have b2 : (k : Int) < (rs.length : Int) := by omega
      simp only at hk2 hk0 hk1
      have HTL := Lib.hid hle
      clear hcell hc0 hc1 hc2 htk HC hru hru1 hown hbel hkl hkt hr hle
      cases gone
      · have hput := chgL_put key val
        have hle := HTL.out
        rw [hput] at hle hnext
        simp only [List.length_append, List.length_cons, List.length_nil] at hle
        have hnx : numL rs.length ++ chgsB (rs.take (k + 1)) = acc ++ textL key.data.toList ++ [0] ++ textL val := by rw [hnext]; simp [List.append_assoc]
        have HNX := Lib.hid hnx
        have t2 : (textL val).length ≤ 1000000000 := by omega
        have hvs : (⟨val.toArray⟩ : ByteArray).size ≤ 1000000000 := by
          have : val.length ≤ (textL val).length := by unfold textL; rw [List.length_append]; omega
          show val.toArray.size ≤ _; simp; omega
        clear hput hnx hnext HTL hle
        go_wp2
        refine wp_region_held_drew (S := SB [wr]) (by kernel_rfl) (SB.start _) (fun hHeld => ?_)
        obtain ⟨w0, hw0⟩ : ∃ x, x = wr.drew := ⟨_, rfl⟩
        rw [← hw0] at hHeld ⊢
        clear hw0
        refine wpAnyH_take (i := 0) (oi := { dst := some 29, op := Op.move (Operand.tmp 3), type := 23, pos := "ref.go:45", after := #[], guard := none }) (v := ?_) rfl (by kernel_rfl) (by kernel_rfl) (by kernel_rfl) (fun _ _ _ h => h) (Or.inl ⟨by rfl, ?_⟩) (by assumption) ?_
        rotate_left
        · intro W hSw; go_simp; try (with_reducible rfl)
        try simp only [Act.put, List.setIfInBounds_toArray, List.set_cons_zero, List.set_cons_succ]
        refine wpAnyH_take (i := 1) (oi := { dst := some 30, op := Op.move (Operand.tmp 0), type := 22, pos := "ref.go:45", after := #[], guard := none }) (v := ?_) rfl (by kernel_rfl) (by kernel_rfl) (by kernel_rfl) (fun _ _ _ h => h) (Or.inl ⟨by rfl, ?_⟩) (by assumption) ?_
        rotate_left
        · intro W hSw; go_simp; try (with_reducible rfl)
        try simp only [Act.put, List.setIfInBounds_toArray, List.set_cons_zero, List.set_cons_succ]
        refine wpAnyH_take (i := 2) (oi := { dst := some 31, op := Op.move (Operand.tmp 4), type := 3, pos := "ref.go:45", after := #[], guard := none }) (v := ?_) rfl (by kernel_rfl) (by kernel_rfl) (by kernel_rfl) (fun _ _ _ h => h) (Or.inl ⟨by rfl, ?_⟩) (by assumption) ?_
        rotate_left
        · intro W hSw; go_simp; try (with_reducible rfl)
        try simp only [Act.put, List.setIfInBounds_toArray, List.set_cons_zero, List.set_cons_succ]
        refine wpAnyH_take (i := 3) (oi := { dst := some 32, op := Op.indexAddr 22 (Operand.tmp 30) (Operand.tmp 31), type := 0, pos := "ref.go:45", after := #[{ on := 1, ground := Ground.data }, { on := 2, ground := Ground.data }], guard := none }) (v := ?_) rfl (by kernel_rfl) (by kernel_rfl) (by kernel_rfl) (fun _ _ _ h => h) (Or.inl ⟨by rfl, ?_⟩) (by assumption) ?_
        rotate_left
        · intro W hSw; go_simp; try (with_reducible rfl)
        try simp only [Act.put, List.setIfInBounds_toArray, List.set_cons_zero, List.set_cons_succ]
        refine wpAnyH_take (i := 4) (oi := { dst := some 33, op := Op.fieldAddr 51 (Operand.tmp 32) 0, type := 0, pos := "ref.go:45", after := #[{ on := 3, ground := Ground.data }], guard := none }) (v := ?_) rfl (by kernel_rfl) (by kernel_rfl) (by kernel_rfl) (fun _ _ _ h => h) (Or.inl ⟨by rfl, ?_⟩) (by assumption) ?_
        rotate_left
        · intro W hSw; go_simp; try (with_reducible rfl)
        try simp only [Act.put, List.setIfInBounds_toArray, List.set_cons_zero, List.set_cons_succ]
        refine wpAnyH_take (i := 5) (oi := { dst := some 34, op := Op.load 9 (Operand.tmp 33), type := 9, pos := "ref.go:45", after := #[{ on := 4, ground := Ground.data }], guard := none }) (v := ?_) rfl (by kernel_rfl) (by kernel_rfl) (by kernel_rfl) (fun _ _ _ h => h) (Or.inl ⟨by rfl, ?_⟩) (by assumption) ?_
        rotate_left
        · intro W hSw; have hq := ((SB.b0 hSw).cell (p := ⟨b, off + k * 3, none⟩) hb).trans hk0; go_simp; try (with_reducible rfl)
        try simp only [Act.put, List.setIfInBounds_toArray, List.set_cons_zero, List.set_cons_succ]
        refine wpAnyH_take (i := 10) (oi := { dst := some 39, op := Op.move (Operand.tmp 0), type := 22, pos := "ref.go:45", after := #[], guard := none }) (v := ?_) rfl (by kernel_rfl) (by kernel_rfl) (by kernel_rfl) (fun _ _ _ h => h) (Or.inl ⟨by rfl, ?_⟩) (by assumption) ?_
        rotate_left
        · intro W hSw; go_simp; try (with_reducible rfl)
        try simp only [Act.put, List.setIfInBounds_toArray, List.set_cons_zero, List.set_cons_succ]
        refine wpAnyH_take (i := 11) (oi := { dst := some 40, op := Op.move (Operand.tmp 4), type := 3, pos := "ref.go:45", after := #[], guard := none }) (v := ?_) rfl (by kernel_rfl) (by kernel_rfl) (by kernel_rfl) (fun _ _ _ h => h) (Or.inl ⟨by rfl, ?_⟩) (by assumption) ?_
        rotate_left
        · intro W hSw; go_simp; try (with_reducible rfl)
        try simp only [Act.put, List.setIfInBounds_toArray, List.set_cons_zero, List.set_cons_succ]
        refine wpAnyH_take (i := 12) (oi := { dst := some 41, op := Op.indexAddr 22 (Operand.tmp 39) (Operand.tmp 40), type := 0, pos := "ref.go:45", after := #[{ on := 10, ground := Ground.data }, { on := 11, ground := Ground.data }], guard := none }) (v := ?_) rfl (by kernel_rfl) (by kernel_rfl) (by kernel_rfl) (fun _ _ _ h => h) (Or.inl ⟨by rfl, ?_⟩) (by assumption) ?_
        rotate_left
        · intro W hSw; go_simp; try (with_reducible rfl)
        try simp only [Act.put, List.setIfInBounds_toArray, List.set_cons_zero, List.set_cons_succ]
        refine wpAnyH_take (i := 13) (oi := { dst := some 42, op := Op.fieldAddr 51 (Operand.tmp 41) 1, type := 0, pos := "ref.go:45", after := #[{ on := 12, ground := Ground.data }], guard := none }) (v := ?_) rfl (by kernel_rfl) (by kernel_rfl) (by kernel_rfl) (fun _ _ _ h => h) (Or.inl ⟨by rfl, ?_⟩) (by assumption) ?_
        rotate_left
        · intro W hSw; go_simp; try (with_reducible rfl)
        try simp only [Act.put, List.setIfInBounds_toArray, List.set_cons_zero, List.set_cons_succ]
        refine wpAnyH_take (i := 14) (oi := { dst := some 43, op := Op.load 23 (Operand.tmp 42), type := 23, pos := "ref.go:45", after := #[{ on := 13, ground := Ground.data }], guard := none }) (v := ?_) rfl (by kernel_rfl) (by kernel_rfl) (by kernel_rfl) (fun _ _ _ h => h) (Or.inl ⟨by rfl, ?_⟩) (by assumption) ?_
        rotate_left
        · intro W hSw; have hq := ((SB.b0 hSw).cell (p := ⟨b, off + k * 3 + 1, none⟩) hb).trans hk1; go_simp; try (with_reducible rfl)
        try simp only [Act.put, List.setIfInBounds_toArray, List.set_cons_zero, List.set_cons_succ]
        refine wpAnyH_take (i := 15) (oi := { dst := some 44, op := Op.convert 23 9 (Operand.tmp 43), type := 9, pos := "ref.go:45", after := #[{ on := 14, ground := Ground.data }], guard := none }) (v := ?_) rfl (by kernel_rfl) (by kernel_rfl) (by kernel_rfl) (fun _ _ _ h => h) (Or.inl ⟨by rfl, ?_⟩) (by assumption) ?_
        rotate_left
        · intro W hSw; have hq := str22 (HRU.out.below (SB.b0 hSw)); go_simp; try (with_reducible rfl)
        try simp only [Act.put, List.setIfInBounds_toArray, List.set_cons_zero, List.set_cons_succ]
        refine wpAnyH_ready (rs := [6, 8]) (by kernel_rfl) (by simp) ?_
        refine AllReadyH.cons (o := { dst := some 35, op := Op.call { callee := Callee.value (Operand.func 72), args := #[Operand.tmp 34], argTypes := #[9] }, type := 23, pos := "ref.go:45", after := #[{ on := 5, ground := Ground.data }], guard := none }) rfl (fun K hK => ?_) (AllReadyH.cons (o := { dst := some 37, op := Op.buildSlice 23 1 #[(0, Operand.const (Value.int IntKind.u8 0))], type := 23, pos := "ref.go:45", after := #[], guard := none }) rfl (fun K hK => ?_) AllReadyH.nil)
        · go_simp
          refine (refText_any key hks _).mono ?_
          rintro x w1 ⟨v1, rfl, hown1, hbw1⟩
          try (go_wp2_with fail)
          have hHeld' := SB.step hHeld hbw1
          refine hK.out _ _ ?_ (fun _ => ?_)
          · exact hHeld'
          clear hK K
          try simp only [Act.put, List.setIfInBounds_toArray, List.set_cons_zero, List.set_cons_succ]
          have hHeld := SB.more hHeld'
          clear hHeld'
          refine wpAnyH_more (S' := SB [w1, wr]) (fun W h => SB.less W h) _ _ _ _ ?_
          refine wpAnyH_ready (rs := [7, 8]) (by kernel_rfl) (by simp) ?_
          refine AllReadyH.cons (o := { dst := some 36, op := Op.call { callee := Callee.value (Operand.func 71), args := #[Operand.tmp 29, Operand.tmp 35], argTypes := #[23, 23] }, type := 23, pos := "ref.go:45", after := #[{ on := 0, ground := Ground.data }, { on := 6, ground := Ground.data }, { on := 6, ground := Ground.chain }], guard := none }) rfl (fun K hK => ?_) (AllReadyH.cons (o := { dst := some 37, op := Op.buildSlice 23 1 #[(0, Operand.const (Value.int IntKind.u8 0))], type := 23, pos := "ref.go:45", after := #[], guard := none }) rfl (fun K hK => ?_) AllReadyH.nil)
          · go_simp
            refine (join_any _ _ _ _ (by omega) (by omega) _ (HO.out.below (SB.b1 hHeld)) ((RB.own hown1).below (SB.b0 hHeld))).mono ?_
            rintro x w2 ⟨v2, rfl, hown2, hbw2⟩
            try (go_wp2_with fail)
            have hHeld' := SB.step hHeld hbw2
            refine hK.out _ _ ?_ (fun _ => ?_)
            · exact hHeld'
            clear hK K
            try simp only [Act.put, List.setIfInBounds_toArray, List.set_cons_zero, List.set_cons_succ]
            have hHeld := SB.more hHeld'
            clear hHeld'
            refine wpAnyH_more (S' := SB [w2, w1, wr]) (fun W h => SB.less W h) _ _ _ _ ?_
            refine wpAnyH_ready (rs := [8]) (by kernel_rfl) (by simp) ?_
            refine AllReadyH.cons (o := { dst := some 37, op := Op.buildSlice 23 1 #[(0, Operand.const (Value.int IntKind.u8 0))], type := 23, pos := "ref.go:45", after := #[], guard := none }) rfl (fun K hK => ?_) AllReadyH.nil
            go_simp
            refine gen_allocN ?_
            intro wz hwz hbwz
            have hz : RB wz (.slice (some ⟨w2.heap.size, 0, none⟩) 1 1) [0] := by rw [hwz]; exact RB.lit w2 5 (0, 0) [0] _ rfl 1 rfl (by decide)
            clear hwz
            try (go_wp2_with fail)
            have hHeld' := SB.step hHeld hbwz
            refine hK.out _ _ ?_ (fun _ => ?_)
            · exact hHeld'
            clear hK K
            try simp only [Act.put, List.setIfInBounds_toArray, List.set_cons_zero, List.set_cons_succ]
            have hHeld := SB.more hHeld'
            clear hHeld'
            refine wpAnyH_more (S' := SB [wz, w2, w1, wr]) (fun W h => SB.less W h) _ _ _ _ ?_
            refine wpAnyH_ready (rs := [9]) (by kernel_rfl) (by simp) ?_
            refine AllReadyH.cons (o := { dst := some 38, op := Op.call { callee := Callee.value (Operand.func 71), args := #[Operand.tmp 36, Operand.tmp 37], argTypes := #[23, 23] }, type := 23, pos := "ref.go:45", after := #[{ on := 7, ground := Ground.data }, { on := 8, ground := Ground.data }, { on := 7, ground := Ground.chain }], guard := none }) rfl (fun K hK => ?_) AllReadyH.nil
            go_simp
            refine (join_any _ _ _ [0] (by rw [List.length_append]; omega) (by decide) _ ((RB.own hown2).below (SB.b1 hHeld)) (hz.below (SB.b0 hHeld))).mono ?_
            rintro x w3 ⟨v3, rfl, hown3, hbw3⟩
            try (go_wp2_with fail)
            have hHeld' := SB.step hHeld hbw3
            refine hK.out _ _ ?_ (fun _ => ?_)
            · exact hHeld'
            clear hK K
            try simp only [Act.put, List.setIfInBounds_toArray, List.set_cons_zero, List.set_cons_succ]
            have hHeld := SB.more hHeld'
            clear hHeld'
            refine wpAnyH_more (S' := SB [w3, wz, w2, w1, wr]) (fun W h => SB.less W h) _ _ _ _ ?_
            refine wpAnyH_ready (rs := [16]) (by kernel_rfl) (by simp) ?_
            refine AllReadyH.cons (o := { dst := some 45, op := Op.call { callee := Callee.value (Operand.func 72), args := #[Operand.tmp 44], argTypes := #[9] }, type := 23, pos := "ref.go:45", after := #[{ on := 15, ground := Ground.data }, { on := 9, ground := Ground.chain }], guard := none }) rfl (fun K hK => ?_) AllReadyH.nil
            go_simp
            refine (refText_any ⟨val.toArray⟩ hvs _).mono ?_
            rintro x w4 ⟨v4, rfl, hown4, hbw4⟩
            try (go_wp2_with fail)
            have hHeld' := SB.step hHeld hbw4
            refine hK.out _ _ ?_ (fun _ => ?_)
            · exact hHeld'
            clear hK K
            try simp only [Act.put, List.setIfInBounds_toArray, List.set_cons_zero, List.set_cons_succ]
            have hHeld := SB.more hHeld'
            clear hHeld'
            refine wpAnyH_more (S' := SB [w4, w3, wz, w2, w1, wr]) (fun W h => SB.less W h) _ _ _ _ ?_
            refine wpAnyH_ready (rs := [17]) (by kernel_rfl) (by simp) ?_
            refine AllReadyH.cons (o := { dst := some 46, op := Op.call { callee := Callee.value (Operand.func 71), args := #[Operand.tmp 38, Operand.tmp 45], argTypes := #[23, 23] }, type := 23, pos := "ref.go:45", after := #[{ on := 9, ground := Ground.data }, { on := 16, ground := Ground.data }, { on := 16, ground := Ground.chain }], guard := none }) rfl (fun K hK => ?_) AllReadyH.nil
            go_simp
            refine (join_any _ _ _ _ (by simp only [List.length_append, List.length_cons, List.length_nil]; omega) (by omega) _ ((RB.own hown3).below (SB.b1 hHeld)) ((RB.own hown4).below (SB.b0 hHeld))).mono ?_
            have HB5 := Lib.hid ((SB.b5 hHeld).size)
            rintro x w5 ⟨v5, rfl, hown5, hbw5⟩
            try (go_wp2_with fail)
            have hHeld' := SB.step hHeld hbw5
            refine hK.out _ _ ?_ (fun _ => ?_)
            · exact hHeld'
            clear hK K
            try simp only [Act.put, List.setIfInBounds_toArray, List.set_cons_zero, List.set_cons_succ]
            have hHeld := SB.more hHeld'
            clear hHeld'
            refine wpAnyH_more (S' := SB [w5, w4, w3, wz, w2, w1, wr]) (fun W h => SB.less W h) _ _ _ _ ?_
            refine wpAnyH_take (i := 18) (oi := { dst := some 3, op := Op.assign (Operand.tmp 46), type := 23, pos := "ref.go:45", after := #[{ on := 17, ground := Ground.data }, { on := 17, ground := Ground.chain }, { on := 0, ground := Ground.phase }, { on := 1, ground := Ground.phase }, { on := 2, ground := Ground.phase }, { on := 3, ground := Ground.phase }, { on := 4, ground := Ground.phase }, { on := 5, ground := Ground.phase }, { on := 6, ground := Ground.phase }, { on := 7, ground := Ground.phase }, { on := 8, ground := Ground.phase }, { on := 9, ground := Ground.phase }, { on := 10, ground := Ground.phase }, { on := 11, ground := Ground.phase }, { on := 12, ground := Ground.phase }, { on := 13, ground := Ground.phase }, { on := 14, ground := Ground.phase }, { on := 15, ground := Ground.phase }, { on := 16, ground := Ground.phase }, { on := 17, ground := Ground.phase }], guard := none }) (v := ?_) rfl (by kernel_rfl) (by kernel_rfl) (by kernel_rfl) (fun _ _ _ h => h) (Or.inl ⟨by rfl, ?_⟩) (by assumption) ?_
            rotate_left
            · intro W hSw; go_simp; try (with_reducible rfl)
            try simp only [Act.put, List.setIfInBounds_toArray, List.set_cons_zero, List.set_cons_succ]
            refine wpAnyH_done (by kernel_rfl) ?_ _
            go_wp2
            go_roundw
            case rel =>
              refine ⟨k + 1, by omega, by go_num, ?_, HB.out.trans ((SB.b6 hHeld).mono HB.out.size)⟩
              rw [HNX.out]
              exact own_base hown5 (Nat.le_trans HB.out.size HB5.out)
            case measure => simp [intOf]; omega
          · go_simp
            refine gen_allocN ?_
            intro wz hwz hbwz
            have hz : RB wz (.slice (some ⟨w1.heap.size, 0, none⟩) 1 1) [0] := by rw [hwz]; exact RB.lit w1 5 (0, 0) [0] _ rfl 1 rfl (by decide)
            clear hwz
            try (go_wp2_with fail)
            have hHeld' := SB.step hHeld hbwz
            refine hK.out _ _ ?_ (fun _ => ?_)
            · exact hHeld'
            clear hK K
            try simp only [Act.put, List.setIfInBounds_toArray, List.set_cons_zero, List.set_cons_succ]
            have hHeld := SB.more hHeld'
            clear hHeld'
            refine wpAnyH_more (S' := SB [wz, w1, wr]) (fun W h => SB.less W h) _ _ _ _ ?_
            refine wpAnyH_ready (rs := [7]) (by kernel_rfl) (by simp) ?_
            refine AllReadyH.cons (o := { dst := some 36, op := Op.call { callee := Callee.value (Operand.func 71), args := #[Operand.tmp 29, Operand.tmp 35], argTypes := #[23, 23] }, type := 23, pos := "ref.go:45", after := #[{ on := 0, ground := Ground.data }, { on := 6, ground := Ground.data }, { on := 6, ground := Ground.chain }], guard := none }) rfl (fun K hK => ?_) AllReadyH.nil
            go_simp
            refine (join_any _ _ _ _ (by omega) (by omega) _ (HO.out.below (SB.b2 hHeld)) ((RB.own hown1).below (SB.b1 hHeld))).mono ?_
            rintro x w2 ⟨v2, rfl, hown2, hbw2⟩
            try (go_wp2_with fail)
            have hHeld' := SB.step hHeld hbw2
            refine hK.out _ _ ?_ (fun _ => ?_)
            · exact hHeld'
            clear hK K
            try simp only [Act.put, List.setIfInBounds_toArray, List.set_cons_zero, List.set_cons_succ]
            have hHeld := SB.more hHeld'
            clear hHeld'
            refine wpAnyH_more (S' := SB [w2, wz, w1, wr]) (fun W h => SB.less W h) _ _ _ _ ?_
            refine wpAnyH_ready (rs := [9]) (by kernel_rfl) (by simp) ?_
            refine AllReadyH.cons (o := { dst := some 38, op := Op.call { callee := Callee.value (Operand.func 71), args := #[Operand.tmp 36, Operand.tmp 37], argTypes := #[23, 23] }, type := 23, pos := "ref.go:45", after := #[{ on := 7, ground := Ground.data }, { on := 8, ground := Ground.data }, { on := 7, ground := Ground.chain }], guard := none }) rfl (fun K hK => ?_) AllReadyH.nil
            go_simp
            refine (join_any _ _ _ [0] (by rw [List.length_append]; omega) (by decide) _ ((RB.own hown2).below (SB.b0 hHeld)) (hz.below (SB.b1 hHeld))).mono ?_
            rintro x w3 ⟨v3, rfl, hown3, hbw3⟩
            try (go_wp2_with fail)
            have hHeld' := SB.step hHeld hbw3
            refine hK.out _ _ ?_ (fun _ => ?_)
            · exact hHeld'
            clear hK K
            try simp only [Act.put, List.setIfInBounds_toArray, List.set_cons_zero, List.set_cons_succ]
            have hHeld := SB.more hHeld'
            clear hHeld'
            refine wpAnyH_more (S' := SB [w3, w2, wz, w1, wr]) (fun W h => SB.less W h) _ _ _ _ ?_
            refine wpAnyH_ready (rs := [16]) (by kernel_rfl) (by simp) ?_
            refine AllReadyH.cons (o := { dst := some 45, op := Op.call { callee := Callee.value (Operand.func 72), args := #[Operand.tmp 44], argTypes := #[9] }, type := 23, pos := "ref.go:45", after := #[{ on := 15, ground := Ground.data }, { on := 9, ground := Ground.chain }], guard := none }) rfl (fun K hK => ?_) AllReadyH.nil
            go_simp
            refine (refText_any ⟨val.toArray⟩ hvs _).mono ?_
            rintro x w4 ⟨v4, rfl, hown4, hbw4⟩
            try (go_wp2_with fail)
            have hHeld' := SB.step hHeld hbw4
            refine hK.out _ _ ?_ (fun _ => ?_)
            · exact hHeld'
            clear hK K
            try simp only [Act.put, List.setIfInBounds_toArray, List.set_cons_zero, List.set_cons_succ]
            have hHeld := SB.more hHeld'
            clear hHeld'
            refine wpAnyH_more (S' := SB [w4, w3, w2, wz, w1, wr]) (fun W h => SB.less W h) _ _ _ _ ?_
            refine wpAnyH_ready (rs := [17]) (by kernel_rfl) (by simp) ?_
            refine AllReadyH.cons (o := { dst := some 46, op := Op.call { callee := Callee.value (Operand.func 71), args := #[Operand.tmp 38, Operand.tmp 45], argTypes := #[23, 23] }, type := 23, pos := "ref.go:45", after := #[{ on := 9, ground := Ground.data }, { on := 16, ground := Ground.data }, { on := 16, ground := Ground.chain }], guard := none }) rfl (fun K hK => ?_) AllReadyH.nil
            go_simp
            refine (join_any _ _ _ _ (by simp only [List.length_append, List.length_cons, List.length_nil]; omega) (by omega) _ ((RB.own hown3).below (SB.b1 hHeld)) ((RB.own hown4).below (SB.b0 hHeld))).mono ?_
            have HB5 := Lib.hid ((SB.b5 hHeld).size)
            rintro x w5 ⟨v5, rfl, hown5, hbw5⟩
            try (go_wp2_with fail)
            have hHeld' := SB.step hHeld hbw5
            refine hK.out _ _ ?_ (fun _ => ?_)
            · exact hHeld'
            clear hK K
            try simp only [Act.put, List.setIfInBounds_toArray, List.set_cons_zero, List.set_cons_succ]
            have hHeld := SB.more hHeld'
            clear hHeld'
            refine wpAnyH_more (S' := SB [w5, w4, w3, w2, wz, w1, wr]) (fun W h => SB.less W h) _ _ _ _ ?_
            refine wpAnyH_take (i := 18) (oi := { dst := some 3, op := Op.assign (Operand.tmp 46), type := 23, pos := "ref.go:45", after := #[{ on := 17, ground := Ground.data }, { on := 17, ground := Ground.chain }, { on := 0, ground := Ground.phase }, { on := 1, ground := Ground.phase }, { on := 2, ground := Ground.phase }, { on := 3, ground := Ground.phase }, { on := 4, ground := Ground.phase }, { on := 5, ground := Ground.phase }, { on := 6, ground := Ground.phase }, { on := 7, ground := Ground.phase }, { on := 8, ground := Ground.phase }, { on := 9, ground := Ground.phase }, { on := 10, ground := Ground.phase }, { on := 11, ground := Ground.phase }, { on := 12, ground := Ground.phase }, { on := 13, ground := Ground.phase }, { on := 14, ground := Ground.phase }, { on := 15, ground := Ground.phase }, { on := 16, ground := Ground.phase }, { on := 17, ground := Ground.phase }], guard := none }) (v := ?_) rfl (by kernel_rfl) (by kernel_rfl) (by kernel_rfl) (fun _ _ _ h => h) (Or.inl ⟨by rfl, ?_⟩) (by assumption) ?_
            rotate_left
            · intro W hSw; go_simp; try (with_reducible rfl)
            try simp only [Act.put, List.setIfInBounds_toArray, List.set_cons_zero, List.set_cons_succ]
            refine wpAnyH_done (by kernel_rfl) ?_ _
            go_wp2
            go_roundw
            case rel =>
              refine ⟨k + 1, by omega, by go_num, ?_, HB.out.trans ((SB.b6 hHeld).mono HB.out.size)⟩
              rw [HNX.out]
              exact own_base hown5 (Nat.le_trans HB.out.size HB5.out)
            case measure => simp [intOf]; omega
        · go_simp
          refine gen_allocN ?_
          intro wz hwz hbwz
          have hz : RB wz (.slice (some ⟨w0.heap.size, 0, none⟩) 1 1) [0] := by rw [hwz]; exact RB.lit w0 5 (0, 0) [0] _ rfl 1 rfl (by decide)
          clear hwz
          try (go_wp2_with fail)
          have hHeld' := SB.step hHeld hbwz
          refine hK.out _ _ ?_ (fun _ => ?_)
          · exact hHeld'
          clear hK K
          try simp only [Act.put, List.setIfInBounds_toArray, List.set_cons_zero, List.set_cons_succ]
          have hHeld := SB.more hHeld'
          clear hHeld'
          refine wpAnyH_more (S' := SB [wz, wr]) (fun W h => SB.less W h) _ _ _ _ ?_
          refine wpAnyH_ready (rs := [6]) (by kernel_rfl) (by simp) ?_
          refine AllReadyH.cons (o := { dst := some 35, op := Op.call { callee := Callee.value (Operand.func 72), args := #[Operand.tmp 34], argTypes := #[9] }, type := 23, pos := "ref.go:45", after := #[{ on := 5, ground := Ground.data }], guard := none }) rfl (fun K hK => ?_) AllReadyH.nil
          go_simp
          refine (refText_any key hks _).mono ?_
          rintro x w1 ⟨v1, rfl, hown1, hbw1⟩
          try (go_wp2_with fail)
          have hHeld' := SB.step hHeld hbw1
          refine hK.out _ _ ?_ (fun _ => ?_)
          · exact hHeld'
          clear hK K
          try simp only [Act.put, List.setIfInBounds_toArray, List.set_cons_zero, List.set_cons_succ]
          have hHeld := SB.more hHeld'
          clear hHeld'
          refine wpAnyH_more (S' := SB [w1, wz, wr]) (fun W h => SB.less W h) _ _ _ _ ?_
          refine wpAnyH_ready (rs := [7]) (by kernel_rfl) (by simp) ?_
          refine AllReadyH.cons (o := { dst := some 36, op := Op.call { callee := Callee.value (Operand.func 71), args := #[Operand.tmp 29, Operand.tmp 35], argTypes := #[23, 23] }, type := 23, pos := "ref.go:45", after := #[{ on := 0, ground := Ground.data }, { on := 6, ground := Ground.data }, { on := 6, ground := Ground.chain }], guard := none }) rfl (fun K hK => ?_) AllReadyH.nil
          go_simp
          refine (join_any _ _ _ _ (by omega) (by omega) _ (HO.out.below (SB.b2 hHeld)) ((RB.own hown1).below (SB.b0 hHeld))).mono ?_
          rintro x w2 ⟨v2, rfl, hown2, hbw2⟩
          try (go_wp2_with fail)
          have hHeld' := SB.step hHeld hbw2
          refine hK.out _ _ ?_ (fun _ => ?_)
          · exact hHeld'
          clear hK K
          try simp only [Act.put, List.setIfInBounds_toArray, List.set_cons_zero, List.set_cons_succ]
          have hHeld := SB.more hHeld'
          clear hHeld'
          refine wpAnyH_more (S' := SB [w2, w1, wz, wr]) (fun W h => SB.less W h) _ _ _ _ ?_
          refine wpAnyH_ready (rs := [9]) (by kernel_rfl) (by simp) ?_
          refine AllReadyH.cons (o := { dst := some 38, op := Op.call { callee := Callee.value (Operand.func 71), args := #[Operand.tmp 36, Operand.tmp 37], argTypes := #[23, 23] }, type := 23, pos := "ref.go:45", after := #[{ on := 7, ground := Ground.data }, { on := 8, ground := Ground.data }, { on := 7, ground := Ground.chain }], guard := none }) rfl (fun K hK => ?_) AllReadyH.nil
          go_simp
          refine (join_any _ _ _ [0] (by rw [List.length_append]; omega) (by decide) _ ((RB.own hown2).below (SB.b0 hHeld)) (hz.below (SB.b2 hHeld))).mono ?_
          rintro x w3 ⟨v3, rfl, hown3, hbw3⟩
          try (go_wp2_with fail)
          have hHeld' := SB.step hHeld hbw3
          refine hK.out _ _ ?_ (fun _ => ?_)
          · exact hHeld'
          clear hK K
          try simp only [Act.put, List.setIfInBounds_toArray, List.set_cons_zero, List.set_cons_succ]
          have hHeld := SB.more hHeld'
          clear hHeld'
          refine wpAnyH_more (S' := SB [w3, w2, w1, wz, wr]) (fun W h => SB.less W h) _ _ _ _ ?_
          refine wpAnyH_ready (rs := [16]) (by kernel_rfl) (by simp) ?_
          refine AllReadyH.cons (o := { dst := some 45, op := Op.call { callee := Callee.value (Operand.func 72), args := #[Operand.tmp 44], argTypes := #[9] }, type := 23, pos := "ref.go:45", after := #[{ on := 15, ground := Ground.data }, { on := 9, ground := Ground.chain }], guard := none }) rfl (fun K hK => ?_) AllReadyH.nil
          go_simp
          refine (refText_any ⟨val.toArray⟩ hvs _).mono ?_
          rintro x w4 ⟨v4, rfl, hown4, hbw4⟩
          try (go_wp2_with fail)
          have hHeld' := SB.step hHeld hbw4
          refine hK.out _ _ ?_ (fun _ => ?_)
          · exact hHeld'
          clear hK K
          try simp only [Act.put, List.setIfInBounds_toArray, List.set_cons_zero, List.set_cons_succ]
          have hHeld := SB.more hHeld'
          clear hHeld'
          refine wpAnyH_more (S' := SB [w4, w3, w2, w1, wz, wr]) (fun W h => SB.less W h) _ _ _ _ ?_
          refine wpAnyH_ready (rs := [17]) (by kernel_rfl) (by simp) ?_
          refine AllReadyH.cons (o := { dst := some 46, op := Op.call { callee := Callee.value (Operand.func 71), args := #[Operand.tmp 38, Operand.tmp 45], argTypes := #[23, 23] }, type := 23, pos := "ref.go:45", after := #[{ on := 9, ground := Ground.data }, { on := 16, ground := Ground.data }, { on := 16, ground := Ground.chain }], guard := none }) rfl (fun K hK => ?_) AllReadyH.nil
          go_simp
          refine (join_any _ _ _ _ (by simp only [List.length_append, List.length_cons, List.length_nil]; omega) (by omega) _ ((RB.own hown3).below (SB.b1 hHeld)) ((RB.own hown4).below (SB.b0 hHeld))).mono ?_
          have HB5 := Lib.hid ((SB.b5 hHeld).size)
          rintro x w5 ⟨v5, rfl, hown5, hbw5⟩
          try (go_wp2_with fail)
          have hHeld' := SB.step hHeld hbw5
          refine hK.out _ _ ?_ (fun _ => ?_)
          · exact hHeld'
          clear hK K
          try simp only [Act.put, List.setIfInBounds_toArray, List.set_cons_zero, List.set_cons_succ]
          have hHeld := SB.more hHeld'
          clear hHeld'
          refine wpAnyH_more (S' := SB [w5, w4, w3, w2, w1, wz, wr]) (fun W h => SB.less W h) _ _ _ _ ?_
          refine wpAnyH_take (i := 18) (oi := { dst := some 3, op := Op.assign (Operand.tmp 46), type := 23, pos := "ref.go:45", after := #[{ on := 17, ground := Ground.data }, { on := 17, ground := Ground.chain }, { on := 0, ground := Ground.phase }, { on := 1, ground := Ground.phase }, { on := 2, ground := Ground.phase }, { on := 3, ground := Ground.phase }, { on := 4, ground := Ground.phase }, { on := 5, ground := Ground.phase }, { on := 6, ground := Ground.phase }, { on := 7, ground := Ground.phase }, { on := 8, ground := Ground.phase }, { on := 9, ground := Ground.phase }, { on := 10, ground := Ground.phase }, { on := 11, ground := Ground.phase }, { on := 12, ground := Ground.phase }, { on := 13, ground := Ground.phase }, { on := 14, ground := Ground.phase }, { on := 15, ground := Ground.phase }, { on := 16, ground := Ground.phase }, { on := 17, ground := Ground.phase }], guard := none }) (v := ?_) rfl (by kernel_rfl) (by kernel_rfl) (by kernel_rfl) (fun _ _ _ h => h) (Or.inl ⟨by rfl, ?_⟩) (by assumption) ?_
          rotate_left
          · intro W hSw; go_simp; try (with_reducible rfl)
          try simp only [Act.put, List.setIfInBounds_toArray, List.set_cons_zero, List.set_cons_succ]
          refine wpAnyH_done (by kernel_rfl) ?_ _
          go_wp2
          go_roundw
          case rel =>
            refine ⟨k + 1, by omega, by go_num, ?_, HB.out.trans ((SB.b6 hHeld).mono HB.out.size)⟩
            rw [HNX.out]
            exact own_base hown5 (Nat.le_trans HB.out.size HB5.out)
          case measure => simp [intOf]; omega
      · have hput := chgL_gone key val
        rw [hput] at hnext
        have hnx : numL rs.length ++ chgsB (rs.take (k + 1)) = acc ++ textL key.data.toList ++ [1] := by rw [hnext]; simp [List.append_assoc]
        have HNX := Lib.hid hnx
        clear hput hnx hnext HTL
        go_wp2_with fail
        refine (refText_any key hks _).mono ?_
        rintro x w1 ⟨v1, rfl, hown1, hbw1⟩
        go_wp2_with fail
        refine (join_any _ _ _ _ (by omega) (by omega) _ (HO.out.below hbw1) (RB.own hown1)).mono ?_
        rintro x w2 ⟨v2, rfl, hown2, hbw2⟩
        have HB2 := Lib.hid (hbw1.trans (hbw2.mono hbw1.size))
        go_wp2_with fail
        have hbl : Below w2.heap.size w2 (w2.alloc (.cells #[.int .u8 1] 5 (0, 0))) := (Below.refl _ _).alloc (Nat.le_refl _) _
        refine (join_any _ _ _ [1] (by rw [List.length_append]; omega) (by decide) _ ((RB.own hown2).below hbl) (RB.lit w2 5 (0, 0) [1] _ rfl 1 rfl (by decide))).mono ?_
        rintro x w3 ⟨v3, rfl, hown3, hbw3⟩
        have HB3 := Lib.hid (hbl.trans (hbw3.mono hbl.size))
        go_wp2
        go_roundw
        case rel =>
          refine ⟨k + 1, by omega, by go_num, ?_, ?_⟩
          · rw [HNX.out]
            exact own_base hown3 (Nat.le_trans HB.out.size (Nat.le_trans HB2.out.size hbl.size))
          · exact HB.out.trans ((HB2.out.trans (HB3.out.mono HB2.out.size)).mono HB.out.size)
        case measure => simp [intOf]; omega
    · go_wp2
      go_ret
      have : k = rs.length := by omega
      subst this
      rw [List.take_length] at hown
      exact ⟨_, rfl, hown, hbel⟩
end Go.Proofs.Ytomkbgghljcbfaa

/-
  The contract of the reference's Parts.
-/
namespace Go.Proofs.Ytomkbgghljcbfaa
open Go.RowKit Go.Rst Go.Crc
/-- What Parts hands back. -/
def GivesPt (w : World) (r : List (List UInt8) × Bool) (e : Ending) (w' : World) : Prop :=
  ∃ u, e = .returned (.tuple #[u, .bool r.2]) ∧ OP 5 23 w' w.heap.size u r.1 ∧ Below w.heap.size w w'
theorem GivesPt.none {w w' : World} {r : List (List UInt8) × Bool} (h : r = ([], false)) (hb : Below w.heap.size w w') : GivesPt w r (.returned (.tuple #[.slice none 0 0, .bool false])) w' := by
  subst h
  exact ⟨_, rfl, OP.nil_ _ _ _ _, hb⟩
theorem chgsL_pos (cs : List Chg) : 0 < (chgsL cs).length := by
  have := numL_pos cs.length
  unfold chgsL
  rw [List.length_append]
  omega

set_option maxRecDepth 100000 in
set_option maxHeartbeats 1600000 in
theorem refParts_any (epoch n : Int) (v : Value) (cs : List Chg) (w : World) (hv : RC w v cs) (hbig : (chgsB cs).length ≤ 100000000) (hn : cs.length ≤ 100000000) :
    Calls Try.prog 25 #[.int .i64 epoch, .int .i64 n, v] w (GivesPt w (partsL epoch n cs)) := by
  have hcall := refChanges_any v cs hbig hn
  have hbl : (chgsL cs).length ≤ 100000010 := by
    have := numL_len8 (n := cs.length) (by omega)
    unfold chgsL
    rw [List.length_append]
    omega
  have hbp := chgsL_pos cs
  have hP : partsL epoch n cs = if epoch < 0 ∨ 1073741824 < epoch ∨ n < 0 ∨ 1073741824 < n then ([], false)
    else if 200 < ofL (chgsL cs) then ([], false) else (secL epoch.toNat n.toNat (chgsL cs) (ofL (chgsL cs)), true) := rfl
  generalize chgsL cs = bl at *
  generalize partsL epoch n cs = R at *
  have HV := Lib.hid hv
  have HC := Lib.hid hcall
  clear hv hcall hbig hn
  rcases (show epoch < 0 ∨ 1073741824 < epoch ∨ (0 ≤ epoch ∧ epoch ≤ 1073741824 ∧ n < 0) ∨ (0 ≤ epoch ∧ epoch ≤ 1073741824 ∧ 1073741824 < n) ∨ (0 ≤ epoch ∧ epoch ≤ 1073741824 ∧ 0 ≤ n ∧ n ≤ 1073741824) by omega) with h | h | ⟨h, h', h''⟩ | ⟨h, h', h''⟩ | ⟨h, h', h'', h3⟩
  iterate 4
    · rw [if_pos (by omega)] at hP
      have HP := Lib.hid hP
      clear hP
      go_enter Try.func25, Try.ntmps25
      go_wp2
      go_ret2
      exact GivesPt.none HP.out (Below.refl _ _)
  rw [if_neg (by omega)] at hP
  obtain ⟨ep, rfl⟩ := Int.eq_ofNat_of_zero_le h
  obtain ⟨fr, rfl⟩ := Int.eq_ofNat_of_zero_le h''
  simp only [Int.toNat_natCast] at hP
  obtain ⟨of, hof⟩ : ∃ of, of = ofL bl := ⟨_, rfl⟩
  rw [← hof] at hP
  have hofd : ((bl.length : Int) + 48) / 49 = of := by rw [hof]; unfold ofL; omega
  have hofd' : ((bl.length : Int) + 48).tdiv 49 = of := by rw [Int.tdiv_eq_ediv_of_nonneg (by omega)]; exact hofd
  have HP := Lib.hid hP
  have HOF := Lib.hid hof
  clear hP
  go_enter Try.func25, Try.ntmps25
  go_wp2_with fail
  refine (HC.out _ HV.out).mono ?_
  rintro e w1 ⟨vb, rfl, hown1, hbel1⟩
  obtain ⟨L, hL⟩ : ∃ L, L = bl.length := ⟨_, rfl⟩
  obtain ⟨g, cb, rfl⟩ := ownsRow_succ (k := bl.length - 1) (by rw [Nat.sub_add_cancel hbp]; exact hown1)
  rw [Nat.sub_add_cancel hbp] at hown1 ⊢
  have HRB := Lib.hid (RB.own hown1)
  have HB1 := Lib.hid hbel1
  have hsz1 := hbel1.size
  clear hown1 hbel1 hof
  rw [← hL] at hofd hofd' hbl ⊢
  have HLN := Lib.hid hL
  have hcb : L ≤ cb := by
    obtain ⟨A', c', he, h1, _⟩ := HRB.out
    injection he with _ _ e3
    omega
  have hlow : ∀ k, k < of → 49 * k < L := by intro k hk; omega
  have hofb : (of : Int) ≤ 3000000 := by omega
  clear hL hbp hofd
  by_cases hbig : 200 < of
  · have HP2 := Lib.hid (show R = ([], false) by rw [HP.out, if_pos hbig])
    clear HP
    go_wp2
    go_ret2
    exact GivesPt.none HP2.out HB1.out
  · have HP2 := Lib.hid (show R = (secL ep fr bl of, true) by rw [HP.out, if_neg hbig])
    clear HP
    go_wp2
    go_loopw [10, 11] (fun o i wr => ∃ k : Nat, k ≤ of ∧ i = .int .i64 k ∧ OP 5 23 wr w1.heap.size o (secL ep fr bl k) ∧ Below w1.heap.size w1 wr)
      (fun _ i _ => of - (intOf i).toNat)
    case atStart => exact ⟨0, Nat.zero_le _, rfl, OP.nil_ _ _ _ _, Below.refl _ _⟩
    case round =>
      obtain ⟨k, hk, rfl, hop, hbel⟩ := hrel
      obtain ⟨Ao, co, rfl, _, _⟩ := hop.shape
      simp only [secL_length] at hop ⊢
      have hsz := hbel.size
      by_cases hlt : k < of
      · have hlo := hlow k hlt
        have HR2 := Lib.hid (HRB.out.below hbel)
        have hsec := secL_succ ep fr bl k
        have HSEC := Lib.hid hsec
        have hoffl := HOF.out
        have HOP := Lib.hid hop
        have HB := Lib.hid hbel
        have hcb2 : ¬ (cb = 49 * k) := by omega
        clear hsec hlow hoffl hop hbel
        have hkk : (k : Int) < of := by omega
        have hcb3 : (L : Int) ≤ cb := by omega
        have hpl : (pcL bl k).length ≤ 49 := by rw [pcL_length]; omega
        have HPL := Lib.hid hpl
        rcases Nat.lt_or_ge L (49 * k + 49) with hend | hend
        all_goals
          have hpc := HR2.out.cut (q := 49 * k) (n := min 49 (L - 49 * k)) (by rw [← HLN.out]; omega)
          have hpe : (bl.drop (49 * k)).take (min 49 (L - 49 * k)) = pcL bl k := by
            unfold pcL
            rw [← List.take_take, List.take_of_length_le (l := (bl.drop (49 * k))) (by rw [List.length_drop, ← HLN.out]; omega)]
          rw [hpe, Nat.zero_add] at hpc
          clear hpe
        · rw [show min 49 (L - 49 * k) = L - 49 * k by omega] at hpc
          have HPC := Lib.hid hpc
          clear hpc hpl
          go_wp2_with fail
          refine (part_any ep fr k of _ (pcL bl k) (by omega) (by omega) _ HPC.out HPL.out).mono ?_
          rintro e w4 ⟨v4, rfl, hown4, hbel4⟩
          have hfb4 := FB.own hown4
          obtain ⟨A4, c4, rfl, _⟩ := own_shape hown4
          obtain ⟨up, hup, hpo, hpf⟩ := (HOP.out.below hbel4).alloc (Obj.cells #[.slice A4 (partL ep fr k of (pcL bl k)).length c4] 23)
          have hfb5 := (hfb4.base_ (base' := w1.heap.size) hsz).below ((Below.refl _ _).alloc (Nat.le_refl _) (Obj.cells #[.slice A4 (partL ep fr k of (pcL bl k)).length c4] 23))
          have hbel5 := (HB.out.trans (hbel4.mono hsz)).alloc (HB.out.trans (hbel4.mono hsz)).size (Obj.cells #[.slice A4 (partL ep fr k of (pcL bl k)).length c4] 23)
          have hsz4 := (HB.out.trans (hbel4.mono hsz)).size
          have HLP := Lib.hid (show up.length = k by have h := congrArg List.length hup; rw [List.length_map, secL_length] at h; exact h)
          have HUP := Lib.hid hup
          rw [show k = up.length from HLP.out.symm] at hpo
          have HF5 := Lib.hid hfb5
          clear hup hown4 hfb4 hfb5 hbel4 HOP
          rw [HLP.out] at hpo
          go_wp2_with (at_builtin; refine wpList_own rfl (.tmp 39) (.tmp 55) 29 29 rfl w1.heap.size 23 (.slice none 0 0) 1 24 Try.underlying29 info23 rfl rfl hpo rfl (src_one _ Try.underlying29 23 _ rfl) hbel5 (Nat.le_refl _) ?_ ?_ ?_ ?_)
          · have := HLP.out; unfold maxLen; omega
          · have := HLP.out; omega
          · simp; omega
          intro v6 w6 ho6 hb6 hg6
          have hop7 := OP.push (e := 5) (eP := 23) (by decide) (by rw [HLP.out]; exact hpo) hpf HF5.out (by rw [HLP.out]; exact ho6) hg6
          rw [HUP.out, HOF.out, ← HSEC.out] at hop7
          have HOP7 := Lib.hid hop7
          have HB6 := Lib.hid hb6
          clear hpo hpf ho6 hb6 hg6 hop7 hbel5
          go_wp2
          go_roundw
          case rel => exact ⟨k + 1, by omega, by go_num, HOP7.out, HB6.out⟩
          case measure => simp [intOf]; omega
        · rw [show min 49 (L - 49 * k) = 49 by omega] at hpc
          have HPC := Lib.hid hpc
          clear hpc hpl
          go_wp2_with fail
          refine (part_any ep fr k of _ (pcL bl k) (by omega) (by omega) _ HPC.out HPL.out).mono ?_
          rintro e w4 ⟨v4, rfl, hown4, hbel4⟩
          have hfb4 := FB.own hown4
          obtain ⟨A4, c4, rfl, _⟩ := own_shape hown4
          obtain ⟨up, hup, hpo, hpf⟩ := (HOP.out.below hbel4).alloc (Obj.cells #[.slice A4 (partL ep fr k of (pcL bl k)).length c4] 23)
          have hfb5 := (hfb4.base_ (base' := w1.heap.size) hsz).below ((Below.refl _ _).alloc (Nat.le_refl _) (Obj.cells #[.slice A4 (partL ep fr k of (pcL bl k)).length c4] 23))
          have hbel5 := (HB.out.trans (hbel4.mono hsz)).alloc (HB.out.trans (hbel4.mono hsz)).size (Obj.cells #[.slice A4 (partL ep fr k of (pcL bl k)).length c4] 23)
          have hsz4 := (HB.out.trans (hbel4.mono hsz)).size
          have HLP := Lib.hid (show up.length = k by have h := congrArg List.length hup; rw [List.length_map, secL_length] at h; exact h)
          have HUP := Lib.hid hup
          rw [show k = up.length from HLP.out.symm] at hpo
          have HF5 := Lib.hid hfb5
          clear hup hown4 hfb4 hfb5 hbel4 HOP
          rw [HLP.out] at hpo
          go_wp2_with (at_builtin; refine wpList_own rfl (.tmp 39) (.tmp 55) 29 29 rfl w1.heap.size 23 (.slice none 0 0) 1 24 Try.underlying29 info23 rfl rfl hpo rfl (src_one _ Try.underlying29 23 _ rfl) hbel5 (Nat.le_refl _) ?_ ?_ ?_ ?_)
          · have := HLP.out; unfold maxLen; omega
          · have := HLP.out; omega
          · simp; omega
          intro v6 w6 ho6 hb6 hg6
          have hop7 := OP.push (e := 5) (eP := 23) (by decide) (by rw [HLP.out]; exact hpo) hpf HF5.out (by rw [HLP.out]; exact ho6) hg6
          rw [HUP.out, HOF.out, ← HSEC.out] at hop7
          have HOP7 := Lib.hid hop7
          have HB6 := Lib.hid hb6
          clear hpo hpf ho6 hb6 hg6 hop7 hbel5
          go_wp2
          go_roundw
          case rel => exact ⟨k + 1, by omega, by go_num, HOP7.out, HB6.out⟩
          case measure => simp [intOf]; omega
      · obtain rfl : k = of := by omega
        clear hofd' hlow
        go_wp2
        go_ret2
        rw [HP2.out]
        exact ⟨_, rfl, hop.base_ hsz1, HB1.out.trans (hbel.mono hsz1)⟩
end Go.Proofs.Ytomkbgghljcbfaa
