/-
  The contracts of the reference's Num, join and Text: they make the same bytes as the code's.
-/
import Derived.Test.YtbacdeogggcbfaaGWords
import Derived.Test.YtbacdeogggcbfaaGPure
import Derived.Test.YtbacdeogggcbfaaSame

namespace Go.Proofs.Ytbacdeogggcbfaa
open Go.RowKit Go.Rst
theorem refByte (k : Nat) : (128 : Int) + (k : Int) % 128 = ((UInt8.ofNat (k % 128 + 128)).toNat : Int) := by
  have : (UInt8.ofNat (k % 128 + 128)).toNat = k % 128 + 128 := byte_val (by omega)
  rw [this]; omega

set_option maxRecDepth 100000 in
set_option maxHeartbeats 400000 in
theorem refNum_any (n : Int) (w : World) : Calls Try.prog 41 #[.int .i64 n] w (NewB 5 w (numL (clip n))) := by
  have hcl := clip_le n
  have h8 := numL_len8 hcl
  have hc : (clip n : Int) = max 0 (min n 9007199254740992) := by unfold clip; omega
  generalize clip n = c at *
  have HC := Lib.hid hc
  clear hc
  rcases (show n < 0 ∨ n = 0 ∨ (0 < n ∧ n ≤ 9007199254740992) ∨ 9007199254740992 < n from by omega) with h | rfl | ⟨h, h'⟩ | h
  all_goals
    go_enter Try.func41, Try.ntmps41
    go_wp2
    go_loopw [0, 3] (fun x b wr => ∃ (k : Nat) (acc : List UInt8), (k : Int) ≤ 9007199254740992 ∧ x = .int .i64 k ∧ acc ++ numL k = numL c ∧ wr.ownsRow w.heap.size 5 1 b acc.length (bvs acc) ∧ Below w.heap.size w wr)
      (fun x _ _ => (intOf x).toNat)
    case atStart => exact ⟨c, [], by omega, by have := HC.out; go_num, rfl, World.ownsRow_nil _ _ _ _, Below.refl _ _⟩
    case round =>
      obtain ⟨k, acc, hk, rfl, heq, hown, hbel⟩ := hrel
      have hsz := hbel.size
      have hlen : acc.length ≤ 7 := by
        have h1 := congrArg List.length heq
        rw [List.length_append] at h1
        have h2 := numL_pos k
        omega
      have H := Lib.hid heq
      clear heq
      by_cases hlt : 128 ≤ k
      · go_wp2_with (at_builtin; refine wpList_own rfl (.tmp 9) (.tmp 14) 23 23 rfl w.heap.size 5 (.int .u8 0) 1 1 Try.underlying23 info5 rfl rfl (hown.alloc _) rfl (src_one wr Try.underlying23 5 _ rfl) (hbel.alloc hbel.size _) (Nat.le_refl _) ?_ ?_ ?_ ?_)
        · unfold maxLen; omega
        · omega
        · simp; omega
        · intro v' w1 hown' hbel' _
          rw [refByte k] at hown'
          clear hown hbel
          go_wp2
          go_roundw
          case rel => exact ⟨k / 128, acc ++ [UInt8.ofNat (k % 128 + 128)], by omega, by go_num, by rw [← H.out, numL_ge hlt, List.append_assoc]; rfl, own_snoc hown', hbel'⟩
          case measure => simp [intOf]; omega
      · go_wp2_with (at_builtin; refine wpList_own rfl (.tmp 18) (.tmp 21) 23 23 rfl w.heap.size 5 (.int .u8 0) 1 1 Try.underlying23 info5 rfl rfl (hown.alloc _) rfl (src_one wr Try.underlying23 5 _ rfl) (hbel.alloc hbel.size _) (Nat.le_refl _) ?_ ?_ ?_ ?_)
        · unfold maxLen; omega
        · omega
        · simp; omega
        · intro v' w1 hown' hbel' _
          go_wp2
          go_ret
          rw [byte_last (show k < 128 by omega)] at hown'
          have e : numL c = acc ++ [UInt8.ofNat k] := by rw [← H.out, numL_lt (by omega)]
          exact ⟨v', rfl, by rw [e]; exact own_snoc hown', hbel'⟩

set_option maxRecDepth 100000 in
set_option maxHeartbeats 400000 in
theorem join_any (va vb : Value) (a b : List UInt8) (ha : a.length ≤ 10000000000) (hb : b.length ≤ 10000000000) (w : World) (h1 : RB w va a) (h2 : RB w vb b) : Calls Try.prog 56 #[va, vb] w (NewB 5 w (a ++ b)) := by
  have H1 := Lib.hid h1
  have H2 := Lib.hid h2
  obtain ⟨A1, c1, rfl, _⟩ := h1
  obtain ⟨A2, c2, rfl, _⟩ := h2
  go_enter Try.func56, Try.ntmps56
  go_wp2_with (at_builtin; refine wpList_own rfl (.tmp 6) (.tmp 7) 23 23 rfl w.heap.size 5 (.int .u8 0) 1 1 Try.underlying23 info5 rfl rfl (World.ownsRow_nil _ _ _ _) rfl (H1.out.src Try.underlying23) (Below.refl w.heap.size w) (Nat.le_refl _) ?_ ?_ ?_ ?_)
  · unfold maxLen; omega
  · omega
  · exact Nat.le_refl _
  intro v1 w1 hown hbel _
  have hown' : w1.ownsRow w.heap.size 5 1 v1 a.length (bvs a) := by simpa using hown
  have HO := Lib.hid hown'
  have HB := Lib.hid hbel
  clear hown hown' hbel
  go_wp2_with (at_builtin; refine wpList_own (n := a.length) (xs := bvs a) rfl (.tmp 9) (.tmp 10) 23 23 rfl w.heap.size 5 (.int .u8 0) 1 1 Try.underlying23 info5 rfl rfl HO.out rfl ((H2.out.below HB.out).src Try.underlying23) HB.out (Nat.le_refl _) ?_ ?_ ?_ ?_)
  · unfold maxLen; omega
  · omega
  · exact HB.out.size
  intro v2 w2 hown2 hbel2 _
  go_wp2
  go_ret
  exact ⟨v2, rfl, own_cat hown2, hbel2⟩

set_option maxRecDepth 100000 in
set_option maxHeartbeats 400000 in
theorem refText_any (s : ByteArray) (hs : s.size ≤ 1000000000) (w : World) : Calls Try.prog 53 #[.string s] w (NewB 5 w (textL s.data.toList)) := by
  have e1 : clip (s.size : Int) = s.data.toList.length := by unfold clip; rw [Array.length_toList]; show _ = s.size; omega
  have hnum := fun W => refNum_any (s.size : Int) W
  rw [e1] at hnum
  have h8 := numL_len8 (n := s.data.toList.length) (by rw [Array.length_toList]; show s.size ≤ _; omega)
  have hls : s.data.toList.length ≤ 1000000000 := by rw [Array.length_toList]; exact hs
  have HN := Lib.hid hnum
  clear hnum e1
  go_enter Try.func53, Try.ntmps53
  go_wp2_with fail
  refine (HN.out _).mono ?_
  rintro e w1 ⟨v, rfl, hown, hbel⟩
  have HR := Lib.hid (RB.own hown)
  have HB := Lib.hid hbel
  clear hown hbel
  go_wp2_with (refine wpList_bytes rfl (.tmp 6) 9 23 5 rfl Try.underlying9 Try.underlying23 Try.underlying5 (by rfl) ?_ ?_)
  · unfold maxLen; omega
  intro g c w2 hfb hb2
  have HF := Lib.hid hfb.rb
  have HB2 := Lib.hid hb2
  clear hfb hb2
  go_wp2_with fail
  refine (join_any _ _ _ _ (by omega) (by omega) _ (HR.out.below HB2.out) HF.out).mono ?_
  rintro e w3 ⟨v3, rfl, hown3, hb3⟩
  have h1 := HB.out.size
  have h2 := HB2.out.size
  go_wp2
  go_ret
  exact ⟨v3, rfl, own_base hown3 (by omega), (HB.out.trans (HB2.out.mono h1)).trans (hb3.mono (by omega))⟩
end Go.Proofs.Ytbacdeogggcbfaa

/-
  The contract of the document's own bytes of a row: they are the row's.
-/
namespace Go.Proofs.Ytbacdeogggcbfaa
open Go.RowKit Go.Rst

set_option maxRecDepth 100000 in
set_option maxHeartbeats 1600000 in
theorem refBytes_any (k : ByteArray) (v : Value) (l : List UInt8) (hk : k.size ≤ 100000000) (hl : l.length ≤ 100000000) (w : World) (hv : RB w v l) : Calls Try.prog 49 #[.agg #[.string k, v]] w (NewB 5 w (rowL k.data.toList l)) := by
  have hlen : (⟨l.toArray⟩ : ByteArray).size ≤ 1000000000 := by simp [ByteArray.size]; omega
  have t1 := textL_len (l := k.data.toList) (by rw [Array.length_toList]; show k.size ≤ _; omega)
  have t2 := textL_len (l := l) (by omega)
  have hW := hv.alloc (Obj.cells #[Value.string k, v] 25)
  have hb0 : Below w.heap.size w (w.alloc (Obj.cells #[Value.string k, v] 25)) := (Below.refl _ _).alloc (Nat.le_refl _) _
  have hs0 : w.heap.size < (w.alloc (Obj.cells #[Value.string k, v] 25)).heap.size := by simp
  have hc0 : (w.alloc (Obj.cells #[Value.string k, v] 25)).cell? ⟨w.heap.size, 0, none⟩ = some (.string k) := by simp
  have hc1 : (w.alloc (Obj.cells #[Value.string k, v] 25)).cell? ⟨w.heap.size, 1, none⟩ = some v := by simp
  obtain ⟨A, c, rfl, h1, h2, _⟩ := hv
  unfold maxLen at h2
  go_enter Try.func49, Try.ntmps49
  go_wp2_with fail
  generalize w.alloc (Obj.cells #[Value.string k, Value.slice A l.length c] 25) = W at *
  refine (refText_any k (by omega) _).mono ?_
  rintro e w1 ⟨v1, rfl, hown, hbel⟩
  have hy := (hbel.cell (p := ⟨w.heap.size, 1, none⟩) hs0).trans hc1
  have hstr := str22 (hW.below hbel)
  have HO := Lib.hid hown
  have HB := Lib.hid (hb0.trans (hbel.mono (Nat.le_of_lt hs0)))
  clear hown hbel hc0 hc1
  go_wp2_with fail
  refine (refText_any ⟨l.toArray⟩ hlen _).mono ?_
  rintro e w2 ⟨v2, rfl, hown2, hbel2⟩
  have HO2 := Lib.hid hown2
  have HO1 := Lib.hid (own_below HO.out hbel2)
  have HB2 := Lib.hid (HB.out.trans (hbel2.mono HB.out.size))
  clear hown2 hbel2 HO hstr hy
  go_wp2_with (at_builtin; refine wpList_own rfl (.tmp 12) (.tmp 13) 23 23 rfl w.heap.size 5 (.int .u8 0) 1 1 Try.underlying23 info5 rfl rfl (own_base HO1.out (Nat.le_of_lt hs0)) rfl ((RB.own HO2.out).src Try.underlying23) HB2.out (Nat.le_refl _) ?_ ?_ ?_ ?_)
  · unfold maxLen; omega
  · omega
  · exact HB2.out.size
  intro v3 w3 hown3 hbel3 _
  go_wp2
  go_ret
  exact ⟨v3, rfl, own_cat hown3, hbel3⟩
end Go.Proofs.Ytbacdeogggcbfaa

/-
  The contract of the document's own Fit: how many of any rows, from the first on, have room.
-/
namespace Go.Proofs.Ytbacdeogggcbfaa
open Go.RowKit Go.Rst Go.Pg

set_option maxRecDepth 100000 in
set_option maxHeartbeats 1600000 in
theorem refFit_any (v : Value) (rs : List Rw) (w : World) (hv : RR w v rs) :
    Calls Try.prog 39 #[v] w fun e w' => e = .returned (.int .i64 (fitN rs : Nat)) ∧ Below w.heap.size w w' := by
  have HV := Lib.hid hv
  obtain ⟨A, c, rfl, hlc, hc, _⟩ := hv
  unfold maxLen at hc
  go_enter Try.func39, Try.ntmps39
  go_wp2
  go_loopw [3, 4] (fun left i wr => ∃ k : Nat, k ≤ rs.length ∧ i = .int .i64 k ∧ left = .int .i64 (used (rs.take k) : Nat) ∧ used (rs.take k) ≤ 250 ∧ fitN rs = k + fitF (rs.drop k) (250 - used (rs.take k)) ∧ Below w.heap.size w wr)
    (fun _ i _ => rs.length - (intOf i).toNat)
  case atStart => exact ⟨0, Nat.zero_le _, rfl, rfl, by simp [used, body], by simp [used, body, fitN], Below.refl _ _⟩
  case round =>
    obtain ⟨k, hk, rfl, rfl, hu, hf, hbel⟩ := hrel
    by_cases hlt : k < rs.length
    · obtain ⟨b, off, u, rfl, hx0, hy0, hr0⟩ := rr_at HV.out hlt
      have hb : b < w.heap.size := by
        obtain ⟨A', c', he, _, _, h3⟩ := HV.out
        injection he with e1 _ _
        rcases h3 with rfl | ⟨b', off', h4, h5, _⟩
        · simp at hlt
        · rw [h4] at e1; injection e1 with e1; injection e1 with e1 _ _; omega
      have hx := (hbel.cell (p := ⟨b, off + k * 2, none⟩) hb).trans hx0
      have hy := (hbel.cell (p := ⟨b, off + k * 2 + 1, none⟩) hb).trans hy0
      have hru := hr0.below hbel
      rw [fit_go hlt hu, used_take hlt] at hf
      have hut := used_take hlt
      have hrp := rowB_pos rs[k]
      unfold rsz at hf hut
      generalize rs[k] = r at *
      obtain ⟨key, l⟩ := r
      simp only [] at hx hy hru hf hut
      obtain ⟨U, hU⟩ : ∃ U, U = used (rs.take k) := ⟨_, rfl⟩
      rw [← hU] at hu hf hut
      have HU := Lib.hid hU
      have HF := Lib.hid hf
      have HUT := Lib.hid hut
      obtain ⟨A2, c2, rfl, g1, g2, _⟩ : ∃ A2 c2, u = .slice A2 l.length c2 ∧ l.length ≤ c2 ∧ c2 ≤ maxLen ∧ True := by
        obtain ⟨A2, c2, h, h1, h2, _⟩ := hru
        exact ⟨A2, c2, h, h1, h2, trivial⟩
      have hB := hbel
      have HB := Lib.hid hbel
      have hsz := hbel.size
      have HR := Lib.hid hru
      unfold maxLen at g2
      rw [← hU]
      clear hU hf hut hx0 hy0 hr0 hbel hru HV
      by_cases hkey : 30 < key.size
      · have E := Lib.hid (show fitN rs = k by have := HF.out; rw [if_pos (.inl hkey)] at this; exact this)
        have hkey' : (30 : Int) < (key.size : Int) := by omega
        clear HF HUT
        go_wp2
        go_ret
        rw [E.out]
        exact ⟨rfl, HB.out⟩
      · have hkey' : (key.size : Int) ≤ 30 := by omega
        by_cases hval : 150 < l.length
        · have E := Lib.hid (show fitN rs = k by have := HF.out; rw [if_pos (.inr hval)] at this; exact this)
          have hval' : (150 : Int) < (l.length : Int) := by omega
          clear HF HUT
          go_wp2
          go_ret
          rw [E.out]
          exact ⟨rfl, HB.out⟩
        · have hval' : (l.length : Int) ≤ 150 := by omega
          have hF := HF.out
          rw [if_neg (by omega)] at hF
          have HF2 := Lib.hid hF
          have hcall := fun W hW => refBytes_any key (.slice A2 l.length c2) l (by omega) (by omega) W hW
          have HL := Lib.hid hcall
          obtain ⟨R, hR⟩ : ∃ R, R = (rowB (key, l)).length := ⟨_, rfl⟩
          have hR2 : (rowL key.data.toList l).length = R := hR.symm
          rw [← hR] at HF2 HUT hrp
          have HR2 := Lib.hid hR2
          have hRm : R ≤ 1000000 := by
            have h1 := numL_len8 (n := key.data.toList.length) (by rw [Array.length_toList]; show key.size ≤ _; omega)
            have h2 := numL_len8 (n := l.length) (by omega)
            have h3 : key.data.toList.length = key.size := by rw [Array.length_toList]; rfl
            rw [← hR2]
            unfold rowL textL
            simp only [List.length_append]
            omega
          clear HF hF hcall hR hR2
          go_wp2_with fail
          refine (HL.out _ HR.out).mono ?_
          rintro e w2 ⟨v2, rfl, hown2, hbel2⟩
          have hb3 : Below w.heap.size w w2 := HB.out.trans (hbel2.mono hsz)
          rw [HR2.out] at hown2
          obtain ⟨A3, c3, rfl, g3⟩ := own_shape hown2
          have HB3 := Lib.hid hb3
          clear hown2 hbel2 hb3 hx hy
          by_cases hroom : 250 < U + (1 + R)
          · have E := Lib.hid (show fitN rs = k by have := HF2.out; rw [if_pos hroom] at this; exact this)
            have hroom' : (250 : Int) < (U : Int) + (1 + (R : Int)) := by omega
            clear HF2 HUT
            go_wp2
            go_ret
            rw [E.out]
            exact ⟨rfl, HB3.out⟩
          · have hroom' : (U : Int) + (1 + (R : Int)) ≤ 250 := by omega
            have hF := HF2.out
            rw [if_neg hroom] at hF
            have HF3 := Lib.hid hF
            clear HF2 hF
            go_wp2
            go_roundw
            case rel => exact ⟨k + 1, by omega, by go_num, by rw [HUT.out]; go_num, by rw [HUT.out]; omega, by rw [HF3.out, HUT.out]; omega, HB3.out⟩
            case measure => simp [intOf]; omega
    · have e : k = rs.length := by omega
      have E := Lib.hid (show fitN rs = rs.length by rw [hf, e, List.drop_length]; simp [fitF])
      have HB := Lib.hid hbel
      clear hf hbel hu
      go_wp2
      go_ret
      rw [E.out]
      exact ⟨rfl, HB.out⟩
end Go.Proofs.Ytbacdeogggcbfaa
