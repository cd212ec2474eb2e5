/-
  The contract of the document's own split (layer topic).
-/
import Derived.Test.YtcmkmdghekkkhaaDoorTpWord
set_option linter.unusedVariables false
namespace Go.Proofs.YtcmkmdghekkkhaaDoor
open Go.RowKit Go.Rst Go.Tp
theorem ext_cat (a b : List UInt8) : (⟨a.toArray⟩ : ByteArray) ++ ⟨b.toArray⟩ = ⟨(a ++ b).toArray⟩ := by
  apply ByteArray.ext
  simp [ByteArray.data_append]
theorem info9 : (Tryd.prog.info? 9).map (fun i => (i.zero, i.size, i.bytes)) = some (some (.string .empty), 1, 16) := by kernel_rfl
def svs (ps : List (List UInt8)) : List Value := ps.map fun p => .string ⟨p.toArray⟩
theorem svs_snoc (ps : List (List UInt8)) (p : List UInt8) : svs (ps ++ [p]) = svs ps ++ [.string ⟨p.toArray⟩] := by simp [svs]
theorem svs_length (ps : List (List UInt8)) : (svs ps).length = ps.length := by simp [svs]
/-- How far a text is split. -/
structure Spl (c : UInt8) (l : List UInt8) (f k : Nat) (ps : List (List UInt8)) : Prop where
  fk : f ≤ k
  kl : k ≤ l.length
  pf : ps.length ≤ f
  cl : ∀ x ∈ (l.drop f).take (k - f), x ≠ c
  eq : splitL c l = ps ++ splitL c (l.drop f)
theorem Spl.start (c : UInt8) (l : List UInt8) : Spl c l 0 0 [] := ⟨Nat.le_refl _, Nat.zero_le _, Nat.le_refl _, fun x hx => by simp at hx, by simp⟩
theorem Spl.on {c : UInt8} {l : List UInt8} {f k : Nat} {ps : List (List UInt8)} (h : Spl c l f k ps) (hk : k < l.length) (hx : l[k] ≠ c) : Spl c l f (k + 1) ps := by
  have hfk := h.fk
  refine ⟨by omega, hk, h.pf, fun x hx2 => ?_, h.eq⟩
  have e : (l.drop f).take (k + 1 - f) = (l.drop f).take (k - f) ++ [l[k]] := by
    have e1 : k + 1 - f = (k - f) + 1 := by omega
    have h1 : k - f < (l.drop f).length := by rw [List.length_drop]; omega
    rw [e1, List.take_succ_eq_append_getElem h1]
    congr 2
    rw [List.getElem_drop]
    congr 1
    omega
  rw [e] at hx2
  rcases List.mem_append.1 hx2 with h2 | h2
  · exact h.cl x h2
  · rw [List.mem_singleton.1 h2]; exact hx
theorem drop_cut {l : List UInt8} {f k : Nat} (hfk : f ≤ k) (hk : k < l.length) : l.drop f = (l.drop f).take (k - f) ++ l[k] :: l.drop (k + 1) := by
  have h1 : k - f < (l.drop f).length := by rw [List.length_drop]; omega
  conv => lhs; rw [← List.take_append_drop (k - f) (l.drop f)]
  congr 1
  rw [List.drop_drop, show f + (k - f) = k by omega, List.drop_eq_getElem_cons hk]
theorem Spl.cut {c : UInt8} {l : List UInt8} {f k : Nat} {ps : List (List UInt8)} (h : Spl c l f k ps) (hk : k < l.length) (hx : l[k] = c) : Spl c l (k + 1) (k + 1) (ps ++ [(l.drop f).take (k - f)]) := by
  have hfk := h.fk
  have hpf := h.pf
  refine ⟨Nat.le_refl _, hk, by simp; omega, fun x hx => by simp at hx, ?_⟩
  have e := h.eq
  rw [drop_cut hfk hk, hx, splitL_part c _ h.cl] at e
  rw [e]
  simp
theorem Spl.last {c : UInt8} {l : List UInt8} {f : Nat} {ps : List (List UInt8)} (h : Spl c l f l.length ps) : splitL c l = ps ++ [(l.drop f).take (l.length - f)] := by
  rw [h.eq]
  congr 1
  have e : (l.drop f).take (l.length - f) = l.drop f := by rw [List.take_of_length_le]; simp
  have h2 := h.cl
  rw [e] at h2 ⊢
  exact splitL_last c _ h2
theorem ext_str (l : List UInt8) (f k : Nat) : (⟨l.toArray⟩ : ByteArray).extract f k = ⟨((l.drop f).take (k - f)).toArray⟩ := by
  apply ByteArray.ext
  rw [ByteArray.data_extract]
  simp
set_option maxRecDepth 100000 in
set_option maxHeartbeats 1000000 in
theorem split_any (c : UInt8) (l : List UInt8) (hl : l.length ≤ 1000000) (w : World) : Calls Tryd.prog 93 #[sv l, .int .u8 (c.toNat : Int)] w fun e w' => ∃ v, e = .returned v ∧ w'.ownsRow w.heap.size 9 1 v (splitL c l).length (svs (splitL c l)) ∧ Below w.heap.size w w' := by
  go_enter Tryd.func93, Tryd.ntmps93
  go_wp2
  go_loopw [5, 6, 7] (fun v from_ i wr => ∃ (k f : Nat) (ps : List (List UInt8)), i = .int .i64 k ∧ from_ = .int .i64 f ∧ wr.ownsRow w.heap.size 9 1 v ps.length (svs ps) ∧ (Spl c l f k ps ∨ (k = l.length + 1 ∧ ps = splitL c l)) ∧ Below w.heap.size w wr) (fun _ _ i _ => l.length + 1 - (intOf i).toNat)
  case atStart => exact ⟨0, 0, [], rfl, rfl, World.ownsRow_nil _ _ _ _, .inl (Spl.start c l), Below.refl _ _⟩
  case round =>
    obtain ⟨k, f, ps, rfl, rfl, hown, hst, hbel⟩ := hrel
    obtain ⟨A3, c3, rfl, hc3⟩ := own_shape hown
    rcases hst with hs | ⟨rfl, rfl⟩
    · have hkl := hs.kl
      have hfk := hs.fk
      have hpf := hs.pf
      have HOW := Lib.hid hown
      have HS := Lib.hid hs
      have HBl := Lib.hid hbel
      clear hown hs hbel
      have q0 : (k : Int) ≤ (l.length : Int) := by omega
      have q9 : (f : Int) ≤ (k : Int) := by omega
      by_cases hlt : k < l.length
      · have q1 : ((k : Int) == (l.length : Int)) = false := by simp; omega
        have q2 : (k : Int) < (l.length : Int) := by omega
        obtain ⟨x, hx⟩ : ∃ x, x = l[k] := ⟨_, rfl⟩
        have hix : ∀ h, (⟨l.toArray⟩ : ByteArray)[k]'h = x := fun _ => hx.symm
        have HX := Lib.hid hx
        clear hx
        by_cases hxc : x = c
        · have q3 : ((x.toNat : Int) == (c.toNat : Int)) = true := by rw [hxc]; simp
          have HXC := Lib.hid hxc
          clear hxc
          go_wp2_with (at_builtin; refine wpList_own rfl (.tmp 25) (.tmp 30) 59 59 rfl w.heap.size 9 (.string .empty) 1 16 Tryd.underlying59 info9 rfl rfl (HOW.out.alloc _) rfl (src_one wr Tryd.underlying59 9 _ rfl) (HBl.out.alloc HBl.out.size _) (Nat.le_refl _) ?_ ?_ ?_ ?_)
          · unfold maxLen; omega
          · omega
          · have := HBl.out.size; simp; omega
          intro v5 w5 hown5 hbel5 _
          rw [ext_str, ← svs_snoc] at hown5
          have HO5 := Lib.hid hown5
          have HB5 := Lib.hid hbel5
          clear hown5 hbel5
          go_wp2
          go_roundw
          case rel => exact ⟨k + 1, k + 1, ps ++ [(l.drop f).take (k - f)], by go_num, by go_num, by rw [List.length_append]; exact HO5.out, .inl (HS.out.cut hlt (HX.out.symm.trans HXC.out)), HB5.out⟩
          case measure => simp [intOf]; omega
        · have q3 : ((x.toNat : Int) == (c.toNat : Int)) = false := by
            simp only [beq_eq_false_iff_ne, ne_eq]
            intro h
            exact hxc (UInt8.toNat_inj.1 (by omega))
          have HXC := Lib.hid hxc
          clear hxc
          go_wp2
          go_roundw
          case rel => exact ⟨k + 1, f, ps, by go_num, rfl, HOW.out, .inl (HS.out.on hlt (fun h => HXC.out (HX.out.trans h))), HBl.out⟩
          case measure => simp [intOf]; omega
      · obtain rfl : k = l.length := by omega
        have q1 : ((l.length : Int) == (l.length : Int)) = true := by simp
        go_wp2_with (at_builtin; refine wpList_own rfl (.tmp 25) (.tmp 30) 59 59 rfl w.heap.size 9 (.string .empty) 1 16 Tryd.underlying59 info9 rfl rfl (HOW.out.alloc _) rfl (src_one wr Tryd.underlying59 9 _ rfl) (HBl.out.alloc HBl.out.size _) (Nat.le_refl _) ?_ ?_ ?_ ?_)
        · unfold maxLen; omega
        · omega
        · have := HBl.out.size; simp; omega
        intro v5 w5 hown5 hbel5 _
        rw [ext_str, ← svs_snoc] at hown5
        have HO5 := Lib.hid hown5
        have HB5 := Lib.hid hbel5
        clear hown5 hbel5
        go_wp2
        go_roundw
        case rel => exact ⟨l.length + 1, l.length + 1, ps ++ [(l.drop f).take (l.length - f)], by go_num, by go_num, by rw [List.length_append]; exact HO5.out, .inr ⟨rfl, HS.out.last.symm⟩, HB5.out⟩
        case measure => simp [intOf]
    · have q0 : ¬ ((l.length + 1 : Nat) : Int) ≤ (l.length : Int) := by omega
      have HOW := Lib.hid hown
      have HBl := Lib.hid hbel
      clear hown hbel
      go_wp2
      go_ret
      exact ⟨_, rfl, HOW.out, HBl.out⟩
end Go.Proofs.YtcmkmdghekkkhaaDoor
