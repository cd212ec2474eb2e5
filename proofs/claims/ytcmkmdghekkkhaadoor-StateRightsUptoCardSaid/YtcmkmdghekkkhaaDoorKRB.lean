/-
  Words on bytes that lie in memory, over the seat's program, without any of its functions.; The contract of the document's own word (layer topic).; The contract of the document's own split (layer topic).; The contracts of the document's own Right and Pattern (layer topic).; The contract of the document's own pairs (layer topic).; Plain mathematics of states, without any program: subscriptions, messages, what may be, what is put.; The contract of the document's own Pattern (layer topic).; Plain mathematics of what may be: names, queues, subscriptions (layer state). No program.; Plain mathematics of the statements' own Sub: what is made may be. No program.; Plain mathematics of leaving out (layer state). No program.; Plain mathematics of what the statements of states ask: what is put is found, what is settled, in which order. No program.
-/
import Derived.Test.YtcmkmdghekkkhaaDoorProg
import Derived.Test.YtcmkmdghekkkhaaDoorKRA
set_option linter.unusedVariables false
namespace Go.Proofs.YtcmkmdghekkkhaaDoor
open Go.RowKit Go.Rst
def Blk (w : World) (g : Nat) (t : TypeId) (cs : Array Value) : Prop := w.heap[g]? = some (.cells cs t (0, 0))
section
variable {w w' : World} {g : Nat} {t : TypeId} {cs : Array Value}
theorem Blk.lt (h : Blk w g t cs) : g < w.heap.size := by
  rcases Nat.lt_or_ge g w.heap.size with hlt | hge
  · exact hlt
  · unfold Blk at h; rw [Array.getElem?_eq_none hge] at h; cases h
theorem Blk.cell (h : Blk w g t cs) (i : Nat) : w.cell? ⟨g, i, none⟩ = cs[i]? := cell_of_row w g i cs t (0, 0) h
theorem Blk.frozen (h : Blk w g t cs) (i : Nat) : w.frozen? ⟨g, i, none⟩ = false := by
  unfold Blk at h
  simp [World.frozen?, h]
theorem Blk.alloc (h : Blk w g t cs) (o : Obj) : Blk (w.alloc o) g t cs := (Below.heap_alloc w o g h.lt).trans h
theorem Blk.far (h : Blk w g t cs) {p : Addr} (hp : g ≠ p.block) (u : Value) : Blk (w.setCell p u) g t cs := (Below.heap_setCell w p u g hp).trans h
theorem Blk.below {B : Nat} (h : Blk w g t cs) (hb : Below B w w') (hg : g < B) : Blk w' g t cs := (hb.block g hg).trans h
end
theorem str22 {w : World} {v : Value} {l : List UInt8} (h : RB w v l) : (convert 25 9 v).run Tryd.prog w = .ok (.string ⟨l.toArray⟩) w := h.str Tryd.underlying25 Tryd.underlying5 Tryd.underlying9
theorem rb_cell {w : World} {A : Option Addr} {c : Nat} {l : List UInt8} (h : RB w (.slice A l.length c) l) {k : Nat} (hk : k < l.length) :
    ∃ b off, A = some ⟨b, off, none⟩ ∧ b < w.heap.size ∧ w.cell? ⟨b, off + k, none⟩ = some (bv l[k]) := by
  obtain ⟨A', c', he, _, _, h3⟩ := h
  injection he with e1 e2 e3
  subst e1
  rcases h3 with h3 | ⟨b, off, h4, h5, h6⟩
  · rw [h3] at hk; simp at hk
  · exact ⟨b, off, h4, h5, h6 k hk⟩
theorem own_addr' {w : World} {base n : Nat} {e : TypeId} {v : Value} {xs : List Value} (h : w.ownsRow base e 1 v (n + 1) xs) : ∃ g c, v = .slice (some ⟨g, 0, none⟩) (n + 1) c ∧ base ≤ g ∧ g < w.heap.size ∧ (c : Int) ≤ 9223372036854775807 := by
  rcases h.2 with ⟨_, h0⟩ | ⟨g, cap, cur, rfl, hb, hg, _, hcm, _, _⟩
  · omega
  · refine ⟨g, cap, rfl, hb, (Array.getElem?_eq_some_iff.1 hg).1, ?_⟩
    unfold maxLen at hcm; omega
end Go.Proofs.YtcmkmdghekkkhaaDoor
namespace Go.Proofs.YtcmkmdghekkkhaaDoor
open Go.RowKit Go.Rst Go.Tp
theorem all_take_succ {l : List UInt8} {k : Nat} (hk : k < l.length) (f : UInt8 → Bool) : (l.take (k + 1)).all f = ((l.take k).all f && f l[k]) := by
  rw [List.take_succ_eq_append_getElem hk, List.all_append]
  simp
theorem isW_yes {c : UInt8} (h : isW c = true) : (97 ≤ c.toNat ∧ c.toNat ≤ 122) ∨ (48 ≤ c.toNat ∧ c.toNat ≤ 57) := by
  unfold isW at h
  simpa using h
theorem isW_no {c : UInt8} (h : isW c = false) : ¬ ((97 ≤ c.toNat ∧ c.toNat ≤ 122) ∨ (48 ≤ c.toNat ∧ c.toNat ≤ 57)) := by
  unfold isW at h
  simpa [Classical.or_iff_not_imp_left] using h
theorem wordB_no {l : List UInt8} {k : Nat} (hk : k < l.length) (h : isW l[k] = false) : wordB l = false := by
  unfold wordB
  rw [List.all_eq_false.2 ⟨l[k], List.getElem_mem hk, by simp [h]⟩, Bool.false_and]
set_option maxRecDepth 100000 in
set_option maxHeartbeats 1000000 in
theorem word_any (l : List UInt8) (hl : l.length ≤ 140737488351232) (w : World) : Calls Tryd.prog 94 #[sv l] w fun e w' => e = .returned (.bool (wordB l)) ∧ w' = w := by
  go_enter Tryd.func94, Tryd.ntmps94
  go_wp2
  go_loopw [3] (fun i wr => ∃ k : Nat, k ≤ l.length ∧ i = .int .i64 k ∧ (l.take k).all isW = true ∧ wr = w) (fun i _ => l.length - (intOf i).toNat)
  case atStart => exact ⟨0, Nat.zero_le _, rfl, by simp, rfl⟩
  case round =>
    obtain ⟨k, hk, rfl, hall, rfl⟩ := hrel
    by_cases hlt : k < l.length
    · have hc := all_take_succ hlt isW
      rw [hall, Bool.true_and] at hc
      obtain ⟨c, hcc⟩ : ∃ c, c = l[k] := ⟨_, rfl⟩
      have hno : isW c = false → wordB l = false := by rw [hcc]; exact wordB_no hlt
      have hyes := @isW_yes c
      have hnot := @isW_no c
      have hix : ∀ h, (⟨l.toArray⟩ : ByteArray)[k]'h = c := fun _ => hcc.symm
      rw [← hcc] at hc
      have q1 : (k : Int) < (l.length : Int) := by omega
      have HNO := Lib.hid hno
      have HC := Lib.hid hc
      have HALL := Lib.hid hall
      clear hall hc hno hcc
      cases hw : isW c with
      | true =>
        have hh := hyes hw
        rw [hw] at HC
        clear hyes hnot hw
        rcases hh with ⟨h1, h2⟩ | ⟨h1, h2⟩
        · have i1 : (97 : Int) ≤ (c.toNat : Int) := by omega
          have i2 : (c.toNat : Int) ≤ 122 := by omega
          go_wp2
          go_roundw
          case rel => exact ⟨k + 1, by omega, by go_num, HC.out, trivial⟩
          case measure => simp [intOf]; omega
        · have i1 : ¬ (97 : Int) ≤ (c.toNat : Int) := by omega
          have i2 : (48 : Int) ≤ (c.toNat : Int) := by omega
          have i3 : (c.toNat : Int) ≤ 57 := by omega
          go_wp2
          go_roundw
          case rel => exact ⟨k + 1, by omega, by go_num, HC.out, trivial⟩
          case measure => simp [intOf]; omega
      | false =>
        have hh := hnot hw
        have HNO := Lib.hid (HNO.out hw)
        clear hyes hnot hw
        by_cases i1 : (97 : Int) ≤ (c.toNat : Int)
        · have i2 : ¬ (c.toNat : Int) ≤ 122 := by omega
          have i3 : (48 : Int) ≤ (c.toNat : Int) := by omega
          have i4 : ¬ (c.toNat : Int) ≤ 57 := by omega
          go_wp2
          go_ret
          exact ⟨by rw [HNO.out]; rfl, rfl⟩
        · by_cases i3 : (48 : Int) ≤ (c.toNat : Int)
          · have i4 : ¬ (c.toNat : Int) ≤ 57 := by omega
            go_wp2
            go_ret
            exact ⟨by rw [HNO.out]; rfl, rfl⟩
          · go_wp2
            go_ret
            exact ⟨by rw [HNO.out]; rfl, rfl⟩
    · have hkl : k = l.length := by omega
      subst hkl
      have q1 : ¬ (l.length : Int) < (l.length : Int) := by omega
      have e : wordB l = decide (0 < l.length) := by
        unfold wordB
        rw [List.take_length] at hall
        rw [hall, Bool.true_and]
      go_wp2
      go_ret
      exact ⟨rfl, rfl⟩
end Go.Proofs.YtcmkmdghekkkhaaDoor
set_option linter.unusedVariables false
namespace Go.Proofs.YtcmkmdghekkkhaaDoor
open Go.RowKit Go.Rst Go.Tp
theorem ext_cat (a b : List UInt8) : (⟨a.toArray⟩ : ByteArray) ++ ⟨b.toArray⟩ = ⟨(a ++ b).toArray⟩ := by
  apply ByteArray.ext
  simp [ByteArray.data_append]
theorem info9 : (Tryd.prog.info? 9).map (fun i => (i.zero, i.size, i.bytes)) = some (some (.string .empty), 1, 16) := by kernel_rfl
def svs (ps : List (List UInt8)) : List Value := ps.map fun p => .string ⟨p.toArray⟩
theorem svs_snoc (ps : List (List UInt8)) (p : List UInt8) : svs (ps ++ [p]) = svs ps ++ [.string ⟨p.toArray⟩] := by simp [svs]
theorem svs_length (ps : List (List UInt8)) : (svs ps).length = ps.length := by simp [svs]
structure Spl (c : UInt8) (l : List UInt8) (f k : Nat) (ps : List (List UInt8)) : Prop where
  fk : f ≤ k
  kl : k ≤ l.length
  pf : ps.length ≤ f
  cl : ∀ x ∈ (l.drop f).take (k - f), x ≠ c
  eq : splitL c l = ps ++ splitL c (l.drop f)
theorem Spl.start (c : UInt8) (l : List UInt8) : Spl c l 0 0 [] := ⟨Nat.le_refl _, Nat.zero_le _, Nat.le_refl _, fun x hx => by simp at hx, by simp⟩
theorem Spl.on {c : UInt8} {l : List UInt8} {f k : Nat} {ps : List (List UInt8)} (h : Spl c l f k ps) (hk : k < l.length) (hx : l[k] ≠ c) : Spl c l f (k + 1) ps := by
  have hfk := h.fk
  refine ⟨by omega, hk, h.pf, fun x hx2 => ?_, h.eq⟩
  have e : (l.drop f).take (k + 1 - f) = (l.drop f).take (k - f) ++ [l[k]] := by
    have e1 : k + 1 - f = (k - f) + 1 := by omega
    have h1 : k - f < (l.drop f).length := by rw [List.length_drop]; omega
    rw [e1, List.take_succ_eq_append_getElem h1]
    congr 2
    rw [List.getElem_drop]
    congr 1
    omega
  rw [e] at hx2
  rcases List.mem_append.1 hx2 with h2 | h2
  · exact h.cl x h2
  · rw [List.mem_singleton.1 h2]; exact hx
theorem drop_cut {l : List UInt8} {f k : Nat} (hfk : f ≤ k) (hk : k < l.length) : l.drop f = (l.drop f).take (k - f) ++ l[k] :: l.drop (k + 1) := by
  have h1 : k - f < (l.drop f).length := by rw [List.length_drop]; omega
  conv => lhs; rw [← List.take_append_drop (k - f) (l.drop f)]
  congr 1
  rw [List.drop_drop, show f + (k - f) = k by omega, List.drop_eq_getElem_cons hk]
theorem Spl.cut {c : UInt8} {l : List UInt8} {f k : Nat} {ps : List (List UInt8)} (h : Spl c l f k ps) (hk : k < l.length) (hx : l[k] = c) : Spl c l (k + 1) (k + 1) (ps ++ [(l.drop f).take (k - f)]) := by
  have hfk := h.fk
  have hpf := h.pf
  refine ⟨Nat.le_refl _, hk, by simp; omega, fun x hx => by simp at hx, ?_⟩
  have e := h.eq
  rw [drop_cut hfk hk, hx, splitL_part c _ h.cl] at e
  rw [e]
  simp
theorem Spl.last {c : UInt8} {l : List UInt8} {f : Nat} {ps : List (List UInt8)} (h : Spl c l f l.length ps) : splitL c l = ps ++ [(l.drop f).take (l.length - f)] := by
  rw [h.eq]
  congr 1
  have e : (l.drop f).take (l.length - f) = l.drop f := by rw [List.take_of_length_le]; simp
  have h2 := h.cl
  rw [e] at h2 ⊢
  exact splitL_last c _ h2
theorem ext_str (l : List UInt8) (f k : Nat) : (⟨l.toArray⟩ : ByteArray).extract f k = ⟨((l.drop f).take (k - f)).toArray⟩ := by
  apply ByteArray.ext
  rw [ByteArray.data_extract]
  simp
set_option maxRecDepth 100000 in
set_option maxHeartbeats 1000000 in
theorem split_any (c : UInt8) (l : List UInt8) (hl : l.length ≤ 1000000) (w : World) : Calls Tryd.prog 93 #[sv l, .int .u8 (c.toNat : Int)] w fun e w' => ∃ v, e = .returned v ∧ w'.ownsRow w.heap.size 9 1 v (splitL c l).length (svs (splitL c l)) ∧ Below w.heap.size w w' := by
  go_enter Tryd.func93, Tryd.ntmps93
  go_wp2
  go_loopw [5, 6, 7] (fun v from_ i wr => ∃ (k f : Nat) (ps : List (List UInt8)), i = .int .i64 k ∧ from_ = .int .i64 f ∧ wr.ownsRow w.heap.size 9 1 v ps.length (svs ps) ∧ (Spl c l f k ps ∨ (k = l.length + 1 ∧ ps = splitL c l)) ∧ Below w.heap.size w wr) (fun _ _ i _ => l.length + 1 - (intOf i).toNat)
  case atStart => exact ⟨0, 0, [], rfl, rfl, World.ownsRow_nil _ _ _ _, .inl (Spl.start c l), Below.refl _ _⟩
  case round =>
    obtain ⟨k, f, ps, rfl, rfl, hown, hst, hbel⟩ := hrel
    obtain ⟨A3, c3, rfl, hc3⟩ := own_shape hown
    rcases hst with hs | ⟨rfl, rfl⟩
    · have hkl := hs.kl
      have hfk := hs.fk
      have hpf := hs.pf
      have HOW := Lib.hid hown
      have HS := Lib.hid hs
      have HBl := Lib.hid hbel
      clear hown hs hbel
      have q0 : (k : Int) ≤ (l.length : Int) := by omega
      have q9 : (f : Int) ≤ (k : Int) := by omega
      by_cases hlt : k < l.length
      · have q1 : ((k : Int) == (l.length : Int)) = false := by simp; omega
        have q2 : (k : Int) < (l.length : Int) := by omega
        obtain ⟨x, hx⟩ : ∃ x, x = l[k] := ⟨_, rfl⟩
        have hix : ∀ h, (⟨l.toArray⟩ : ByteArray)[k]'h = x := fun _ => hx.symm
        have HX := Lib.hid hx
        clear hx
        by_cases hxc : x = c
        · have q3 : ((x.toNat : Int) == (c.toNat : Int)) = true := by rw [hxc]; simp
          have HXC := Lib.hid hxc
          clear hxc
          go_wp2_with (at_builtin; refine wpList_own rfl (.tmp 25) (.tmp 30) 59 59 rfl w.heap.size 9 (.string .empty) 1 16 Tryd.underlying59 info9 rfl rfl (HOW.out.alloc _) rfl (src_one wr Tryd.underlying59 9 _ rfl) (HBl.out.alloc HBl.out.size _) (Nat.le_refl _) ?_ ?_ ?_ ?_)
          · unfold maxLen; omega
          · omega
          · have := HBl.out.size; simp; omega
          intro v5 w5 hown5 hbel5 _
          rw [ext_str, ← svs_snoc] at hown5
          have HO5 := Lib.hid hown5
          have HB5 := Lib.hid hbel5
          clear hown5 hbel5
          go_wp2
          go_roundw
          case rel => exact ⟨k + 1, k + 1, ps ++ [(l.drop f).take (k - f)], by go_num, by go_num, by rw [List.length_append]; exact HO5.out, .inl (HS.out.cut hlt (HX.out.symm.trans HXC.out)), HB5.out⟩
          case measure => simp [intOf]; omega
        · have q3 : ((x.toNat : Int) == (c.toNat : Int)) = false := by
            simp only [beq_eq_false_iff_ne, ne_eq]
            intro h
            exact hxc (UInt8.toNat_inj.1 (by omega))
          have HXC := Lib.hid hxc
          clear hxc
          go_wp2
          go_roundw
          case rel => exact ⟨k + 1, f, ps, by go_num, rfl, HOW.out, .inl (HS.out.on hlt (fun h => HXC.out (HX.out.trans h))), HBl.out⟩
          case measure => simp [intOf]; omega
      · obtain rfl : k = l.length := by omega
        have q1 : ((l.length : Int) == (l.length : Int)) = true := by simp
        go_wp2_with (at_builtin; refine wpList_own rfl (.tmp 25) (.tmp 30) 59 59 rfl w.heap.size 9 (.string .empty) 1 16 Tryd.underlying59 info9 rfl rfl (HOW.out.alloc _) rfl (src_one wr Tryd.underlying59 9 _ rfl) (HBl.out.alloc HBl.out.size _) (Nat.le_refl _) ?_ ?_ ?_ ?_)
        · unfold maxLen; omega
        · omega
        · have := HBl.out.size; simp; omega
        intro v5 w5 hown5 hbel5 _
        rw [ext_str, ← svs_snoc] at hown5
        have HO5 := Lib.hid hown5
        have HB5 := Lib.hid hbel5
        clear hown5 hbel5
        go_wp2
        go_roundw
        case rel => exact ⟨l.length + 1, l.length + 1, ps ++ [(l.drop f).take (l.length - f)], by go_num, by go_num, by rw [List.length_append]; exact HO5.out, .inr ⟨rfl, HS.out.last.symm⟩, HB5.out⟩
        case measure => simp [intOf]
    · have q0 : ¬ ((l.length + 1 : Nat) : Int) ≤ (l.length : Int) := by omega
      have HOW := Lib.hid hown
      have HBl := Lib.hid hbel
      clear hown hbel
      go_wp2
      go_ret
      exact ⟨_, rfl, HOW.out, HBl.out⟩
end Go.Proofs.YtcmkmdghekkkhaaDoor
set_option linter.unusedVariables false
namespace Go.Proofs.YtcmkmdghekkkhaaDoor
open Go.RowKit Go.Rst Go.Tp
theorem own_str {w : World} {base : Nat} {A : Option Addr} {n c k : Nat} {ps : List (List UInt8)} (h : w.ownsRow base 9 1 (.slice A n c) n (svs ps)) (hk : k < ps.length) :
    ∃ g, A = some ⟨g, 0, none⟩ ∧ g < w.heap.size ∧ w.cell? ⟨g, k, none⟩ = some (.string ⟨ps[k].toArray⟩) := by
  have hn : (svs ps).length = n * 1 := h.1
  rw [svs_length, Nat.mul_one] at hn
  obtain ⟨m, rfl⟩ : ∃ m, n = m + 1 := ⟨n - 1, by omega⟩
  obtain ⟨g, c', hv, hb, hg, _⟩ := own_addr' h
  injection hv with e1 e2 e3
  subst e1
  refine ⟨g, rfl, hg, ?_⟩
  rw [h.cellAt k (by omega)]
  simp [svs, hk]
theorem all_take_succ' {ps : List (List UInt8)} {k : Nat} (hk : k < ps.length) (f : List UInt8 → Bool) : (ps.take (k + 1)).all f = ((ps.take k).all f && f ps[k]) := by
  rw [List.take_succ_eq_append_getElem hk, List.all_append]
  simp
set_option maxRecDepth 100000 in
set_option maxHeartbeats 1000000 in
theorem right_any (l : List UInt8) (hl : l.length ≤ 1000000) (w : World) : Calls Tryd.prog 91 #[sv l] w fun e w' => e = .returned (.bool (rightB l)) ∧ Below w.heap.size w w' := by
  go_enter Tryd.func91, Tryd.ntmps91
  have HSP := Lib.hid (split_any 47 l hl w)
  go_wp2_with fail
  go_at_call 93
  refine HSP.out.mono ?_
  rintro e w1 ⟨v, rfl, hown, hb⟩
  obtain ⟨A, c, rfl, _⟩ := own_shape hown
  obtain ⟨ps, hps⟩ : ∃ ps, ps = splitL 47 l := ⟨_, rfl⟩
  have hlen := fun p (hp : p ∈ ps) => splitL_mem 47 l p (by rw [← hps]; exact hp)
  have hpl := splitL_len 47 l
  rw [← hps] at hown hpl ⊢
  have hr : rightB l = (ps.all wordB && decide (l.length ≤ 30)) := by unfold rightB; rw [← hps]
  have HR := Lib.hid hr
  have HOW := Lib.hid hown
  have HB := Lib.hid hb
  have HLEN := Lib.hid hlen
  clear hown hb hlen hr hps
  go_wp2_with fail
  go_loopw [4] (fun i wr => ∃ k : Nat, k ≤ ps.length ∧ i = .int .i64 k ∧ (ps.take k).all wordB = true ∧ wr = w1) (fun i _ => ps.length - (intOf i).toNat)
  case atStart => exact ⟨0, Nat.zero_le _, rfl, by simp, rfl⟩
  case round =>
    obtain ⟨k, hk, rfl, hall, rfl⟩ := hrel
    have HALL := Lib.hid hall
    clear hall
    by_cases hlt : k < ps.length
    · obtain ⟨g, rfl, hg, hcell⟩ := own_str HOW.out hlt
      obtain ⟨p, hp⟩ : ∃ p, p = ps[k] := ⟨_, rfl⟩
      rw [← hp] at hcell
      have HP := Lib.hid hp
      have HW := Lib.hid (word_any p (by have := HLEN.out p (by rw [hp]; exact List.getElem_mem hlt); omega) wr)
      have q1 : (k : Int) < (ps.length : Int) := by omega
      clear hp
      go_wp2_with fail
      go_at_call 94
      refine HW.out.mono ?_
      rintro e w2 ⟨rfl, rfl⟩
      cases hw : wordB p with
      | true =>
        have HWP := Lib.hid hw
        clear hw
        go_wp2
        go_roundw
        case rel => exact ⟨k + 1, by omega, by go_num, by rw [all_take_succ' hlt, HALL.out, Bool.true_and, ← HP.out, HWP.out], trivial⟩
        case measure => simp [intOf]; omega
      | false =>
        have e : rightB l = false := by
          rw [HR.out, List.all_eq_false.2 ⟨ps[k], List.getElem_mem hlt, by rw [← HP.out, hw]; simp⟩, Bool.false_and]
        have HE := Lib.hid e
        clear e hw
        go_wp2
        go_ret
        exact ⟨by rw [HE.out]; rfl, HB.out⟩
    · obtain rfl : k = ps.length := by omega
      have q1 : ¬ (ps.length : Int) < (ps.length : Int) := by omega
      have e : rightB l = decide (l.length ≤ 30) := by
        have h := HALL.out
        rw [List.take_length] at h
        rw [HR.out, h, Bool.true_and]
      have HE := Lib.hid e
      clear e
      go_wp2
      go_ret
      exact ⟨by rw [HE.out]; first | rfl | (simp; done) | (simp; omega), HB.out⟩
end Go.Proofs.YtcmkmdghekkkhaaDoor
set_option linter.unusedVariables false
namespace Go.Tp
open Go
def leS (a b : List UInt8) : Bool := Op.bytesLess a b || a == b
def pairOk (last p : List UInt8) : Bool := match splitL 61 p with
  | [a, b] => wordB a && wordB b && !leS a last
  | _ => false
def firstOf (p : List UInt8) : List UInt8 := (splitL 61 p).headD []
def pairsP : List UInt8 → List (List UInt8) → Bool
  | _, [] => true
  | last, p :: ps => pairOk last p && pairsP (firstOf p) ps
def pairsR (l : List UInt8) : List (List UInt8) × Bool := if l = [] then ([], true) else if pairsP [] (splitL 44 l) = true then (splitL 44 l, decide (l.length ≤ 30)) else ([], false)
def attrsB (l : List UInt8) : Bool := (pairsR l).2
theorem pairsP_step {ps : List (List UInt8)} {k : Nat} (hk : k < ps.length) (last : List UInt8) : pairsP last (ps.drop k) = (pairOk last ps[k] && pairsP (firstOf ps[k]) (ps.drop (k + 1))) := by
  rw [List.drop_eq_getElem_cons hk, pairsP]
theorem pairOk_two {last p : List UInt8} {q : List (List UInt8)} (hq : q = splitL 61 p) (h2 : q.length = 2) : pairOk last p = (wordB (q[0]'(by omega)) && wordB (q[1]'(by omega)) && !leS (q[0]'(by omega)) last) ∧ firstOf p = q[0]'(by omega) := by
  match q, h2 with
  | [a, b], _ =>
    unfold pairOk firstOf
    rw [← hq]
    exact ⟨rfl, rfl⟩
theorem pairOk_not {last p : List UInt8} (h2 : (splitL 61 p).length ≠ 2) : pairOk last p = false := by
  unfold pairOk
  split
  · rename_i h; rw [h] at h2; simp at h2
  · rfl
theorem pairsR_no {l : List UInt8} (h0 : l ≠ []) (h : pairsP [] (splitL 44 l) = false) : pairsR l = ([], false) := by
  unfold pairsR
  rw [if_neg h0, h]
  rfl
end Go.Tp
namespace Go.Proofs.YtcmkmdghekkkhaaDoor
open Go.RowKit Go.Rst Go.Tp
def GivesP (w : World) (r : List (List UInt8) × Bool) (e : Ending) (w' : World) : Prop := ∃ v, e = .returned (.tuple #[v, .bool r.2]) ∧ w'.ownsRow w.heap.size 9 1 v r.1.length (svs r.1) ∧ Below w.heap.size w w'
theorem GivesP.no {w w' : World} {r : List (List UInt8) × Bool} (h : r = ([], false)) (hb : Below w.heap.size w w') : GivesP w r (.returned (.tuple #[.slice none 0 0, .bool false])) w' := by
  subst h
  exact ⟨_, rfl, World.ownsRow_nil _ _ _ _, hb⟩
set_option maxRecDepth 100000 in
set_option maxHeartbeats 2000000 in
theorem pairs_any (l : List UInt8) (hl : l.length ≤ 1000000) (w : World) : Calls Tryd.prog 95 #[sv l] w (GivesP w (pairsR l)) := by
  go_enter Tryd.func95, Tryd.ntmps95
  by_cases h0 : l = []
  · have HE := Lib.hid (show pairsR l = ([], true) by unfold pairsR; rw [if_pos h0])
    go_wp2
    exact bodyPost_ret (v := .tuple #[.slice none 0 0, .bool true]) (by simp [results, Tryd.results95, go_sem]) rfl ⟨.slice none 0 0, by rw [HE.out], by rw [HE.out]; exact World.ownsRow_nil _ _ _ _, Below.refl _ _⟩
  have b0 : (l == []) = false := by simpa using h0
  have HSP := Lib.hid (split_any 44 l hl w)
  have H0 := Lib.hid h0
  go_wp2_with fail
  go_at_call 93
  refine HSP.out.mono ?_
  rintro e w1 ⟨v, rfl, hown, hb⟩
  obtain ⟨A, c, rfl, _⟩ := own_shape hown
  obtain ⟨ps, hps⟩ : ∃ ps, ps = splitL 44 l := ⟨_, rfl⟩
  have hlen := fun p (hp : p ∈ ps) => splitL_mem 44 l p (by rw [← hps]; exact hp)
  have hpl := splitL_len 44 l
  rw [← hps] at hown hpl ⊢
  have HOW := Lib.hid hown
  have HB := Lib.hid hb
  have HLEN := Lib.hid hlen
  have HYES := Lib.hid (show pairsP [] ps = true → pairsR l = (ps, decide (l.length ≤ 30)) from fun h => by unfold pairsR; rw [if_neg H0.out, ← hps, if_pos h])
  have HNO := Lib.hid (show pairsP [] ps = false → pairsR l = ([], false) from fun h => pairsR_no H0.out (by rw [← hps]; exact h))
  clear hown hb hlen hps h0 b0
  go_wp2_with fail
  go_loopw [5, 6] (fun s i wr => ∃ (k : Nat) (last : List UInt8), k ≤ ps.length ∧ i = .int .i64 k ∧ s = .string ⟨last.toArray⟩ ∧ pairsP [] ps = pairsP last (ps.drop k) ∧ Below w1.heap.size w1 wr) (fun _ i _ => ps.length - (intOf i).toNat)
  case atStart => exact ⟨0, [], Nat.zero_le _, rfl, rfl, by simp, Below.refl _ _⟩
  case round =>
    obtain ⟨k, last, hk, rfl, rfl, hst, hbel⟩ := hrel
    have HST := Lib.hid hst
    have HBl := Lib.hid hbel
    have HBW := Lib.hid (HB.out.trans (hbel.mono HB.out.size))
    have HA := Lib.hid (own_below HOW.out hbel)
    clear hst hbel
    by_cases hlt : k < ps.length
    · have q1 : (k : Int) < (ps.length : Int) := by omega
      obtain ⟨g, rfl, hg, hcell⟩ := own_str HA.out hlt
      have hstep := pairsP_step hlt last
      obtain ⟨p, hp⟩ : ∃ p, p = ps[k] := ⟨_, rfl⟩
      have hpl2 : p.length ≤ 1000000 := by have := HLEN.out p (by rw [hp]; exact List.getElem_mem hlt); omega
      rw [← hp] at hcell hstep
      have HSTEP := Lib.hid hstep
      have HSP2 := Lib.hid (split_any 61 p hpl2 wr)
      clear hstep hp
      go_wp2_with fail
      go_at_call 93
      refine HSP2.out.mono ?_
      rintro e w2 ⟨v2, rfl, hown2, hb2⟩
      obtain ⟨A2, c2, rfl, _⟩ := own_shape hown2
      obtain ⟨q, hq⟩ : ∃ q, q = splitL 61 p := ⟨_, rfl⟩
      have hqm := fun x (hx : x ∈ q) => splitL_mem 61 p x (by rw [← hq]; exact hx)
      rw [← hq] at hown2 ⊢
      have HQ := Lib.hid hq
      have HQM := Lib.hid hqm
      have HB2 := Lib.hid (HBW.out.trans (hb2.mono HBW.out.size))
      have HBl2 := Lib.hid (HBl.out.trans (hb2.mono HBl.out.size))
      have HO2 := Lib.hid hown2
      clear hb2 hq hqm hown2 hcell
      by_cases h2 : q.length = 2
      rotate_left
      · have b2 : ((q.length : Int) == 2) = false := by simp; omega
        have e := HNO.out (by rw [HST.out, HSTEP.out, pairOk_not (by rw [← HQ.out]; exact h2), Bool.false_and])
        have HE := Lib.hid e
        clear e
        go_wp2
        exact bodyPost_ret (v := .tuple #[.slice none 0 0, .bool false]) (by simp [results, Tryd.results95, go_sem]) rfl (GivesP.no HE.out HB2.out)
      · obtain ⟨ho1, ho2⟩ := pairOk_two (last := last) HQ.out h2
        obtain ⟨g2, rfl, hg2, hc0⟩ := own_str HO2.out (show 0 < q.length by omega)
        obtain ⟨_, hh, _, hc1⟩ := own_str HO2.out (show 1 < q.length by omega)
        injection hh with hh
        injection hh with hh
        subst hh
        have hw0 := word_any (q[0]'(by omega)) (by have := HQM.out _ (List.getElem_mem (show 0 < q.length by omega)); omega) w2
        have hw1 := word_any (q[1]'(by omega)) (by have := HQM.out _ (List.getElem_mem (show 1 < q.length by omega)); omega) w2
        generalize q[0] = x at *
        generalize q[1] = y at *
        rw [h2] at HO2 ⊢
        have HO := Lib.hid ho1
        have HF := Lib.hid ho2
        have HW0 := Lib.hid hw0
        have HW1 := Lib.hid hw1
        clear ho1 ho2 hw0 hw1
        go_wp2_with fail
        go_at_call 94
        refine HW0.out.mono ?_
        rintro e w3 ⟨rfl, rfl⟩
        cases hw : wordB x with
        | false =>
          have e := HNO.out (by rw [HST.out, HSTEP.out, HO.out]; simp [hw])
          have HE := Lib.hid e
          clear e hw
          go_wp2
          exact bodyPost_ret (v := .tuple #[.slice none 0 0, .bool false]) (by simp [results, Tryd.results95, go_sem]) rfl (GivesP.no HE.out HB2.out)
        | true =>
        rw [hw, Bool.true_and] at HO
        clear hw
        go_wp2_with fail
        go_at_call 94
        refine HW1.out.mono ?_
        rintro e w4 ⟨rfl, rfl⟩
        cases hw : wordB y with
        | false =>
          have e := HNO.out (by rw [HST.out, HSTEP.out, HO.out]; simp [hw])
          have HE := Lib.hid e
          clear e hw
          go_wp2
          exact bodyPost_ret (v := .tuple #[.slice none 0 0, .bool false]) (by simp [results, Tryd.results95, go_sem]) rfl (GivesP.no HE.out HB2.out)
        | true =>
        rw [hw, Bool.true_and] at HO
        clear hw
        cases hbl : Op.bytesLess x last with
        | true =>
          have e := HNO.out (by rw [HST.out, HSTEP.out, HO.out]; simp [leS, hbl])
          have HE := Lib.hid e
          clear e
          go_wp2
          exact bodyPost_ret (v := .tuple #[.slice none 0 0, .bool false]) (by simp [results, Tryd.results95, go_sem]) rfl (GivesP.no HE.out HB2.out)
        | false =>
          cases heq : (x == last) with
          | true =>
            have e := HNO.out (by rw [HST.out, HSTEP.out, HO.out]; simp only [leS, hbl, heq]; simp)
            have HE := Lib.hid e
            clear e
            go_wp2
            exact bodyPost_ret (v := .tuple #[.slice none 0 0, .bool false]) (by simp [results, Tryd.results95, go_sem]) rfl (GivesP.no HE.out HB2.out)
          | false =>
            have HN := Lib.hid (show pairsP last (ps.drop k) = pairsP x (ps.drop (k + 1)) by rw [HSTEP.out, HO.out, HF.out]; simp only [leS, hbl, heq]; simp)
            go_wp2
            go_roundw
            case rel => exact ⟨k + 1, x, by omega, by go_num, rfl, HST.out.trans HN.out, HBl2.out⟩
            case measure => simp [intOf]; omega
    · obtain rfl : k = ps.length := by omega
      have q1 : ¬ (ps.length : Int) < (ps.length : Int) := by omega
      have e := HYES.out (by rw [HST.out, List.drop_length, pairsP])
      have HE := Lib.hid e
      clear e
      go_wp2
      exact bodyPost_ret (v := .tuple #[.slice A ps.length c, .bool (decide (l.length ≤ 30))]) (by simp [results, Tryd.results95, go_sem]; try omega) rfl ⟨_, by rw [HE.out], by rw [HE.out]; exact HA.out, HBW.out⟩
end Go.Proofs.YtcmkmdghekkkhaaDoor
set_option linter.unusedVariables false
namespace Go.Ts
open Go Go.Tp
structure Msg where
  seq : Int
  body : List UInt8
  attr : List UInt8
  tries : Int
  til : Int
  dead : Bool
  why : List UInt8
  prio : Int
deriving DecidableEq
structure Sub where
  id : Int
  name : List UInt8
  topic : List UInt8
  want : List UInt8
  lease : Int
  most : Int
  floor : Int
  acks : List Int
  queue : List Msg
  note : List UInt8
deriving DecidableEq
structure St where
  clock : Int
  next : Int
  last : Int
  subs : List Sub
deriving DecidableEq
def w64 (n : Int) : Int := RowKit.wrap64 n
def nameB (l : List UInt8) : Bool := decide (l.length ≤ 20) && rightB l && !(l.contains 47)
def msgB (m : Msg) (lease most clock : Int) : Bool :=
  if 60 < m.body.length || !attrsB m.attr || decide (m.prio < 0) || decide (9 < m.prio) then false
  else if m.dead then decide (m.til = 0) && (decide (m.why = [110, 97, 99, 107]) || decide (m.why = [116, 105, 109, 101])) && decide (m.tries = most)
  else if m.why ≠ [] then false
  else if m.til = 0 then decide (0 ≤ m.tries) && decide (m.tries < most)
  else decide (1 ≤ m.tries) && decide (m.tries ≤ most) && decide (clock < m.til) && decide (m.til ≤ w64 (clock + lease))
def fieldsB (x : Sub) (next : Int) : Bool :=
  decide (1 ≤ x.id) && decide (x.id ≤ 1073741824) && nameB x.name && patB x.topic && attrsB x.want && decide (1 ≤ x.lease) && decide (x.lease ≤ 1000) && decide (1 ≤ x.most) && decide (x.most ≤ 9) && decide (0 ≤ x.floor) && decide (x.floor < next) && decide (x.acks.length ≤ 20) && decide (x.note.length ≤ 30) && decide (x.queue.length ≤ 30)
def ackB (next : Int) : Int → List Int → Bool
  | _, [] => true
  | last, n :: l => decide (last < n) && decide (n < next) && ackB next n l
def queB (x : Sub) (clock next : Int) : Int → List Msg → Bool
  | _, [] => true
  | last, m :: l => decide (last < m.seq) && decide (m.seq < next) && !(x.acks.contains m.seq) && msgB m x.lease x.most clock && queB x clock next m.seq l
def goodB (x : Sub) (clock next : Int) : Bool := fieldsB x next && ackB next x.floor x.acks && queB x clock next x.floor x.queue
def subsB (s : St) : Int → List Sub → Bool
  | _, [] => true
  | last, x :: l => decide (last < x.id) && decide (x.id ≤ s.last) && goodB x s.clock s.next && subsB s x.id l
def stB (s : St) : Bool := decide (0 ≤ s.clock) && decide (s.clock ≤ 4503599627370496) && decide (1 ≤ s.next) && decide (s.next ≤ 1073741824) && decide (0 ≤ s.last) && decide (s.last ≤ 1073741824) && decide (s.subs.length ≤ 20) && subsB s 0 s.subs
def noSub : Sub := ⟨0, [], [], [], 0, 0, 0, [], [], []⟩
def outS (l : List Sub) (id : Int) : List Sub := l.filter fun x => !(x.id == id)
def insS (x : Sub) : List Sub → List Sub
  | [] => [x]
  | y :: l => if x.id < y.id then x :: y :: l else y :: insS x l
def putS (l : List Sub) (x : Sub) : List Sub := insS x (outS l x.id)
end Go.Ts
set_option linter.unusedVariables false
namespace Go.Tp
open Go
def PatAt (ps : List (List UInt8)) (j : Nat) (h : j < ps.length) : Prop := wordB ps[j] = true ∨ ps[j] = [43] ∨ (ps[j] = [35] ∧ j + 1 = ps.length)
theorem patP_yes : ∀ (ps : List (List UInt8)), (∀ j (h : j < ps.length), PatAt ps j h) → patP ps = true
  | [], _ => rfl
  | [p], h => by
    rcases h 0 (by simp) with h | h | h
    · simp [patP]; simp at h; simp [h]
    · simp [patP]; simp at h; simp [h]
    · simp [patP]; simp at h; simp [h]
  | p :: q :: r, h => by
    have h0 := h 0 (by simp)
    have hr : patP (q :: r) = true := patP_yes (q :: r) fun j hj => by
      rcases h (j + 1) (by simp at hj ⊢; omega) with h | h | h
      · exact .inl (by simpa using h)
      · exact .inr (.inl (by simpa using h))
      · exact .inr (.inr ⟨by simpa using h.1, by have := h.2; simp at this ⊢; omega⟩)
    rw [patP, hr, Bool.and_true]
    · rcases h0 with h | h | h
      · simp at h; simp [h]
      · simp at h; simp [h]
      · have := h.2; simp at this
    · intro h; cases h
theorem patP_no : ∀ (ps : List (List UInt8)) (j : Nat) (h : j < ps.length), ¬ PatAt ps j h → patP ps = false
  | [], j, h, _ => by simp at h
  | [p], j, h, hn => by
    have e : j = 0 := by simp at h; omega
    subst e
    unfold PatAt at hn
    simp only [List.getElem_cons_zero, List.length_singleton, not_or, not_and] at hn
    simp only [patP]
    simp only [Bool.or_eq_false_iff, decide_eq_false_iff_not]
    exact ⟨⟨by simpa using hn.1, hn.2.1⟩, fun h => hn.2.2 h trivial⟩
  | p :: q :: r, 0, h, hn => by
    unfold PatAt at hn
    simp only [List.getElem_cons_zero, not_or] at hn
    rw [patP]
    · simp only [Bool.and_eq_false_iff, Bool.or_eq_false_iff, decide_eq_false_iff_not]
      exact .inl ⟨by simpa using hn.1, hn.2.1⟩
    · intro h; cases h
  | p :: q :: r, j + 1, h, hn => by
    have hr := patP_no (q :: r) j (by simp at h ⊢; omega) (fun h2 => hn (by
      rcases h2 with h | h | h
      · exact .inl (by simpa using h)
      · exact .inr (.inl (by simpa using h))
      · exact .inr (.inr ⟨by simpa using h.1, by have := h.2; simp at this ⊢; omega⟩)))
    rw [patP, hr, Bool.and_false]
    intro h; cases h
end Go.Tp
namespace Go.Proofs.YtcmkmdghekkkhaaDoor
open Go.RowKit Go.Rst Go.Tp
set_option maxRecDepth 100000 in
set_option maxHeartbeats 1000000 in
theorem pat_any (l : List UInt8) (hl : l.length ≤ 1000000) (w : World) : Calls Tryd.prog 72 #[sv l] w fun e w' => e = .returned (.bool (patB l)) ∧ Below w.heap.size w w' := by
  go_enter Tryd.func72, Tryd.ntmps72
  have HSP := Lib.hid (split_any 47 l hl w)
  go_wp2_with fail
  go_at_call 93
  refine HSP.out.mono ?_
  rintro e w1 ⟨v, rfl, hown, hb⟩
  obtain ⟨A, c, rfl, _⟩ := own_shape hown
  obtain ⟨ps, hps⟩ : ∃ ps, ps = splitL 47 l := ⟨_, rfl⟩
  have hlen := fun p (hp : p ∈ ps) => splitL_mem 47 l p (by rw [← hps]; exact hp)
  have hpl := splitL_len 47 l
  rw [← hps] at hown hpl ⊢
  have hr : patB l = (patP ps && decide (l.length ≤ 30)) := by unfold patB; rw [← hps]
  have HR := Lib.hid hr
  have HOW := Lib.hid hown
  have HB := Lib.hid hb
  have HLEN := Lib.hid hlen
  clear hown hb hlen hr hps
  go_wp2_with fail
  go_loopw [4] (fun i wr => ∃ k : Nat, k ≤ ps.length ∧ i = .int .i64 k ∧ (∀ j (h : j < ps.length), j < k → PatAt ps j h) ∧ wr = w1) (fun i _ => ps.length - (intOf i).toNat)
  case atStart => exact ⟨0, Nat.zero_le _, rfl, fun j _ h => by omega, rfl⟩
  case round =>
    obtain ⟨k, hk, rfl, hall, rfl⟩ := hrel
    have HALL := Lib.hid hall
    clear hall
    by_cases hlt : k < ps.length
    · obtain ⟨g, rfl, hg, hcell⟩ := own_str HOW.out hlt
      obtain ⟨p, hp⟩ : ∃ p, p = ps[k] := ⟨_, rfl⟩
      rw [← hp] at hcell
      have HP := Lib.hid hp
      have HW := Lib.hid (word_any p (by have := HLEN.out p (by rw [hp]; exact List.getElem_mem hlt); omega) wr)
      have q1 : (k : Int) < (ps.length : Int) := by omega
      clear hp
      go_wp2_with fail
      go_at_call 94
      refine HW.out.mono ?_
      rintro e w2 ⟨rfl, rfl⟩
      cases hw : wordB p with
      | true =>
        have HWP := Lib.hid hw
        clear hw
        go_wp2
        go_roundw
        case rel => exact ⟨k + 1, by omega, by go_num, fun j h hj => by
          by_cases e : j < k
          · exact HALL.out j h e
          · obtain rfl : j = k := by omega
            exact .inl (by rw [← HP.out]; exact HWP.out), trivial⟩
        case measure => simp [intOf]; omega
      | false =>
        have hwn := hw
        clear hw
        by_cases a1 : p = [43]
        · have A1 := Lib.hid a1
          have b1 : (p == [43]) = true := by rw [a1]; rfl
          clear hwn
          go_wp2
          go_roundw
          case rel => exact ⟨k + 1, by omega, by go_num, fun j h hj => by
            by_cases e : j < k
            · exact HALL.out j h e
            · obtain rfl : j = k := by omega
              exact .inr (.inl (by rw [← HP.out]; exact A1.out)), trivial⟩
          case measure => simp [intOf]; omega
        · have b1 : (p == [43]) = false := by simpa using a1
          by_cases a2 : p = [35]
          · have A2 := Lib.hid a2
            have b2 : (p == [35]) = true := by rw [a2]; rfl
            by_cases a3 : k + 1 = ps.length
            · have b3 : ((k : Int) == (ps.length : Int) - 1) = true := by simp; omega
              have A3 := Lib.hid a3
              clear a3 hwn
              go_wp2
              go_roundw
              case rel => exact ⟨k + 1, by omega, by go_num, fun j h hj => by
                by_cases e : j < k
                · exact HALL.out j h e
                · obtain rfl : j = k := by omega
                  exact .inr (.inr ⟨by rw [← HP.out]; exact A2.out, A3.out⟩), trivial⟩
              case measure => simp [intOf]; omega
            · have b3 : ((k : Int) == (ps.length : Int) - 1) = false := by simp; omega
              have e : patB l = false := by
                rw [HR.out, patP_no ps k hlt (fun h => by
                  unfold PatAt at h
                  rw [← HP.out] at h
                  rcases h with h | h | h
                  · rw [hwn] at h; cases h
                  · exact a1 h
                  · exact a3 h.2), Bool.false_and]
              clear hwn a3
              have HE := Lib.hid e
              clear e
              go_wp2
              go_ret
              exact ⟨by rw [HE.out]; rfl, HB.out⟩
          · have b2 : (p == [35]) = false := by simpa using a2
            have e : patB l = false := by
              rw [HR.out, patP_no ps k hlt (fun h => by
                unfold PatAt at h
                rw [← HP.out] at h
                rcases h with h | h | h
                · rw [hwn] at h; cases h
                · exact a1 h
                · exact a2 h.1), Bool.false_and]
            clear hwn
            have HE := Lib.hid e
            clear e
            go_wp2
            go_ret
            exact ⟨by rw [HE.out]; rfl, HB.out⟩
    · obtain rfl : k = ps.length := by omega
      have q1 : ¬ (ps.length : Int) < (ps.length : Int) := by omega
      have e : patB l = decide (l.length ≤ 30) := by
        rw [HR.out, patP_yes ps (fun j h => HALL.out j h h), Bool.true_and]
      have HE := Lib.hid e
      clear e
      go_wp2
      go_ret
      exact ⟨by rw [HE.out]; first | rfl | (simp; done) | (simp; omega), HB.out⟩
end Go.Proofs.YtcmkmdghekkkhaaDoor
set_option linter.unusedVariables false
set_option linter.unusedSimpArgs false
namespace Go.Ts
open Go Go.Tp
theorem name_word (l : List UInt8) : nameB l = (decide (l.length ≤ 20) && wordB l) := by
  unfold nameB
  by_cases h47 : l.contains 47 = true
  · have hw : wordB l = false := by
      unfold wordB
      rw [List.contains_iff_mem] at h47
      have : l.all isW = false := by
        rw [List.all_eq_false]
        exact ⟨47, h47, by decide⟩
      rw [this, Bool.false_and]
    rw [h47, hw]
    simp
  · have h47 : l.contains 47 = false := by simpa using h47
    have hne : ∀ x ∈ l, x ≠ 47 := fun x hx e => by
      subst e
      have := List.contains_iff_mem.2 hx
      rw [h47] at this
      cases this
    unfold rightB
    rw [h47, splitL_last 47 l hne]
    by_cases h20 : l.length ≤ 20
    · have h30 : l.length ≤ 30 := by omega
      simp [h20, h30]
    · simp [h20]
def okM (x : Sub) (clock : Int) (m : Msg) : Bool := !(x.acks.contains m.seq) && msgB m x.lease x.most clock
theorem que_split (x : Sub) (clock next : Int) : ∀ (a : Int) (q : List Msg), queB x clock next a q = (q.all (okM x clock) && ackB next a (q.map (·.seq)))
  | a, [] => rfl
  | a, m :: q => by
    simp only [queB, List.all_cons, List.map_cons, ackB, que_split x clock next m.seq q, okM]
    cases decide (a < m.seq) <;> cases decide (m.seq < next) <;> cases x.acks.contains m.seq <;> cases msgB m x.lease x.most clock <;> simp
theorem all_take {α : Type} {p : α → Bool} {l : List α} {k : Nat} (hk : k < l.length) : (l.take (k + 1)).all p = ((l.take k).all p && p l[k]) := by
  rw [List.take_succ_eq_append_getElem hk, List.all_append]
  simp
theorem all_not {α : Type} {p : α → Bool} {l : List α} {k : Nat} (hk : k < l.length) (h : p l[k] = false) : l.all p = false := by
  rw [List.all_eq_false]
  exact ⟨l[k], List.getElem_mem hk, by rw [h]; simp⟩
theorem good_split (x : Sub) (clock next : Int) : goodB x clock next = ((decide (1 ≤ x.id) && decide (x.id ≤ 1073741824)) && (nameB x.name && (patB x.topic && (attrsB x.want && ((decide (1 ≤ x.lease) && decide (x.lease ≤ 1000)) && ((decide (1 ≤ x.most) && decide (x.most ≤ 9)) && (decide (x.note.length ≤ 30) && (decide (0 ≤ x.floor) && (decide (x.floor < next) && ((decide (x.acks.length ≤ 20) && ackB next x.floor x.acks) && (decide (x.queue.length ≤ 30) && queB x clock next x.floor x.queue))))))))))) := by
  unfold goodB fieldsB
  ac_rfl
end Go.Ts
set_option linter.unusedVariables false
set_option linter.unusedSimpArgs false
namespace Go.Ts
open Go Go.Tp
structure BaseOk (x : Sub) (next : Int) : Prop where
  name : nameB x.name = true
  topic : patB x.topic = true
  want : attrsB x.want = true
  lease : 1 ≤ x.lease ∧ x.lease ≤ 1000
  most : 1 ≤ x.most ∧ x.most ≤ 9
  floor : 0 ≤ x.floor ∧ x.floor < next
  note : x.note.length ≤ 30
structure SI (base : Sub) (clock next seq : Int) (x : Sub) : Prop where
  eq : x = { base with acks := x.acks, queue := x.queue }
  al : x.acks.length ≤ 20
  ak : ackB next base.floor x.acks = true
  au : ∀ y ∈ x.acks, y ≤ seq
  ql : x.queue.length ≤ 30
  qk : ackB next base.floor (x.queue.map (·.seq)) = true
  qs : ∀ m ∈ x.queue, m.seq ≤ seq ∧ x.acks.contains m.seq = false ∧ msgB m base.lease base.most clock = true ∧ m.til ≤ 1000000000
  fl : base.floor ≤ seq
theorem ack_snoc {next n : Int} (hn : n < next) : ∀ {a : Int} {l : List Int}, ackB next a l = true → (∀ y ∈ l, y < n) → a < n → ackB next a (l ++ [n]) = true
  | a, [], _, _, ha => by simp [ackB, ha, hn]
  | a, m :: l, h, hl, ha => by
    simp only [ackB, Bool.and_eq_true, decide_eq_true_eq] at h
    simp only [List.cons_append, ackB, Bool.and_eq_true, decide_eq_true_eq]
    exact ⟨h.1, ack_snoc hn h.2 (fun y hy => hl y (List.mem_cons_of_mem _ hy)) (hl m List.mem_cons_self)⟩
theorem SI.start {base : Sub} {clock next : Int} (ha : base.acks = []) (hq : base.queue = []) : SI base clock next base.floor base :=
  ⟨rfl, by rw [ha]; simp, by rw [ha]; rfl, by rw [ha]; simp, by rw [hq]; simp, by rw [hq]; rfl, by rw [hq]; simp, Int.le_refl _⟩
theorem SI.ack {base : Sub} {clock next s s' : Int} {x : Sub} (h : SI base clock next s x) (h1 : s < s') (h2 : s' < next) (h3 : x.acks.length < 20) : SI base clock next s' { x with acks := x.acks ++ [s'] } := by
  refine ⟨?_, ?_, ?_, ?_, h.ql, h.qk, ?_, ?_⟩
  · have := h.eq
    show ({ x with acks := x.acks ++ [s'] } : Sub) = { base with acks := x.acks ++ [s'], queue := x.queue }
    rw [this]
  · show (x.acks ++ [s']).length ≤ 20
    simp
    omega
  · have := h.fl
    exact ack_snoc h2 h.ak (fun y hy => by have := h.au y hy; omega) (by omega)
  · intro y hy
    rcases List.mem_append.1 hy with hy | hy
    · have := h.au y hy; omega
    · rw [List.mem_singleton.1 hy]; exact Int.le_refl _
  · intro m hm
    obtain ⟨a, b, c, d⟩ := h.qs m hm
    refine ⟨by omega, ?_, c, d⟩
    show (x.acks ++ [s']).contains m.seq = false
    rw [List.contains_eq_mem] at b ⊢
    simp only [decide_eq_false_iff_not] at b ⊢
    intro e
    rcases List.mem_append.1 e with e | e
    · exact b e
    · have := List.mem_singleton.1 e; omega
  · have := h.fl; omega
theorem SI.msg {base : Sub} {clock next s s' : Int} {x : Sub} {m : Msg} (h : SI base clock next s x) (h1 : s < s') (h2 : s' < next) (h3 : x.queue.length < 30) (hm : m.seq = s') (hb : msgB m base.lease base.most clock = true) (ht : m.til ≤ 1000000000) :
    SI base clock next s' { x with queue := x.queue ++ [m] } := by
  have hfl := h.fl
  refine ⟨?_, h.al, h.ak, ?_, ?_, ?_, ?_, ?_⟩
  · have := h.eq
    show ({ x with queue := x.queue ++ [m] } : Sub) = { base with acks := x.acks, queue := x.queue ++ [m] }
    rw [this]
  · intro y hy
    have := h.au y hy; omega
  · show (x.queue ++ [m]).length ≤ 30
    simp
    omega
  · show ackB next base.floor ((x.queue ++ [m]).map (·.seq)) = true
    rw [List.map_append]
    show ackB next base.floor (x.queue.map (·.seq) ++ [m.seq]) = true
    rw [hm]
    refine ack_snoc h2 h.qk (fun y hy => ?_) (by omega)
    obtain ⟨m', hm', rfl⟩ := List.mem_map.1 hy
    have := (h.qs m' hm').1
    omega
  · intro m' hm'
    rcases List.mem_append.1 hm' with e | e
    · obtain ⟨a, b, c, d⟩ := h.qs m' e
      exact ⟨by omega, b, c, d⟩
    · rw [List.mem_singleton.1 e]
      refine ⟨by omega, ?_, hb, ht⟩
      show x.acks.contains m.seq = false
      rw [List.contains_eq_mem]
      simp only [decide_eq_false_iff_not]
      intro e2
      have := h.au _ e2
      omega
  · omega
theorem SI.good {base : Sub} {clock next s : Int} {x : Sub} (h : SI base clock next s x) (hb : BaseOk base next) (hi : 1 ≤ base.id ∧ base.id ≤ 1073741824) : goodB x clock next = true := by
  have he := h.eq
  have f1 : x.id = base.id := by rw [he]
  have f2 : x.name = base.name := by rw [he]
  have f3 : x.topic = base.topic := by rw [he]
  have f4 : x.want = base.want := by rw [he]
  have f5 : x.lease = base.lease := by rw [he]
  have f6 : x.most = base.most := by rw [he]
  have f7 : x.floor = base.floor := by rw [he]
  have f8 : x.note = base.note := by rw [he]
  rw [good_split, que_split, f1, f2, f3, f4, f5, f6, f7, f8, hb.name, hb.topic, hb.want, h.ak, h.qk]
  have hok : x.queue.all (okM x clock) = true := by
    rw [List.all_eq_true]
    intro m hm
    obtain ⟨a, b, c, d⟩ := h.qs m hm
    unfold okM
    rw [b, f5, f6, c]
    rfl
  rw [hok]
  simp [hb.lease.1, hb.lease.2, hb.most.1, hb.most.2, hb.floor.1, hb.floor.2, hb.note, h.al, h.ql, hi.1, hi.2]
end Go.Ts
set_option linter.unusedVariables false
namespace Go.Ts
theorem outS_take {l : List Sub} {id : Int} {k : Nat} (hk : k < l.length) : outS (l.take (k + 1)) id = outS (l.take k) id ++ (if l[k].id = id then [] else [l[k]]) := by
  unfold outS
  rw [List.take_succ_eq_append_getElem hk, List.filter_append]
  congr 1
  by_cases h : l[k].id = id
  · rw [if_pos h]; simp [h]
  · rw [if_neg h]; simp [h]
theorem outS_len (l : List Sub) (id : Int) : (outS l id).length ≤ l.length := List.length_filter_le _ _
end Go.Ts
set_option linter.unusedVariables false
namespace Go.Ts
open Go Go.Tp
def SortS (l : List Sub) : Prop := l.Pairwise (fun a b => a.id < b.id)
theorem mem_out {y : Sub} {l : List Sub} {id : Int} : y ∈ outS l id ↔ y ∈ l ∧ y.id ≠ id := by
  unfold outS
  simp
theorem mem_ins {x y : Sub} : ∀ {l : List Sub}, y ∈ insS x l ↔ y = x ∨ y ∈ l
  | [] => by simp [insS]
  | z :: l => by
    unfold insS
    split
    · simp
    · rw [List.mem_cons, mem_ins (l := l), List.mem_cons]
      constructor
      · rintro (h | h | h) <;> simp [h]
      · rintro (h | h | h) <;> simp [h]
theorem mem_put {x y : Sub} {l : List Sub} : y ∈ putS l x ↔ y = x ∨ (y ∈ l ∧ y.id ≠ x.id) := by
  unfold putS
  rw [mem_ins, mem_out]
theorem sort_out {l : List Sub} (h : SortS l) (id : Int) : SortS (outS l id) := by
  unfold outS
  exact List.Pairwise.filter _ h
theorem sort_ins {x : Sub} : ∀ {l : List Sub}, SortS l → (∀ y ∈ l, y.id ≠ x.id) → SortS (insS x l)
  | [], _, _ => by simp [insS, SortS]
  | z :: l, h, hx => by
    unfold SortS at h
    obtain ⟨h1, h2⟩ := List.pairwise_cons.1 h
    unfold insS
    split
    · rename_i hlt
      refine List.pairwise_cons.2 ⟨fun y hy => ?_, h⟩
      rcases List.mem_cons.1 hy with rfl | hy
      · exact hlt
      · have := h1 y hy
        omega
    · rename_i hlt
      have := hx z List.mem_cons_self
      refine List.pairwise_cons.2 ⟨fun y hy => ?_, sort_ins h2 (fun y hy => hx y (List.mem_cons_of_mem _ hy))⟩
      rcases mem_ins.1 hy with rfl | hy
      · omega
      · exact h1 y hy
theorem sort_put {l : List Sub} (h : SortS l) (x : Sub) : SortS (putS l x) := sort_ins (sort_out h x.id) (fun y hy => (mem_out.1 hy).2)
theorem ins_len (x : Sub) : ∀ l : List Sub, (insS x l).length = l.length + 1
  | [] => rfl
  | z :: l => by
    unfold insS
    split
    · rfl
    · rw [List.length_cons, ins_len x l, List.length_cons]
theorem out_len (l : List Sub) (id : Int) : (outS l id).length ≤ l.length := List.length_filter_le _ _
theorem put_len (l : List Sub) (x : Sub) : (putS l x).length ≤ l.length + 1 := by
  unfold putS
  rw [ins_len]
  have := out_len l x.id
  omega
theorem ack_all {next : Int} : ∀ {a : Int} {l : List Int}, ackB next a l = true → ∀ y ∈ l, a < y ∧ y < next
  | _, [], _, y, hy => by cases hy
  | a, n :: l, h, y, hy => by
    simp only [ackB, Bool.and_eq_true, decide_eq_true_eq] at h
    rcases List.mem_cons.1 hy with rfl | hy
    · exact h.1
    · have := ack_all h.2 y hy
      omega
end Go.Ts
