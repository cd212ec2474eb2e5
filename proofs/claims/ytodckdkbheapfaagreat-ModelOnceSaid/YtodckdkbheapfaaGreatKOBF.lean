/-
  The contracts of the program's parts (layer topic): a function that tells the parts of a text, and of each whether it is the last.
-/
import Derived.Deep.QuietTactic
import Derived.BigQuiet
import Derived.WalkSmall
import Derived.Test.YtodckdkbheapfaaGreatKOB
import Derived.Test.YtodckdkbheapfaaGreatKOBB
import Derived.Test.YtodckdkbheapfaaGreatKOBE
set_option linter.unusedVariables false
set_option linter.unusedVariables false
namespace Go.Tp
open Go
def lastL : List (List UInt8) → List (List UInt8 × Bool)
  | [] => []
  | [p] => [(p, true)]
  | p :: q :: r => (p, false) :: lastL (q :: r)
def notL (ps : List (List UInt8)) : List (List UInt8 × Bool) := ps.map fun p => (p, false)
theorem notL_snoc (ps : List (List UInt8)) (p : List UInt8) : notL (ps ++ [p]) = notL ps ++ [(p, false)] := by simp [notL]
theorem notL_len (ps : List (List UInt8)) : (notL ps).length = ps.length := by simp [notL]
theorem lastL_end : ∀ (ps : List (List UInt8)) (p : List UInt8), lastL (ps ++ [p]) = notL ps ++ [(p, true)]
  | [], p => rfl
  | [x], p => rfl
  | x :: y :: r, p => by
    have h := lastL_end (y :: r) p
    rw [List.cons_append] at h
    rw [List.cons_append, List.cons_append, lastL, h]
    rfl
theorem lastL_more : ∀ (ps : List (List UInt8)) (p : List UInt8) (qs : List (List UInt8)), qs ≠ [] → lastL (ps ++ p :: qs) = notL ps ++ (p, false) :: lastL qs
  | [], p, [], h => absurd rfl h
  | [], p, q :: r, _ => rfl
  | [x], p, q, h => by
    rw [List.singleton_append, lastL, show p :: q = [] ++ p :: q from rfl, lastL_more [] p q h]; rfl
  | x :: y :: r, p, q, h => by
    have h := lastL_more (y :: r) p q h
    rw [List.cons_append] at h
    rw [List.cons_append, List.cons_append, lastL, h]
    rfl
theorem lastL_fst : ∀ (ps : List (List UInt8)), (lastL ps).map (·.1) = ps
  | [] => rfl
  | [p] => rfl
  | p :: q :: r => by rw [lastL, List.map_cons, lastL_fst (q :: r)]
end Go.Tp
namespace Go.Proofs.YtodckdkbheapfaaGreat
open Go.RowKit Go.Rst Go.Tp Go.Shelf
theorem Spl.jump {c : UInt8} {l : List UInt8} {f : Nat} {ps : List (List UInt8)} : ∀ (z k : Nat), Spl c l f k ps → k + z ≤ l.length → (∀ j (hj : j < l.length), k ≤ j → j < k + z → l[j] ≠ c) → Spl c l f (k + z) ps
  | 0, k, h, _, _ => h
  | z + 1, k, h, hz, hn => by
    have h1 := h.on (show k < l.length by omega) (hn k (by omega) (Nat.le_refl _) (by omega))
    have h2 := Spl.jump z (k + 1) h1 (by omega) (fun j hj a b => hn j hj (by omega) (by omega))
    rw [show k + (z + 1) = k + 1 + z by omega]
    exact h2
def KB (Bs : Nat) (l : List UInt8) (c : UInt8) (X : World) : Prop := Boxed X Bs 9 (sv l) ∧ Boxed X (Bs + 1) 21 (.int .i32 c.toNat)
theorem KB.kept {Bs : Nat} {l : List UInt8} {c : UInt8} {X Y : World} {row : Option Nat} (h : KB Bs l c X) (hg : X.grownBy Y row) (h1 : some Bs ≠ row) (h2 : some (Bs + 1) ≠ row) : KB Bs l c Y := ⟨h.1.kept hg h1, h.2.kept hg h2⟩
def KeepsP (Bs : Nat) (l : List UInt8) (c : UInt8) (A B : World) : Prop := (KB Bs l c A → KB Bs l c B) ∧ KeepsWalks A B
theorem KeepsP.trans {Bs : Nat} {l : List UInt8} {c : UInt8} {A B C : World} (h : KeepsP Bs l c A B) (k : KeepsP Bs l c B C) : KeepsP Bs l c A C := ⟨fun x => k.1 (h.1 x), h.2.trans k.2⟩
theorem KeepsP.turn {Bs : Nat} {l : List UInt8} {c : UInt8} (W : World) (i : Nat) (o o' : Obj) (hi : W.heap[i]? = some o) (hc : o.isCells = false) (hw : o.isWalk = false) : KeepsP Bs l c W (W.putObj i o') := by
  have hne : ∀ B t v, Boxed W B t v → some B ≠ some i := fun B t v hb e => by
    injection e with e
    subst e
    rw [show W.heap[B]? = _ from hb] at hi
    cases hi
    cases hc
  exact ⟨fun h => h.kept (grownBy_putObj' W i o') (hne _ _ _ h.1) (hne _ _ _ h.2), KeepsWalks.putObj o' hi hw⟩
theorem parts_in (n : Nat) (l : List UInt8) (c : UInt8) (w : World) :
    CallsIn Fence.wide n Tryz.prog 97 #[sv l, .int .i32 c.toNat] w fun e w' => e = .returned (.func (.func 129) #[] #[.pointer (some ⟨w.heap.size, 0, none⟩), .pointer (some ⟨w.heap.size + 1, 0, none⟩)]) ∧ w' = (w.alloc (.cells #[sv l] 9)).alloc (.cells #[.int .i32 c.toNat] 21) := by
  refine callsIn_of_wp Tryz.func97 rfl trivial ?_ rfl
  simp only [Tryz.ntmps97, List.size_toArray, List.length_cons, List.length_nil, Nat.reduceAdd, Nat.reduceSub, Array.replicate_succ, Array.replicate_zero, List.push_toArray, List.append_toArray, List.nil_append, List.cons_append]
  gi_wp2
  go_ret
  exact ⟨rfl, rfl⟩
theorem kb_new (w : World) (l : List UInt8) (c : UInt8) : KB w.heap.size l c ((w.alloc (.cells #[sv l] 9)).alloc (.cells #[.int .i32 c.toNat] 21)) := by
  have h2 := Boxed.new (w.alloc (.cells #[sv l] 9)) 21 (.int .i32 c.toNat)
  rw [World.size_alloc] at h2
  exact ⟨(Boxed.new w 9 (sv l)).alloc _, h2⟩
theorem iter_grown (w : World) (k : Nat) (s : ByteArray) (p : Nat) : w.grownBy (w.iterAt k s p) (some k) :=
  ⟨rfl, rfl, rfl, Nat.le_of_eq (Lib.iterAt_size w k s p).symm, fun i _ hi => Lib.iterAt_other w k i s p (fun e => hi (by rw [e]))⟩
theorem yield_at {F : Fence} {n m : Nat} {P : Program} {o : Oper} {a : Act} {K : Act → World → Prop} {Q : Exit → Act → World → Prop} {l : Nat} {args : Array Value} {W : World} {R : Ending → World → Prop} (h : YieldAt F m P l args W R)
    (hk : ∀ fn tmps assign body, RoundIn F m P l fn tmps assign body W R → Oper.uponIn F n P o a K Q (.ok (.round l fn tmps assign body) W)) : Oper.uponIn F n P o a K Q ((Instr.yield l args).run P W) := by
  obtain ⟨fn, tmps, assign, body, hy, hr⟩ := h
  rw [hy]
  exact hk _ _ _ _ hr
abbrev Pt (l : List UInt8) : Type := { x : List UInt8 × Bool // x.1.length ≤ l.length }
set_option maxRecDepth 100000 in
set_option maxHeartbeats 4000000 in
theorem parts_stops (n Bs : Nat) (l : List UInt8) (c : UInt8) (hl : l.length ≤ 1000000) (hc : c.toNat < 128) (W0 : World) (hB : Bs + 1 < W0.heap.size) (hKB : KB Bs l c W0) :
    SeqStopsK Fence.wide n Tryz.prog 129 #[.pointer (some ⟨Bs, 0, none⟩), .pointer (some ⟨Bs + 1, 0, none⟩)] (fun x : Pt l => #[sv x.1.1, .bool x.1.2]) (KeepsP Bs l c)
      (fun ys => ys.map (·.1) = lastL (splitL c l)) (fun pre => pre.map (·.1) <+: lastL (splitL c l)) (l.length + 1) W0 :=
  fun lp J Jx W hW hJ hJx hY h0 => by
  have hKW : KB Bs l c W := ⟨(hW.block Bs (by omega)).trans hKB.1, (hW.block (Bs + 1) hB).trans hKB.2⟩
  have hBW : Bs + 1 < W.heap.size := Nat.lt_of_lt_of_le hB hW.size
  refine callsIn_of_wp Tryz.func129 rfl trivial ?_ rfl
  simp only [Tryz.ntmps129, List.size_toArray, List.length_cons, List.length_nil, Nat.reduceAdd, Nat.reduceSub, Array.replicate_succ, Array.replicate_zero, List.push_toArray, List.append_toArray, List.nil_append, List.cons_append]
  have HY := Lib.hid hY
  have HJ := Lib.hid hJ
  have hcl := hKW.1.cell
  have hcc := hKW.2.cell
  have HKW := Lib.hid hKW
  clear hJ hJx hY hKW hKB hW
  gi_wp2
  gi_loopw [4] (fun fv wr => ∃ (k f : Nat) (ps : List (List UInt8)) (pre : List (Pt l)), fv = .int .i64 f ∧ Spl c l f k ps ∧ pre.map (·.1) = notL ps ∧ wr.heap[W.heap.size]? = some (.stringIter ⟨l.toArray⟩ k) ∧ KB Bs l c wr ∧ J pre wr)
    (fun _ wr => l.length - wr.iterPos W.heap.size)
  case atStart => exact ⟨0, 0, [], [], rfl, Spl.start c l, rfl, World.iter_heap _ _ _, HKW.out.kept (World.grownBy_alloc W _ none) (by simp) (by simp), HJ.out [] W _ none h0 (World.grownBy_alloc W _ none) (fun r e => by cases e)⟩
  case round =>
    obtain ⟨k, f, ps, pre, rfl, hs, hpre, hit, hkb, hj⟩ := hrel
    have hpl : pre.length = ps.length := by have := congrArg List.length hpre; rwa [List.length_map, notL_len] at this
    have HPR := Lib.hid hpre
    have HPL := Lib.hid hpl
    clear hpre hpl
    obtain ⟨K, hK⟩ : ∃ K, K = W.heap.size := ⟨_, rfl⟩
    rw [← hK] at hit hBW HJ ⊢
    clear hK
    have hip : wr.iterPos K = k := iterPos_of hit
    have hfk := hs.fk
    have hpf := hs.pf
    have HKL := Lib.hid hs.kl
    have hm1 : ∀ k2, wr.heap[K]? = some (.stringIter ⟨l.toArray⟩ k) → KB Bs l c (wr.iterAt K ⟨l.toArray⟩ k2) := fun k2 _ => hkb.kept (iter_grown wr K _ k2) (fun e => by injection e; omega) (fun e => by injection e; omega)
    have hm2 : ∀ k2, J pre (wr.iterAt K ⟨l.toArray⟩ k2) := fun k2 => HJ.out _ wr _ (some K) hj (iter_grown wr K _ k2) (fun r e => by cases e; exact ⟨Nat.le_refl _, _, hit, rfl⟩)
    by_cases hlt : k < l.length
    · have hsz : k < (⟨l.toArray⟩ : ByteArray).size := by show k < l.toArray.size; simpa using hlt
      obtain ⟨x, hx⟩ : ∃ x, x = l[k] := ⟨_, rfl⟩
      have hix : (⟨l.toArray⟩ : ByteArray)[k]'hsz = x := hx.symm
      by_cases h128 : x.toNat < 128
      · obtain ⟨W2, hW2⟩ : ∃ W2, W2 = wr.iterAt K ⟨l.toArray⟩ (k + 1) := ⟨_, rfl⟩
        have hnx : ∀ ty, (Instr.next (.pointer (some ⟨K, 0, none⟩)) true ty).run Tryz.prog wr = .ok (.tuple #[.bool true, .int .i64 k, .int .i32 x.toNat]) W2 := fun ty => by
          rw [Lib.run_next_ascii_at wr K ⟨l.toArray⟩ k ty hit hsz (by rw [hix]; exact h128), hix, hW2]
        have hit2 : W2.heap[K]? = some (.stringIter ⟨l.toArray⟩ (k + 1)) := by rw [hW2]; exact Lib.iterAt_heap _ _ _ _ _ hit
        have hkb2 : KB Bs l c W2 := by rw [hW2]; exact hm1 _ hit
        have hj2 : J pre W2 := by rw [hW2]; exact hm2 _
        have hc1 := hkb2.1.cell
        have hc2 := hkb2.2.cell
        have HIT := Lib.hid hit2
        have HKB := Lib.hid hkb2
        have HJ2 := Lib.hid hj2
        have HS := Lib.hid hs
        have HX := Lib.hid hx
        have HIP := Lib.hid hip
        clear hit2 hkb2 hj2 hs hx hip hm1 hm2 hit hkb hj hW2 hix hcl hcc hfk
        by_cases hxc : x = c
        · have q3 : ((x.toNat : Int) == (c.toNat : Int)) = true := by rw [hxc]; simp
          obtain ⟨p, hp⟩ : ∃ p, p = (l.drop f).take (k - f) := ⟨_, rfl⟩
          have hcut := HS.out.cut hlt (HX.out.symm.trans hxc)
          have hext := ext_str l f k
          have hpz : p.length ≤ l.length := by rw [hp, List.length_take, List.length_drop]; omega
          rw [← hp] at hcut hext
          obtain ⟨X, hX⟩ : ∃ X : Pt l, X = ⟨(p, false), hpz⟩ := ⟨_, rfl⟩
          have hX1 : X.1 = (p, false) := by rw [hX]
          have HXM := Lib.hid (show (pre ++ [X]).map (·.1) = notL (ps ++ [p]) by rw [List.map_append, HPR.out, notL_snoc, List.map_cons, hX1]; rfl)
          have hyy : YieldAt Fence.wide (n - 1) Tryz.prog lp #[.string ((⟨l.toArray⟩ : ByteArray).extract f k), .bool false] W2 (fun e W' => (e = .returned (.bool true) ∧ J (pre ++ [X]) W' ∧ KeepsP Bs l c W2 W') ∨ (e = .returned (.bool false) ∧ Jx (pre ++ [X]) W')) := by
            have h := HY.out pre X W2 HJ2.out (by rw [HPL.out]; have := HS.out.fk; omega)
            rw [hX1] at h
            rw [hext]
            exact h
          have q9 : (f : Int) ≤ (k : Int) := by have := HS.out.fk; omega
          have q8 : (k : Int) ≤ (l.length : Int) := by omega
          have HRD := Lib.hid hyy
          have HCUT := Lib.hid hcut
          have HPF := Lib.hid (show ps.length ≤ f from hpf)
          clear hyy hcut hext hp hxc hpf hX hX1 hpz
          gi_wp2_with (refine yield_at (HRD.out) ?_; intro fn tmps assign body hRd)
          refine ⟨fun h => (by simp [Fence.wide] at h), hRd.mono ?_⟩
          rintro e W3 (⟨rfl, hJ3, hk3⟩ | ⟨rfl, hJx3⟩)
          · have HJ3 := Lib.hid hJ3
            have HK3 := Lib.hid (hk3.1 HKB.out)
            have HI3 := Lib.hid (hk3.2.same K _ HIT.out rfl)
            clear hJ3 hk3
            gi_wp2
            go_roundw
            case rel => exact ⟨k + 1, k + 1, ps ++ [p], pre ++ [X], by go_num, HCUT.out, HXM.out, HI3.out, HK3.out, HJ3.out⟩
            case measure => rw [iterPos_of HI3.out, HIP.out]; omega
          · have HJX := Lib.hid hJx3
            have HSP := Lib.hid (show (pre ++ [X]).map (·.1) <+: lastL (splitL c l) by
              rw [HXM.out, HCUT.out.eq, List.append_assoc, List.singleton_append, lastL_more _ _ _ (splitL_ne _ _), notL_snoc]
              exact List.prefix_append_right_inj _ |>.2 ⟨_, rfl⟩)
            clear hJx3
            gi_wp2
            refine bodyPost_ret (results_none rfl _ _ _) rfl ?_
            exact ⟨⟨_, rfl⟩, .inr ⟨_, HSP.out, HJX.out⟩⟩
        · have q3 : ((x.toNat : Int) == (c.toNat : Int)) = false := by
            simp only [beq_eq_false_iff_ne, ne_eq]
            intro h
            exact hxc (UInt8.toNat_inj.1 (by omega))
          have HON := Lib.hid (HS.out.on hlt (fun h => hxc (HX.out.trans h)))
          clear hxc
          gi_wp2
          go_roundw
          case rel => exact ⟨k + 1, f, ps, pre, rfl, HON.out, HPR.out, HIT.out, HKB.out, HJ2.out⟩
          case measure => rw [iterPos_of HIT.out, HIP.out]; omega
      · obtain ⟨d1, d2, d3, d4⟩ := dec_high ⟨l.toArray⟩ k hsz (by rw [hix]; omega)
        obtain ⟨r, hr⟩ : ∃ r, r = (Utf8.decode ⟨l.toArray⟩ k).1 := ⟨_, rfl⟩
        obtain ⟨z, hz⟩ : ∃ z, z = (Utf8.decode ⟨l.toArray⟩ k).2 := ⟨_, rfl⟩
        obtain ⟨W2, hW2⟩ : ∃ W2, W2 = wr.iterAt K ⟨l.toArray⟩ (k + z) := ⟨_, rfl⟩
        have hnx : ∀ ty, (Instr.next (.pointer (some ⟨K, 0, none⟩)) true ty).run Tryz.prog wr = .ok (.tuple #[.bool true, .int .i64 k, .int .i32 r]) W2 := fun ty => by
          rw [Lib.run_next_any_at wr K ⟨l.toArray⟩ k ty hit hsz, hW2, hr, hz]
        rw [← hr] at d1
        rw [← hz] at d2 d3 d4
        have d3' : k + z ≤ l.length := by have : (⟨l.toArray⟩ : ByteArray).size = l.length := by show l.toArray.size = _; simp
                                          omega
        have hit2 : W2.heap[K]? = some (.stringIter ⟨l.toArray⟩ (k + z)) := by rw [hW2]; exact Lib.iterAt_heap _ _ _ _ _ hit
        have hkb2 : KB Bs l c W2 := by rw [hW2]; exact hm1 _ hit
        have hj2 : J pre W2 := by rw [hW2]; exact hm2 _
        have hon := Spl.jump z k hs d3' (fun j hj a b e => by
          have h := d4 j (by show j < l.toArray.size; simpa using hj) a b
          have h2 : (⟨l.toArray⟩ : ByteArray)[j]'(by show j < l.toArray.size; simpa using hj) = l[j] := rfl
          rw [h2, e] at h
          omega)
        have q3 : ((r : Int) == (c.toNat : Int)) = false := by rw [beq_eq_false_iff_ne]; omega
        have hc1 := hkb2.1.cell
        have hc2 := hkb2.2.cell
        have HIT := Lib.hid hit2
        have HKB := Lib.hid hkb2
        have HJ2 := Lib.hid hj2
        have HON := Lib.hid hon
        have HIP := Lib.hid hip
        clear hit2 hkb2 hj2 hs hx hip hm1 hm2 hit hkb hj hW2 hix hcl hcc hon d1 d3 d4 hr hz
        gi_wp2
        go_roundw
        case rel => exact ⟨k + z, f, ps, pre, rfl, HON.out, HPR.out, HIT.out, HKB.out, HJ2.out⟩
        case measure => rw [iterPos_of HIT.out, HIP.out]; omega
    · obtain rfl : k = l.length := by have := HKL.out; omega
      have hsz : ¬ l.length < (⟨l.toArray⟩ : ByteArray).size := by show ¬ _ < l.toArray.size; simp
      have hnx : ∀ ty, (Instr.next (.pointer (some ⟨K, 0, none⟩)) true ty).run Tryz.prog wr = .ok (.tuple #[.bool false]) wr := fun ty => Lib.run_next_end_at wr K ⟨l.toArray⟩ l.length ty hit hsz
      obtain ⟨p, hp⟩ : ∃ p, p = (l.drop f).take (l.length - f) := ⟨_, rfl⟩
      have hlast := hs.last
      have hext := ext_str l f l.length
      have hpz : p.length ≤ l.length := by rw [hp, List.length_take, List.length_drop]; omega
      rw [← hp] at hlast hext
      obtain ⟨X, hX⟩ : ∃ X : Pt l, X = ⟨(p, true), hpz⟩ := ⟨_, rfl⟩
      have hX1 : X.1 = (p, true) := by rw [hX]
      have hend : (pre ++ [X]).map (·.1) = lastL (splitL c l) := by rw [hlast, lastL_end, List.map_append, HPR.out, List.map_cons, hX1]; rfl
      have HEND := Lib.hid hend
      have hyy : YieldAt Fence.wide (n - 1) Tryz.prog lp #[.string ((⟨l.toArray⟩ : ByteArray).extract f l.length), .bool true] wr (fun e W' => (e = .returned (.bool true) ∧ J (pre ++ [X]) W' ∧ KeepsP Bs l c wr W') ∨ (e = .returned (.bool false) ∧ Jx (pre ++ [X]) W')) := by
        have h := HY.out pre X wr hj (by rw [HPL.out]; omega)
        rw [hX1] at h
        rw [hext]
        exact h
      have hc1 := hkb.1.cell
      have hc2 := hkb.2.cell
      have q9 : (f : Int) ≤ (l.length : Int) := by omega
      have HRD := Lib.hid hyy
      clear hyy hp hlast hext hend hX hX1 hpz hs hkb hj hm1 hm2 hit hip hcl hcc hsz
      gi_wp2_with (refine yield_at (HRD.out) ?_; intro fn tmps assign body hRd)
      refine ⟨fun h => (by simp [Fence.wide] at h), hRd.mono ?_⟩
      rintro e W3 (⟨rfl, hJ3, hk3⟩ | ⟨rfl, hJx3⟩)
      · have HJ3 := Lib.hid hJ3
        clear hJ3 hk3
        gi_wp2
        go_end0
        exact ⟨⟨_, rfl⟩, .inl ⟨_, HEND.out, HJ3.out⟩⟩
      · have HJX := Lib.hid hJx3
        clear hJx3
        gi_wp2
        go_end0
        exact ⟨⟨_, rfl⟩, .inr ⟨_, HEND.out ▸ List.prefix_rfl, HJX.out⟩⟩
end Go.Proofs.YtodckdkbheapfaaGreat
