/-
  The contracts of slices.Clone, of the device's three rows.
-/
import Derived.Test.YtpaahbohbnfibaaDoesW
namespace Go.Proofs.Ytpaahbohbnfibaa
open Go.RowKit Go.Rst Go.Dv
theorem wpList_own3 {w : World} {ops : Array Oper} {rest : List Oper} {o : Oper} {a : Act} {Q : Exit → Act → World → Prop} (hgd : o.guard = none) (s x : Operand) (t tx : TypeId)
    (ho : o.op = .call { callee := .builtin .append, args := #[s, x], argTypes := #[t, tx] })
    (base : Nat) (e : TypeId) (z : Value) (size bytes : Nat) (ht : Try.prog.underlying t = some (.slice e)) (hinfo : (Try.prog.info? e).map (fun i => (i.zero, i.size, i.bytes)) = some (some z, size, bytes))
    (hzs : z.cells.size = size)
    {v : Value} {n : Nat} {xs : List Value} (hs : a.eval s = v) (hown : w.ownsRow base e size v n xs)
    {xv : Value} {m : Nat} {news : List Value} (hx : a.eval x = xv) (hsrc : Src Try.prog size tx xv m news w) {W : World} {B : Nat} (hbel : Below B W w) (hB : B ≤ base)
    (h63 : n + m ≤ maxLen) (hbytes : (n + m) * bytes ≤ 140737488355328) (hbase : base ≤ w.heap.size)
    (h : ∀ v' w', w'.ownsRow base e size v' (n + m) (xs ++ news) → Below B W w' → (v'.ownBlock = v.ownBlock ∨ v'.ownBlock = some w.heap.size) → wpList Try.prog ops Q rest (a.put o.dst v') w') : wpList Try.prog ops Q (o :: rest) a w := by
  obtain ⟨i, hi, hz, hsz, hb⟩ := info_parts hinfo
  exact wpList_append_src hgd s x t tx ho base e i z size bytes ht hi hz hsz hb hzs hs hown hx hsrc h63 hbytes hbase fun v' w' h1 h2 h3 =>
    h v' w' h1 (hbel.grown h2 (by omega) fun k hk => by have := (hown.lt k hk).1; omega) h3
theorem eql_nil (w : World) (t e : TypeId) (a : Addr) (l c : Nat) (h : Try.prog.underlying t = some (.slice e)) : (binOp .eql t (.slice (some a) l c) (.slice none 0 0)).run Try.prog w = .ok (.bool false) w := by
  have := run_equal_slice_nil (P := Try.prog) w t e (some a) l c h
  simp [binOp, this]
theorem own_empty (w : World) (e : TypeId) (size : Nat) : (w.alloc (Obj.cells #[] e)).ownsRow w.heap.size e size (.slice (some ⟨w.heap.size, 0, none⟩) 0 0) 0 [] :=
  ⟨by simp, .inr ⟨w.heap.size, 0, #[], rfl, Nat.le_refl _, heap_alloc_new w _, Nat.le_refl _, Nat.zero_le _, by simp, by simp⟩⟩
/-- What Clone hands back. -/
def CloneR (w : World) (e : TypeId) (size n : Nat) (xs : List Value) (ed : Ending) (w' : World) : Prop :=
  ∃ g c, ed = .returned (.slice (some ⟨g, 0, none⟩) n c) ∧ w'.ownsRow w.heap.size e size (.slice (some ⟨g, 0, none⟩) n c) n xs ∧ Below w.heap.size w w'
theorem CloneR.mk {w w' : World} {e : TypeId} {size n : Nat} {xs : List Value} {v : Value} (h : w'.ownsRow w.heap.size e size v n xs) (hb : Below w.heap.size w w') (hv : v.ownBlock ≠ none) : CloneR w e size n xs (.returned v) w' := by
  rcases h.2 with ⟨rfl, _⟩ | ⟨g, cap, cur, rfl, _⟩
  · exact absurd rfl hv
  · exact ⟨g, cap, rfl, h, hb⟩
set_option maxRecDepth 100000 in
set_option maxHeartbeats 1000000 in
theorem clone_36 {w : World} {b0 g n cap : Nat} {xs : List Value} (h : w.ownsRow b0 66 64 (.slice (some ⟨g, 0, none⟩) n cap) n xs) (h1 : ∀ x ∈ xs, x.oneCell' = true) (hn : n ≤ 100000) :
    Calls Try.prog 36 #[.slice (some ⟨g, 0, none⟩) n cap] w (CloneR w 66 64 n xs) := by
  have HS := Lib.hid (show Src Try.prog 64 61 (.slice (some ⟨g, 0, none⟩) n cap) n xs (w.alloc (Obj.cells #[] 66)) from
    Row.src (A := fun _ => False) ((Row.own h (fun _ _ _ h => h)).fr (D := fun _ => False) (Fr.of_below ((Below.refl _ _).alloc (Nat.le_refl _) _)) (fun _ h => h) (fun _ h => .inl h)) h.1 (by decide) Try.underlying61 h1)
  have HLM := Lib.hid (show 0 + n ≤ maxLen by unfold maxLen; omega)
  have HLB := Lib.hid (show (0 + n) * 64 ≤ 140737488355328 by omega)
  have HZ := Lib.hid (show ((.agg (Array.replicate 64 (.int .u8 0))) : Value).cells.size = 64 by simp [Value.cells])
  have HO := Lib.hid (own_empty w 66 64)
  have e1 : (binOp .eql 61 (.slice (some ⟨g, 0, none⟩) n cap) (.slice none 0 0)).run Try.prog w = .ok (.bool false) w := eql_nil w 61 66 _ _ _ Try.underlying61
  clear h h1 hn
  go_enter Try.func36, Try.ntmps36
  go_wp2_with (at_builtin; refine wpList_own3 rfl (.tmp 5) (.tmp 6) 61 61 rfl w.heap.size 66 (.agg (Array.replicate 64 (.int .u8 0))) 64 64 Try.underlying61 info66 HZ.out rfl HO.out rfl HS.out ((Below.refl w.heap.size w).alloc (Nat.le_refl _) _) (Nat.le_refl _) HLM.out HLB.out (by simp) ?_)
  intro v5 w5 hown5 hbel5 hb3
  have HO5 := Lib.hid hown5
  have HB5 := Lib.hid hbel5
  have HNN := Lib.hid (show v5.ownBlock ≠ none by rcases hb3 with h | h <;> rw [h] <;> simp [Value.ownBlock])
  clear hown5 hbel5 hb3
  go_wp2
  go_ret
  exact CloneR.mk HO5.out HB5.out HNN.out
set_option maxRecDepth 100000 in
set_option maxHeartbeats 1000000 in
theorem clone_37 {w : World} {b0 g n cap : Nat} {xs : List Value} (h : w.ownsRow b0 68 65 (.slice (some ⟨g, 0, none⟩) n cap) n xs) (h1 : ∀ x ∈ xs, x.oneCell' = true) (hn : n ≤ 100000) :
    Calls Try.prog 37 #[.slice (some ⟨g, 0, none⟩) n cap] w (CloneR w 68 65 n xs) := by
  have HS := Lib.hid (show Src Try.prog 65 62 (.slice (some ⟨g, 0, none⟩) n cap) n xs (w.alloc (Obj.cells #[] 68)) from
    Row.src (A := fun _ => False) ((Row.own h (fun _ _ _ h => h)).fr (D := fun _ => False) (Fr.of_below ((Below.refl _ _).alloc (Nat.le_refl _) _)) (fun _ h => h) (fun _ h => .inl h)) h.1 (by decide) Try.underlying62 h1)
  have HLM := Lib.hid (show 0 + n ≤ maxLen by unfold maxLen; omega)
  have HLB := Lib.hid (show (0 + n) * 72 ≤ 140737488355328 by omega)
  have HZ := Lib.hid (show ((.agg (#[.int .i64 0] ++ Array.replicate 64 (.int .u8 0))) : Value).cells.size = 65 by simp [Value.cells])
  have HO := Lib.hid (own_empty w 68 65)
  have e1 : (binOp .eql 62 (.slice (some ⟨g, 0, none⟩) n cap) (.slice none 0 0)).run Try.prog w = .ok (.bool false) w := eql_nil w 62 68 _ _ _ Try.underlying62
  clear h h1 hn
  go_enter Try.func37, Try.ntmps37
  go_wp2_with (at_builtin; refine wpList_own3 rfl (.tmp 5) (.tmp 6) 62 62 rfl w.heap.size 68 (.agg (#[.int .i64 0] ++ Array.replicate 64 (.int .u8 0))) 65 72 Try.underlying62 info68 HZ.out rfl HO.out rfl HS.out ((Below.refl w.heap.size w).alloc (Nat.le_refl _) _) (Nat.le_refl _) HLM.out HLB.out (by simp) ?_)
  intro v5 w5 hown5 hbel5 hb3
  have HO5 := Lib.hid hown5
  have HB5 := Lib.hid hbel5
  have HNN := Lib.hid (show v5.ownBlock ≠ none by rcases hb3 with h | h <;> rw [h] <;> simp [Value.ownBlock])
  clear hown5 hbel5 hb3
  go_wp2
  go_ret
  exact CloneR.mk HO5.out HB5.out HNN.out
set_option maxRecDepth 100000 in
set_option maxHeartbeats 1000000 in
theorem clone_38 {w : World} {b0 g n cap : Nat} {xs : List Value} (h : w.ownsRow b0 3 1 (.slice (some ⟨g, 0, none⟩) n cap) n xs) (h1 : ∀ x ∈ xs, x.oneCell' = true) (hn : n ≤ 100000) :
    Calls Try.prog 38 #[.slice (some ⟨g, 0, none⟩) n cap] w (CloneR w 3 1 n xs) := by
  have HS := Lib.hid (show Src Try.prog 1 52 (.slice (some ⟨g, 0, none⟩) n cap) n xs (w.alloc (Obj.cells #[] 3)) from
    Row.src (A := fun _ => False) ((Row.own h (fun _ _ _ h => h)).fr (D := fun _ => False) (Fr.of_below ((Below.refl _ _).alloc (Nat.le_refl _) _)) (fun _ h => h) (fun _ h => .inl h)) h.1 (by decide) Try.underlying52 h1)
  have HLM := Lib.hid (show 0 + n ≤ maxLen by unfold maxLen; omega)
  have HLB := Lib.hid (show (0 + n) * 8 ≤ 140737488355328 by omega)
  have HZ := Lib.hid (show ((.int .i64 0) : Value).cells.size = 1 by rfl)
  have HO := Lib.hid (own_empty w 3 1)
  have e1 : (binOp .eql 52 (.slice (some ⟨g, 0, none⟩) n cap) (.slice none 0 0)).run Try.prog w = .ok (.bool false) w := eql_nil w 52 3 _ _ _ Try.underlying52
  clear h h1 hn
  go_enter Try.func38, Try.ntmps38
  go_wp2_with (at_builtin; refine wpList_own3 rfl (.tmp 5) (.tmp 6) 52 52 rfl w.heap.size 3 (.int .i64 0) 1 8 Try.underlying52 info3 HZ.out rfl HO.out rfl HS.out ((Below.refl w.heap.size w).alloc (Nat.le_refl _) _) (Nat.le_refl _) HLM.out HLB.out (by simp) ?_)
  intro v5 w5 hown5 hbel5 hb3
  have HO5 := Lib.hid hown5
  have HB5 := Lib.hid hbel5
  have HNN := Lib.hid (show v5.ownBlock ≠ none by rcases hb3 with h | h <;> rw [h] <;> simp [Value.ownBlock])
  clear hown5 hbel5 hb3
  go_wp2
  go_ret
  exact CloneR.mk HO5.out HB5.out HNN.out
set_option maxRecDepth 100000 in
set_option maxHeartbeats 1000000 in
theorem clone_nil {w : World} : Calls Try.prog 37 #[.slice none 0 0] w fun e w' => e = .returned (.slice none 0 0) ∧ w = w' := by
  have e1 : (binOp .eql 62 (.slice none 0 0) (.slice none 0 0)).run Try.prog w = .ok (.bool true) w := by
    have := run_equal_slice_nil (P := Try.prog) w 62 68 none 0 0 Try.underlying62
    simp [binOp, this]
  go_enter Try.func37, Try.ntmps37
  go_wp2
  go_ret
  exact ⟨rfl, rfl⟩
end Go.Proofs.Ytpaahbohbnfibaa
