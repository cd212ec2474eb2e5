/-
  Words for what is settled, rows of ints of the call's own (layer state). No program but the seat's types.
-/
import Derived.Test.YtcmkmdghekkkhaaDoorTsOwn
import Derived.Test.YtcmkmdghekkkhaaDoorTkMax
set_option linter.unusedVariables false
namespace Go.Ts
def upL (F : Int) (l : List Int) : List Int := l.filter fun n => decide (F < n)
theorem upL_take {F : Int} {l : List Int} {k : Nat} (hk : k < l.length) : upL F (l.take (k + 1)) = upL F (l.take k) ++ (if F < l[k] then [l[k]] else []) := by
  unfold upL
  rw [List.take_succ_eq_append_getElem hk, List.filter_append]
  congr 1
  by_cases h : F < l[k]
  · rw [if_pos h]; simp [h]
  · rw [if_neg h]; simp [h]
theorem upL_len (F : Int) (l : List Int) : (upL F l).length ≤ l.length := List.length_filter_le _ _
end Go.Ts
namespace Go.Proofs.YtcmkmdghekkkhaaDoor
open Go.RowKit Go.Rst Go.Tp Go.Ts
theorem infoNum : (Tryd.prog.info? 3).map (fun i => (i.zero, i.size, i.bytes)) = some (some (.int .i64 0), 1, 8) := by kernel_rfl
def iv (n : Int) : Value := .int .i64 n
/-- A row of the call's own that holds ints. -/
def OI (base : Nat) (wr : World) (v : Value) (ys : List Int) : Prop := wr.ownsRow base 3 1 v ys.length (ys.map iv)
theorem OI.nil_ (base : Nat) (wr : World) : OI base wr (.slice none 0 0) [] := World.ownsRow_nil _ _ _ _
theorem OI.rl {base : Nat} {wr : World} {v : Value} {ys : List Int} (h : OI base wr v ys) : RI wr v ys := by
  have e : (ys.map fun n => [iv n]).flatten = ys.map iv := by
    induction ys with
    | nil => rfl
    | cons a l ih =>
      have : ∀ l : List Int, (l.map fun n => [iv n]).flatten = l.map iv := fun l => by induction l with
        | nil => rfl
        | cons a l ih => simp [ih]
      exact this _
  unfold OI at h
  rw [← e] at h
  refine RL.own h (by simp) (fun cs hcs => ?_) (fun j h1 h2 => ?_)
  · obtain ⟨n, _, rfl⟩ := List.mem_map.1 hcs; rfl
  · rw [List.getElem_map]; rfl
theorem OI.kept {base : Nat} {wr w2 : World} {v : Value} {ys : List Int} {g : Nat} (h : OI base wr v ys) (hg : wr.grownBy w2 (some g)) (hb : g < base) : OI base w2 v ys := by
  refine World.ownsRow.kept h hg ?_
  rcases h.2 with ⟨rfl, _⟩ | ⟨k, cap, cur, rfl, hk, _⟩
  · exact .inl rfl
  · refine .inr fun e => ?_
    have : g = k := by simpa [Value.ownBlock] using e.symm
    omega
/-- A subscription, by value. -/
def GivesSub (w : World) (x : Sub) (e : Ending) (w' : World) : Prop := ∃ av qv, e = .returned (.agg (subC x av qv).toArray) ∧ RI w' av x.acks ∧ RM w' qv x.queue ∧ Below w.heap.size w w'
end Go.Proofs.YtcmkmdghekkkhaaDoor
