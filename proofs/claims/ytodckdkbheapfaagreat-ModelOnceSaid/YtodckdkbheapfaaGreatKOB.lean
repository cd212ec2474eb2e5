/-
  Words on bytes that lie in memory, over the seat's program, without any of its functions.; The contract of the document's own word (layer topic).; The contract of the document's own split (layer topic).; The contract of the document's own pairs (layer topic).; Plain mathematics of states, without any program: subscriptions, messages, what may be, what is put.; Plain mathematics of what the statements of states ask: what is put is found, what is settled, in which order. No program.; Plain mathematics of what becomes of a state by each op, without any program (layer model).; A state that may be is one behind any op: plain mathematics, without any program (layer model).; Plain mathematics of what may be: names, queues, subscriptions (layer state). No program.; Plain mathematics of leaving out (layer state). No program.; Plain mathematics of the statements on pairs: they are wanted of themselves, and so are fewer. No program.; Plain mathematics of a tick, step by step (layer model). No program.; Plain mathematics of what is fetched: which messages, and in which order (layer model). No program.; What the statements on the model ask, as plain mathematics: what is fetched, acknowledged, leased, dead (layer model). No program.; What the statements on the model ask, as plain mathematics: notes, quotas, what is none (layer model). No program.; Plain mathematics of the statements' own Sub: what is made may be. No program.; The statements' own Name without wild words, exactly (layer topi
-/
import Derived.Test.YtodckdkbheapfaaGreatProg
import Derived.Test.YtodckdkbheapfaaGreatKOA
set_option linter.unusedVariables false
namespace Go.Proofs.YtodckdkbheapfaaGreat
open Go.RowKit Go.Rst
def Blk (w : World) (g : Nat) (t : TypeId) (cs : Array Value) : Prop := w.heap[g]? = some (.cells cs t (0, 0))
section
variable {w w' : World} {g : Nat} {t : TypeId} {cs : Array Value}
theorem Blk.lt (h : Blk w g t cs) : g < w.heap.size := by
  rcases Nat.lt_or_ge g w.heap.size with hlt | hge
  · exact hlt
  · unfold Blk at h; rw [Array.getElem?_eq_none hge] at h; cases h
theorem Blk.cell (h : Blk w g t cs) (i : Nat) : w.cell? ⟨g, i, none⟩ = cs[i]? := cell_of_row w g i cs t (0, 0) h
theorem Blk.frozen (h : Blk w g t cs) (i : Nat) : w.frozen? ⟨g, i, none⟩ = false := by
  unfold Blk at h
  simp [World.frozen?, h]
theorem Blk.alloc (h : Blk w g t cs) (o : Obj) : Blk (w.alloc o) g t cs := (Below.heap_alloc w o g h.lt).trans h
theorem Blk.set_ (h : Blk w g t cs) (i : Nat) (u : Value) : Blk (w.setCell ⟨g, i, none⟩ u) g t (cs.setIfInBounds i u) := by
  unfold Blk at h ⊢
  simp [World.setCell, Array.getElem?_modify, h]
theorem Blk.far (h : Blk w g t cs) {p : Addr} (hp : g ≠ p.block) (u : Value) : Blk (w.setCell p u) g t cs := (Below.heap_setCell w p u g hp).trans h
theorem Blk.below {B : Nat} (h : Blk w g t cs) (hb : Below B w w') (hg : g < B) : Blk w' g t cs := (hb.block g hg).trans h
end
theorem str22 {w : World} {v : Value} {l : List UInt8} (h : RB w v l) : (convert 22 9 v).run Tryz.prog w = .ok (.string ⟨l.toArray⟩) w := h.str Tryz.underlying22 Tryz.underlying5 Tryz.underlying9
theorem rb_cell {w : World} {A : Option Addr} {c : Nat} {l : List UInt8} (h : RB w (.slice A l.length c) l) {k : Nat} (hk : k < l.length) :
    ∃ b off, A = some ⟨b, off, none⟩ ∧ b < w.heap.size ∧ w.cell? ⟨b, off + k, none⟩ = some (bv l[k]) := by
  obtain ⟨A', c', he, _, _, h3⟩ := h
  injection he with e1 e2 e3
  subst e1
  rcases h3 with h3 | ⟨b, off, h4, h5, h6⟩
  · rw [h3] at hk; simp at hk
  · exact ⟨b, off, h4, h5, h6 k hk⟩
end Go.Proofs.YtodckdkbheapfaaGreat
namespace Go.Proofs.YtodckdkbheapfaaGreat
open Go.RowKit Go.Rst Go.Tp
theorem all_take_succ {l : List UInt8} {k : Nat} (hk : k < l.length) (f : UInt8 → Bool) : (l.take (k + 1)).all f = ((l.take k).all f && f l[k]) := by
  rw [List.take_succ_eq_append_getElem hk, List.all_append]
  simp
theorem isW_yes {c : UInt8} (h : isW c = true) : (97 ≤ c.toNat ∧ c.toNat ≤ 122) ∨ (48 ≤ c.toNat ∧ c.toNat ≤ 57) := by
  unfold isW at h
  simpa using h
theorem isW_no {c : UInt8} (h : isW c = false) : ¬ ((97 ≤ c.toNat ∧ c.toNat ≤ 122) ∨ (48 ≤ c.toNat ∧ c.toNat ≤ 57)) := by
  unfold isW at h
  simpa [Classical.or_iff_not_imp_left] using h
theorem wordB_no {l : List UInt8} {k : Nat} (hk : k < l.length) (h : isW l[k] = false) : wordB l = false := by
  unfold wordB
  rw [List.all_eq_false.2 ⟨l[k], List.getElem_mem hk, by simp [h]⟩, Bool.false_and]
end Go.Proofs.YtodckdkbheapfaaGreat
set_option linter.unusedVariables false
namespace Go.Proofs.YtodckdkbheapfaaGreat
open Go.RowKit Go.Rst Go.Tp
theorem ext_cat (a b : List UInt8) : (⟨a.toArray⟩ : ByteArray) ++ ⟨b.toArray⟩ = ⟨(a ++ b).toArray⟩ := by
  apply ByteArray.ext
  simp [ByteArray.data_append]
def svs (ps : List (List UInt8)) : List Value := ps.map fun p => .string ⟨p.toArray⟩
structure Spl (c : UInt8) (l : List UInt8) (f k : Nat) (ps : List (List UInt8)) : Prop where
  fk : f ≤ k
  kl : k ≤ l.length
  pf : ps.length ≤ f
  cl : ∀ x ∈ (l.drop f).take (k - f), x ≠ c
  eq : splitL c l = ps ++ splitL c (l.drop f)
theorem Spl.start (c : UInt8) (l : List UInt8) : Spl c l 0 0 [] := ⟨Nat.le_refl _, Nat.zero_le _, Nat.le_refl _, fun x hx => by simp at hx, by simp⟩
theorem Spl.on {c : UInt8} {l : List UInt8} {f k : Nat} {ps : List (List UInt8)} (h : Spl c l f k ps) (hk : k < l.length) (hx : l[k] ≠ c) : Spl c l f (k + 1) ps := by
  have hfk := h.fk
  refine ⟨by omega, hk, h.pf, fun x hx2 => ?_, h.eq⟩
  have e : (l.drop f).take (k + 1 - f) = (l.drop f).take (k - f) ++ [l[k]] := by
    have e1 : k + 1 - f = (k - f) + 1 := by omega
    have h1 : k - f < (l.drop f).length := by rw [List.length_drop]; omega
    rw [e1, List.take_succ_eq_append_getElem h1]
    congr 2
    rw [List.getElem_drop]
    congr 1
    omega
  rw [e] at hx2
  rcases List.mem_append.1 hx2 with h2 | h2
  · exact h.cl x h2
  · rw [List.mem_singleton.1 h2]; exact hx
theorem drop_cut {l : List UInt8} {f k : Nat} (hfk : f ≤ k) (hk : k < l.length) : l.drop f = (l.drop f).take (k - f) ++ l[k] :: l.drop (k + 1) := by
  have h1 : k - f < (l.drop f).length := by rw [List.length_drop]; omega
  conv => lhs; rw [← List.take_append_drop (k - f) (l.drop f)]
  congr 1
  rw [List.drop_drop, show f + (k - f) = k by omega, List.drop_eq_getElem_cons hk]
theorem Spl.cut {c : UInt8} {l : List UInt8} {f k : Nat} {ps : List (List UInt8)} (h : Spl c l f k ps) (hk : k < l.length) (hx : l[k] = c) : Spl c l (k + 1) (k + 1) (ps ++ [(l.drop f).take (k - f)]) := by
  have hfk := h.fk
  have hpf := h.pf
  refine ⟨Nat.le_refl _, hk, by simp; omega, fun x hx => by simp at hx, ?_⟩
  have e := h.eq
  rw [drop_cut hfk hk, hx, splitL_part c _ h.cl] at e
  rw [e]
  simp
theorem Spl.last {c : UInt8} {l : List UInt8} {f : Nat} {ps : List (List UInt8)} (h : Spl c l f l.length ps) : splitL c l = ps ++ [(l.drop f).take (l.length - f)] := by
  rw [h.eq]
  congr 1
  have e : (l.drop f).take (l.length - f) = l.drop f := by rw [List.take_of_length_le]; simp
  have h2 := h.cl
  rw [e] at h2 ⊢
  exact splitL_last c _ h2
theorem ext_str (l : List UInt8) (f k : Nat) : (⟨l.toArray⟩ : ByteArray).extract f k = ⟨((l.drop f).take (k - f)).toArray⟩ := by
  apply ByteArray.ext
  rw [ByteArray.data_extract]
  simp
end Go.Proofs.YtodckdkbheapfaaGreat
set_option linter.unusedVariables false
namespace Go.Tp
open Go
def leS (a b : List UInt8) : Bool := Op.bytesLess a b || a == b
def pairOk (last p : List UInt8) : Bool := match splitL 61 p with
  | [a, b] => wordB a && wordB b && !leS a last
  | _ => false
def firstOf (p : List UInt8) : List UInt8 := (splitL 61 p).headD []
def pairsP : List UInt8 → List (List UInt8) → Bool
  | _, [] => true
  | last, p :: ps => pairOk last p && pairsP (firstOf p) ps
def pairsR (l : List UInt8) : List (List UInt8) × Bool := if l = [] then ([], true) else if pairsP [] (splitL 44 l) = true then (splitL 44 l, decide (l.length ≤ 30)) else ([], false)
def attrsB (l : List UInt8) : Bool := (pairsR l).2
def wantB (a b : List UInt8) : Bool := (pairsR a).1.all (fun x => (pairsR b).1.contains x) && ((pairsR a).2 && (pairsR b).2)
end Go.Tp
namespace Go.Proofs.YtodckdkbheapfaaGreat
open Go.RowKit Go.Rst Go.Tp
def GivesP (w : World) (r : List (List UInt8) × Bool) (e : Ending) (w' : World) : Prop := ∃ v, e = .returned (.tuple #[v, .bool r.2]) ∧ w'.ownsRow w.heap.size 9 1 v r.1.length (svs r.1) ∧ Below w.heap.size w w'
theorem GivesP.no {w w' : World} {r : List (List UInt8) × Bool} (h : r = ([], false)) (hb : Below w.heap.size w w') : GivesP w r (.returned (.tuple #[.slice none 0 0, .bool false])) w' := by
  subst h
  exact ⟨_, rfl, World.ownsRow_nil _ _ _ _, hb⟩
end Go.Proofs.YtodckdkbheapfaaGreat
set_option linter.unusedVariables false
namespace Go.Ts
open Go Go.Tp
structure Msg where
  seq : Int
  body : List UInt8
  attr : List UInt8
  tries : Int
  til : Int
  dead : Bool
  why : List UInt8
  prio : Int
deriving DecidableEq
structure Sub where
  id : Int
  name : List UInt8
  topic : List UInt8
  want : List UInt8
  lease : Int
  most : Int
  floor : Int
  acks : List Int
  queue : List Msg
  note : List UInt8
deriving DecidableEq
structure St where
  clock : Int
  next : Int
  last : Int
  subs : List Sub
deriving DecidableEq
def w64 (n : Int) : Int := RowKit.wrap64 n
def nameB (l : List UInt8) : Bool := decide (l.length ≤ 20) && rightB l && !(l.contains 47)
def msgB (m : Msg) (lease most clock : Int) : Bool :=
  if 60 < m.body.length || !attrsB m.attr || decide (m.prio < 0) || decide (9 < m.prio) then false
  else if m.dead then decide (m.til = 0) && (decide (m.why = [110, 97, 99, 107]) || decide (m.why = [116, 105, 109, 101])) && decide (m.tries = most)
  else if m.why ≠ [] then false
  else if m.til = 0 then decide (0 ≤ m.tries) && decide (m.tries < most)
  else decide (1 ≤ m.tries) && decide (m.tries ≤ most) && decide (clock < m.til) && decide (m.til ≤ w64 (clock + lease))
def fieldsB (x : Sub) (next : Int) : Bool :=
  decide (1 ≤ x.id) && decide (x.id ≤ 1073741824) && nameB x.name && patB x.topic && attrsB x.want && decide (1 ≤ x.lease) && decide (x.lease ≤ 1000) && decide (1 ≤ x.most) && decide (x.most ≤ 9) && decide (0 ≤ x.floor) && decide (x.floor < next) && decide (x.acks.length ≤ 20) && decide (x.note.length ≤ 30) && decide (x.queue.length ≤ 30)
def ackB (next : Int) : Int → List Int → Bool
  | _, [] => true
  | last, n :: l => decide (last < n) && decide (n < next) && ackB next n l
def queB (x : Sub) (clock next : Int) : Int → List Msg → Bool
  | _, [] => true
  | last, m :: l => decide (last < m.seq) && decide (m.seq < next) && !(x.acks.contains m.seq) && msgB m x.lease x.most clock && queB x clock next m.seq l
def goodB (x : Sub) (clock next : Int) : Bool := fieldsB x next && ackB next x.floor x.acks && queB x clock next x.floor x.queue
def noSub : Sub := ⟨0, [], [], [], 0, 0, 0, [], [], []⟩
def findS (l : List Sub) (id : Int) : Option Sub := l.find? fun x => x.id == id
def outS (l : List Sub) (id : Int) : List Sub := l.filter fun x => !(x.id == id)
def insS (x : Sub) : List Sub → List Sub
  | [] => [x]
  | y :: l => if x.id < y.id then x :: y :: l else y :: insS x l
def putS (l : List Sub) (x : Sub) : List Sub := insS x (outS l x.id)
def floorS (x : Sub) (next : Int) : Int := max x.floor (w64 ((match x.queue with | [] => next | m :: _ => m.seq) - 1))
def settleS (x : Sub) (next : Int) : Sub := { x with floor := floorS x next, acks := x.acks.filter fun n => decide (floorS x next < n) }
end Go.Ts
set_option linter.unusedVariables false
namespace Go.Ts
open Go Go.Tp
def SortS (l : List Sub) : Prop := l.Pairwise (fun a b => a.id < b.id)
theorem mem_out {y : Sub} {l : List Sub} {id : Int} : y ∈ outS l id ↔ y ∈ l ∧ y.id ≠ id := by
  unfold outS
  simp
theorem mem_ins {x y : Sub} : ∀ {l : List Sub}, y ∈ insS x l ↔ y = x ∨ y ∈ l
  | [] => by simp [insS]
  | z :: l => by
    unfold insS
    split
    · simp
    · rw [List.mem_cons, mem_ins (l := l), List.mem_cons]
      constructor
      · rintro (h | h | h) <;> simp [h]
      · rintro (h | h | h) <;> simp [h]
theorem mem_put {x y : Sub} {l : List Sub} : y ∈ putS l x ↔ y = x ∨ (y ∈ l ∧ y.id ≠ x.id) := by
  unfold putS
  rw [mem_ins, mem_out]
theorem sort_out {l : List Sub} (h : SortS l) (id : Int) : SortS (outS l id) := by
  unfold outS
  exact List.Pairwise.filter _ h
theorem sort_ins {x : Sub} : ∀ {l : List Sub}, SortS l → (∀ y ∈ l, y.id ≠ x.id) → SortS (insS x l)
  | [], _, _ => by simp [insS, SortS]
  | z :: l, h, hx => by
    unfold SortS at h
    obtain ⟨h1, h2⟩ := List.pairwise_cons.1 h
    unfold insS
    split
    · rename_i hlt
      refine List.pairwise_cons.2 ⟨fun y hy => ?_, h⟩
      rcases List.mem_cons.1 hy with rfl | hy
      · exact hlt
      · have := h1 y hy
        omega
    · rename_i hlt
      have := hx z List.mem_cons_self
      refine List.pairwise_cons.2 ⟨fun y hy => ?_, sort_ins h2 (fun y hy => hx y (List.mem_cons_of_mem _ hy))⟩
      rcases mem_ins.1 hy with rfl | hy
      · omega
      · exact h1 y hy
theorem sort_put {l : List Sub} (h : SortS l) (x : Sub) : SortS (putS l x) := sort_ins (sort_out h x.id) (fun y hy => (mem_out.1 hy).2)
theorem find_ins_self {x : Sub} : ∀ {l : List Sub}, (∀ y ∈ l, y.id ≠ x.id) → findS (insS x l) x.id = some x
  | [], _ => by simp [insS, findS]
  | z :: l, h => by
    unfold insS
    split
    · simp [findS]
    · have hz := h z List.mem_cons_self
      have := find_ins_self (x := x) (l := l) (fun y hy => h y (List.mem_cons_of_mem _ hy))
      unfold findS at this ⊢
      rw [List.find?_cons_of_neg (by simpa using hz), this]
theorem find_put_self (l : List Sub) (x : Sub) : findS (putS l x) x.id = some x := find_ins_self (fun y hy => (mem_out.1 hy).2)
theorem find_mem {l : List Sub} (h : SortS l) {y : Sub} (hy : y ∈ l) : findS l y.id = some y := by
  induction l with
  | nil => cases hy
  | cons z l ih =>
    unfold SortS at h
    obtain ⟨h1, h2⟩ := List.pairwise_cons.1 h
    rcases List.mem_cons.1 hy with rfl | hy
    · simp [findS]
    · have := h1 y hy
      have ih := ih h2 hy
      unfold findS at ih ⊢
      rw [List.find?_cons_of_neg (by simp; omega), ih]
theorem find_some' {l : List Sub} {id : Int} {x : Sub} (h : findS l id = some x) : x ∈ l ∧ x.id = id := by
  unfold findS at h
  exact ⟨List.mem_of_find?_eq_some h, by simpa using List.find?_some h⟩
theorem ins_len (x : Sub) : ∀ l : List Sub, (insS x l).length = l.length + 1
  | [] => rfl
  | z :: l => by
    unfold insS
    split
    · rfl
    · rw [List.length_cons, ins_len x l, List.length_cons]
theorem out_len (l : List Sub) (id : Int) : (outS l id).length ≤ l.length := List.length_filter_le _ _
theorem put_len (l : List Sub) (x : Sub) : (putS l x).length ≤ l.length + 1 := by
  unfold putS
  rw [ins_len]
  have := out_len l x.id
  omega
theorem ack_all {next : Int} : ∀ {a : Int} {l : List Int}, ackB next a l = true → ∀ y ∈ l, a < y ∧ y < next
  | _, [], _, y, hy => by cases hy
  | a, n :: l, h, y, hy => by
    simp only [ackB, Bool.and_eq_true, decide_eq_true_eq] at h
    rcases List.mem_cons.1 hy with rfl | hy
    · exact h.1
    · have := ack_all h.2 y hy
      omega
theorem w64_id {n : Int} (h0 : -9223372036854775808 ≤ n) (h1 : n ≤ 9223372036854775807) : w64 n = n := by
  unfold w64 RowKit.wrap64
  omega
end Go.Ts
set_option linter.unusedVariables false
namespace Go.Md
open Go Go.Tp Go.Ts
structure Op where
  kind : Int
  sub : Int
  n : Int
  seq : Int
  name : List UInt8
  topic : List UInt8
  want : List UInt8
  body : List UInt8
  attr : List UInt8
structure Rp where
  err : Int
  n : Int
  list : List Msg
deriving DecidableEq
inductive Res where
  | no (e : Int)
  | yes (s : St) (r : Rp)
def Res.st (s : St) : Res → St
  | .no _ => s
  | .yes t _ => t
def Res.rp : Res → Rp
  | .no e => ⟨e, 0, []⟩
  | .yes _ r => r
def need (b : Bool) (e : Int) (r : Res) : Res := if b then r else .no e
def putSt (s : St) (x : Sub) : St := { s with subs := putS s.subs x }
def newS (s : St) (o : Op) : Sub := ⟨s.last + 1, o.name, o.topic, o.want, o.n, o.seq, s.next - 1, [], [], []⟩
def subscribeR (s : St) (o : Op) : Res :=
  need (nameB o.name) 40 <| need (patB o.topic) 41 <| need (attrsB o.want) 42 <|
  need (decide (1 ≤ o.n) && decide (o.n ≤ 1000) && (decide (1 ≤ o.seq) && decide (o.seq ≤ 9))) 1 <|
  need (decide (s.subs.length < 20)) 31 <| need (decide (s.last < 1073741824)) 32 <|
  .yes ⟨s.clock, s.next, s.last + 1, putS s.subs (newS s o)⟩ ⟨0, s.last + 1, []⟩
def hasB (x : Sub) (o : Op) : Bool := matB x.topic o.topic && wantB x.want o.attr
def msgP (s : St) (o : Op) : Msg := ⟨s.next, o.body, o.attr, 0, 0, false, [], o.n⟩
def pubX (s : St) (o : Op) (x : Sub) : Sub := if hasB x o then { x with queue := x.queue ++ [msgP s o] } else x
def publishR (s : St) (o : Op) : Res :=
  need (rightB o.topic) 41 <| need (decide (o.body.length ≤ 60)) 3 <| need (attrsB o.attr) 42 <|
  need (decide (0 ≤ o.n) && decide (o.n ≤ 9)) 1 <| need (decide (s.next < 1073741824)) 32 <|
  need (s.subs.all fun x => !hasB x o || decide (x.queue.length < 30)) 31 <|
  .yes ⟨s.clock, s.next + 1, s.last, s.subs.map (pubX s o)⟩ ⟨0, s.next, []⟩
def waitB (m : Msg) : Bool := !m.dead && decide (m.til = 0)
def firstI : List Msg → Option Nat
  | [] => none
  | m :: l => match firstI l with
    | none => if waitB m then some 0 else none
    | some i => if waitB m && decide ((l[i]?.map (·.prio)).getD 0 ≤ m.prio) then some 0 else some (i + 1)
def lease (t : Int) (m : Msg) : Msg := { m with tries := m.tries + 1, til := t }
def fetchL (t : Int) : Nat → List Msg → List Msg × List Msg
  | 0, q => (q, [])
  | k + 1, q => match firstI q with
    | none => (q, [])
    | some i => let m := lease t (q[i]?.getD ⟨0, [], [], 0, 0, false, [], 0⟩)
                let r := fetchL t k (q.set i m)
                (r.1, m :: r.2)
def fetchR (s : St) (x : Sub) (o : Op) : Res :=
  need (decide (1 ≤ o.n) && decide (o.n ≤ 30)) 1 <|
  .yes (putSt s { x with queue := (fetchL (s.clock + x.lease) o.n.toNat x.queue).1 }) ⟨0, ((fetchL (s.clock + x.lease) o.n.toNat x.queue).2.length : Nat), (fetchL (s.clock + x.lease) o.n.toNat x.queue).2⟩
def atQ (x : Sub) (seq : Int) : Option Nat := x.queue.findIdx? fun m => m.seq == seq
def insI (n : Int) : List Int → List Int
  | [] => [n]
  | a :: l => if n < a then n :: a :: l else a :: insI n l
def ackX (s : St) (x : Sub) (o : Op) (i : Nat) : Sub := settleS { x with queue := x.queue.eraseIdx i, acks := insI o.seq x.acks } s.next
def leasedR (x : Sub) (o : Op) (f : Nat → Msg → Res) : Res :=
  match atQ x o.seq with
  | none => .no 30
  | some i => match x.queue[i]? with
    | none => .no 30
    | some m => need (!decide (m.til = 0)) 1 (f i m)
def ackR (s : St) (x : Sub) (o : Op) : Res := leasedR x o fun i _ =>
  need (decide ((ackX s x o i).acks.length ≤ 20)) 31 <| .yes (putSt s (ackX s x o i)) ⟨0, 0, []⟩
def ackToX (s : St) (x : Sub) (o : Op) : Sub := settleS { x with queue := x.queue.filter (fun m => !decide (m.seq ≤ o.seq)), floor := o.seq } s.next
def ackToR (s : St) (x : Sub) (o : Op) : Res :=
  need (decide (x.floor ≤ o.seq) && decide (o.seq ≤ s.next - 1)) 1 <| .yes (putSt s (ackToX s x o)) ⟨0, 0, []⟩
def backM (most : Int) (why : List UInt8) (m : Msg) : Msg := if most ≤ m.tries then { m with til := 0, dead := true, why := why } else { m with til := 0 }
def byNack : List UInt8 := [110, 97, 99, 107]
def byTime : List UInt8 := [116, 105, 109, 101]
def nackR (s : St) (x : Sub) (o : Op) : Res := leasedR x o fun i m =>
  .yes (putSt s { x with queue := x.queue.set i (backM x.most byNack m) }) ⟨0, 0, []⟩
def tickM (clock : Int) (x : Sub) (m : Msg) : Msg := if 0 < m.til ∧ m.til ≤ clock then backM x.most byTime m else m
def tickX (clock : Int) (x : Sub) : Sub := { x with queue := x.queue.map (tickM clock x) }
def tickR (s : St) (o : Op) : Res :=
  need (decide (0 ≤ o.n) && decide (o.n ≤ 1073741824)) 1 <| need (decide (s.clock + o.n ≤ 4503599627370496)) 32 <|
  .yes ⟨s.clock + o.n, s.next, s.last, s.subs.map (tickX (s.clock + o.n))⟩ ⟨0, 0, []⟩
def deadL (x : Sub) : List Msg := x.queue.filter fun m => m.dead
def liveL (x : Sub) : List Msg := x.queue.filter fun m => !m.dead
def deadR (s : St) (x : Sub) : Res := .yes s ⟨0, ((deadL x).length : Nat), deadL x⟩
def purgeX (s : St) (x : Sub) : Sub := settleS { x with queue := liveL x } s.next
def purgeR (s : St) (x : Sub) : Res := .yes (putSt s (purgeX s x)) ⟨0, ((deadL x).length : Nat), []⟩
def annotR (s : St) (x : Sub) (o : Op) : Res := need (decide (o.name.length ≤ 30)) 3 <| .yes (putSt s { x with note := o.name }) ⟨0, 0, []⟩
def withX (s : St) (o : Op) (f : Sub → Res) : Res := match findS s.subs o.sub with
  | none => .no 30
  | some x => f x
def resR (s : St) (o : Op) : Res :=
  if o.kind = 1 then subscribeR s o
  else if o.kind = 2 then withX s o fun x => .yes { s with subs := outS s.subs x.id } ⟨0, 0, []⟩
  else if o.kind = 3 then publishR s o
  else if o.kind = 4 then withX s o fun x => fetchR s x o
  else if o.kind = 5 then withX s o fun x => ackR s x o
  else if o.kind = 6 then withX s o fun x => ackToR s x o
  else if o.kind = 7 then withX s o fun x => nackR s x o
  else if o.kind = 8 then tickR s o
  else if o.kind = 9 then withX s o fun x => deadR s x
  else if o.kind = 10 then withX s o fun x => purgeR s x
  else if o.kind = 11 then withX s o fun x => annotR s x o
  else if o.kind = 12 then .yes s ⟨0, (s.subs.length : Nat), []⟩
  else .no 70
def doS (s : St) (o : Op) : St × Rp := ((resR s o).st s, (resR s o).rp)
structure Rt (s : St) : Prop where
  c0 : 0 ≤ s.clock
  c1 : s.clock ≤ 4503599627370496
  n0 : 1 ≤ s.next
  n1 : s.next ≤ 1073741824
  l0 : 0 ≤ s.last
  l1 : s.last ≤ 1073741824
  len : s.subs.length ≤ 20
  so : SortS s.subs
  ok : ∀ x ∈ s.subs, 0 < x.id ∧ x.id ≤ s.last ∧ goodB x s.clock s.next = true
end Go.Md
set_option linter.unusedVariables false
namespace Go.Md
open Go Go.Tp Go.Ts
structure Hd (x : Sub) : Prop where
  i1 : 1 ≤ x.id
  i2 : x.id ≤ 1073741824
  nm : nameB x.name = true
  tp : patB x.topic = true
  wt : attrsB x.want = true
  e1 : 1 ≤ x.lease
  e2 : x.lease ≤ 1000
  m1 : 1 ≤ x.most
  m2 : x.most ≤ 9
  nt : x.note.length ≤ 30
structure Pd (x : Sub) (clock next : Int) : Prop where
  hd : Hd x
  f0 : 0 ≤ x.floor
  f1 : x.floor < next
  ql : x.queue.length ≤ 30
  sa : x.acks.Pairwise (· < ·)
  ar : ∀ a ∈ x.acks, a < next
  qs : x.queue.Pairwise (fun a b => a.seq < b.seq)
  qr : ∀ m ∈ x.queue, x.floor < m.seq ∧ m.seq < next ∧ m.seq ∉ x.acks ∧ msgB m x.lease x.most clock = true
structure Gd (x : Sub) (clock next : Int) : Prop where
  pd : Pd x clock next
  al : x.acks.length ≤ 20
  af : ∀ a ∈ x.acks, x.floor < a
theorem ackB_iff (next : Int) : ∀ (a : Int) (l : List Int), ackB next a l = true ↔ l.Pairwise (· < ·) ∧ ∀ n ∈ l, a < n ∧ n < next
  | a, [] => by simp [ackB]
  | a, n :: l => by
    unfold ackB
    rw [Bool.and_eq_true, ackB_iff next n l, List.pairwise_cons]
    simp only [Bool.and_eq_true, decide_eq_true_eq, List.mem_cons, forall_eq_or_imp]
    constructor
    · rintro ⟨⟨h1, h2⟩, h3, h4⟩
      exact ⟨⟨fun y hy => (h4 y hy).1, h3⟩, ⟨h1, h2⟩, fun y hy => ⟨by have := (h4 y hy).1; omega, (h4 y hy).2⟩⟩
    · rintro ⟨⟨h1, h2⟩, ⟨h3, h4⟩, h5⟩
      exact ⟨⟨h3, h4⟩, h2, fun y hy => ⟨h1 y hy, (h5 y hy).2⟩⟩
theorem queB_iff (x : Sub) (clock next : Int) : ∀ (a : Int) (l : List Msg), queB x clock next a l = true ↔ l.Pairwise (fun a b => a.seq < b.seq) ∧ ∀ m ∈ l, a < m.seq ∧ m.seq < next ∧ m.seq ∉ x.acks ∧ msgB m x.lease x.most clock = true
  | a, [] => by simp [queB]
  | a, n :: l => by
    unfold queB
    rw [Bool.and_eq_true, queB_iff x clock next n.seq l, List.pairwise_cons]
    simp only [Bool.and_eq_true, decide_eq_true_eq, List.mem_cons, forall_eq_or_imp, Bool.not_eq_true', List.contains_eq_mem, decide_eq_false_iff_not]
    constructor
    · rintro ⟨⟨⟨⟨h1, h2⟩, h3⟩, h4⟩, h5, h6⟩
      exact ⟨⟨fun y hy => (h6 y hy).1, h5⟩, ⟨h1, h2, h3, h4⟩, fun y hy => ⟨by have := (h6 y hy).1; omega, (h6 y hy).2⟩⟩
    · rintro ⟨⟨h1, h2⟩, ⟨h3, h4, h5, h6⟩, h7⟩
      exact ⟨⟨⟨⟨h3, h4⟩, h5⟩, h6⟩, h2, fun y hy => ⟨h1 y hy, (h7 y hy).2⟩⟩
theorem good_iff (x : Sub) (clock next : Int) : goodB x clock next = true ↔ Gd x clock next := by
  unfold goodB fieldsB
  simp only [Bool.and_eq_true, decide_eq_true_eq, ackB_iff, queB_iff]
  constructor
  · rintro ⟨⟨⟨⟨⟨⟨⟨⟨⟨⟨⟨⟨⟨⟨⟨a1, a2⟩, a3⟩, a4⟩, a5⟩, a6⟩, a7⟩, a8⟩, a9⟩, a10⟩, a11⟩, a12⟩, a13⟩, a14⟩, b1, b2⟩, c1, c2⟩
    exact ⟨⟨⟨a1, a2, a3, a4, a5, a6, a7, a8, a9, a13⟩, a10, a11, a14, b1, fun a ha => (b2 a ha).2, c1, c2⟩, a12, fun a ha => (b2 a ha).1⟩
  · rintro ⟨⟨⟨a1, a2, a3, a4, a5, a6, a7, a8, a9, a13⟩, a10, a11, a14, b1, b2, c1, c2⟩, a12, b3⟩
    exact ⟨⟨⟨⟨⟨⟨⟨⟨⟨⟨⟨⟨⟨⟨⟨a1, a2⟩, a3⟩, a4⟩, a5⟩, a6⟩, a7⟩, a8⟩, a9⟩, a10⟩, a11⟩, a12⟩, a13⟩, a14⟩, b1, fun a ha => ⟨b3 a ha, b2 a ha⟩⟩, c1, c2⟩
theorem floor_facts {x : Sub} {clock next : Int} (h : Pd x clock next) (hn : next ≤ 1073741824) : floorS x next < next ∧ x.floor ≤ floorS x next ∧ ∀ m ∈ x.queue, floorS x next < m.seq := by
  have h1 := h.f0
  have h2 := h.f1
  unfold floorS
  cases hx : x.queue with
  | nil =>
    simp only
    rw [w64_id (by omega) (by omega)]
    exact ⟨by omega, by omega, fun m h => by cases h⟩
  | cons m q =>
    have hm := h.qr m (by rw [hx]; exact List.mem_cons_self)
    have hs := h.qs
    rw [hx, List.pairwise_cons] at hs
    simp only
    rw [w64_id (by omega) (by omega)]
    refine ⟨by omega, by omega, fun m2 h2 => ?_⟩
    rcases List.mem_cons.1 h2 with rfl | h2
    · omega
    · have := hs.1 m2 h2
      omega
theorem settle_gd {x : Sub} {clock next : Int} (h : Pd x clock next) (hn : next ≤ 1073741824) (hl : (settleS x next).acks.length ≤ 20) : Gd (settleS x next) clock next := by
  obtain ⟨f1, f2, f3⟩ := floor_facts h hn
  have h0 := h.f0
  refine ⟨⟨⟨h.hd.i1, h.hd.i2, h.hd.nm, h.hd.tp, h.hd.wt, h.hd.e1, h.hd.e2, h.hd.m1, h.hd.m2, h.hd.nt⟩, ?_, f1, h.ql, ?_, ?_, h.qs, ?_⟩, hl, ?_⟩
  · show 0 ≤ floorS x next
    omega
  · exact List.Pairwise.filter _ h.sa
  · exact fun a ha => h.ar a (List.mem_filter.1 ha).1
  · intro m hm
    obtain ⟨_, q2, q3, q4⟩ := h.qr m hm
    exact ⟨f3 m hm, q2, fun hh => q3 (List.mem_filter.1 hh).1, q4⟩
  · intro a ha
    show floorS x next < a
    simpa using (List.mem_filter.1 ha).2
theorem Gd.le {x : Sub} {clock next clock' next' : Int} (h : Gd x clock next) (hn : next ≤ next') (hm : ∀ m ∈ x.queue, msgB m x.lease x.most clock = true → msgB m x.lease x.most clock' = true) : Gd x clock' next' := by
  have h1 := h.pd.f1
  exact ⟨⟨h.pd.hd, h.pd.f0, by omega, h.pd.ql, h.pd.sa, fun a ha => by have := h.pd.ar a ha; omega, h.pd.qs, fun m hq => by
    obtain ⟨q1, q2, q3, q4⟩ := h.pd.qr m hq
    exact ⟨q1, by omega, q3, hm m hq q4⟩⟩, h.al, h.af⟩
theorem msg_iff {m : Msg} {le mo ck : Int} (hc : 0 ≤ ck) (hc1 : ck ≤ 4503599627370496) (hl : 1 ≤ le) (hl1 : le ≤ 1000) : msgB m le mo ck = true ↔
    (m.body.length ≤ 60 ∧ attrsB m.attr = true ∧ 0 ≤ m.prio ∧ m.prio ≤ 9) ∧
    ((m.dead = true ∧ m.til = 0 ∧ (m.why = byNack ∨ m.why = byTime) ∧ m.tries = mo) ∨
     (m.dead = false ∧ m.why = [] ∧ ((m.til = 0 ∧ 0 ≤ m.tries ∧ m.tries < mo) ∨ (1 ≤ m.tries ∧ m.tries ≤ mo ∧ ck < m.til ∧ m.til ≤ ck + le)))) := by
  unfold msgB byNack byTime
  rw [w64_id (by omega) (by omega)]
  by_cases h1 : 60 < m.body.length
  · simp [h1]
    try omega
  by_cases h2 : attrsB m.attr = true
  case neg => simp [h2]
  by_cases h3 : m.prio < 0
  · simp [h3]
    try omega
  by_cases h4 : 9 < m.prio
  · simp [h4]
    try omega
  rw [if_neg (by simp [h1, h2, h3, h4])]
  have e : (m.body.length ≤ 60 ∧ attrsB m.attr = true ∧ 0 ≤ m.prio ∧ m.prio ≤ 9) = True := by simp [h2]; omega
  rw [e, true_and]
  cases hd : m.dead with
  | true => simp [and_assoc]
  | false =>
    by_cases hw : m.why = []
    case neg => simp [hw]
    by_cases ht : m.til = 0
    · simp [hw, ht]; omega
    · simp [hw, ht, and_assoc]
theorem back_ok {m : Msg} {le mo ck ck2 : Int} (hc : 0 ≤ ck) (hc1 : ck ≤ 4503599627370496) (hk : 0 ≤ ck2) (hk1 : ck2 ≤ 4503599627370496) (hl : 1 ≤ le) (hl1 : le ≤ 1000) (h : msgB m le mo ck = true) (ht : m.til ≠ 0) {why : List UInt8} (hw : why = byNack ∨ why = byTime) : msgB (backM mo why m) le mo ck2 = true := by
  rw [msg_iff hc hc1 hl hl1] at h
  rw [msg_iff hk hk1 hl hl1]
  obtain ⟨⟨a1, a2, a3, a4⟩, h⟩ := h
  unfold backM
  split
  · refine ⟨⟨a1, a2, a3, a4⟩, .inl ⟨rfl, rfl, hw, ?_⟩⟩
    simp only
    rcases h with h | ⟨h1, h2, h | h⟩
    · exact h.2.2.2
    · omega
    · omega
  · refine ⟨⟨a1, a2, a3, a4⟩, .inr ?_⟩
    rcases h with h | ⟨h1, h2, h | h⟩
    · omega
    · exact ⟨h1, h2, .inl ⟨rfl, by omega, by omega⟩⟩
    · exact ⟨h1, h2, .inl ⟨rfl, by show 0 ≤ m.tries; omega, by show m.tries < mo; omega⟩⟩
theorem lease_ok {m : Msg} {le mo ck : Int} (hc : 0 ≤ ck) (hc1 : ck ≤ 4503599627370496) (hl : 1 ≤ le) (hl1 : le ≤ 1000) (h : msgB m le mo ck = true) (hw : waitB m = true) : msgB (lease (ck + le) m) le mo ck = true := by
  rw [msg_iff hc hc1 hl hl1] at h ⊢
  obtain ⟨⟨a1, a2, a3, a4⟩, h⟩ := h
  unfold waitB at hw
  simp only [Bool.and_eq_true, Bool.not_eq_true', decide_eq_true_eq] at hw
  refine ⟨⟨a1, a2, a3, a4⟩, .inr ?_⟩
  rcases h with h | ⟨h1, h2, h | h⟩
  · rw [hw.1] at h; exact absurd h.1 (by simp)
  · exact ⟨h1, h2, .inr ⟨by show 1 ≤ m.tries + 1; omega, by show m.tries + 1 ≤ mo; omega, by show ck < ck + le; omega, by show ck + le ≤ ck + le; omega⟩⟩
  · omega
theorem tick_ok {m : Msg} {le mo ck ck2 : Int} (hc : 0 ≤ ck) (hle : ck ≤ ck2) (hk1 : ck2 ≤ 4503599627370496) (hl : 1 ≤ le) (hl1 : le ≤ 1000) (x : Sub) (hx : x.most = mo) (h : msgB m le mo ck = true) : msgB (tickM ck2 x m) le mo ck2 = true := by
  unfold tickM
  split
  · rename_i ht
    rw [hx]
    exact back_ok hc (by omega) (by omega) hk1 hl hl1 h (by omega) (.inr rfl)
  · rename_i ht
    rw [msg_iff hc (by omega) hl hl1] at h
    rw [msg_iff (by omega) hk1 hl hl1]
    obtain ⟨a, h⟩ := h
    refine ⟨a, ?_⟩
    rcases h with h | ⟨h1, h2, h | h⟩
    · exact .inl h
    · exact .inr ⟨h1, h2, .inl h⟩
    · exact .inr ⟨h1, h2, .inr ⟨h.1, h.2.1, by omega, by omega⟩⟩
theorem back_seq (mo : Int) (why : List UInt8) (m : Msg) : (backM mo why m).seq = m.seq := by unfold backM; split <;> rfl
theorem tick_seq (ck : Int) (x : Sub) (m : Msg) : (tickM ck x m).seq = m.seq := by
  unfold tickM
  split
  · exact back_seq ..
  · rfl
theorem map_seq {q : List Msg} {f : Msg → Msg} (hf : ∀ m, (f m).seq = m.seq) (h : q.Pairwise (fun a b => a.seq < b.seq)) : (q.map f).Pairwise (fun a b => a.seq < b.seq) := by
  rw [List.pairwise_map]
  exact h.imp (fun hab => by rw [hf, hf]; exact hab)
theorem set_seq {q : List Msg} {i : Nat} {m : Msg} (hm : ∀ y, q[i]? = some y → m.seq = y.seq) (h : q.Pairwise (fun a b => a.seq < b.seq)) : (q.set i m).Pairwise (fun a b => a.seq < b.seq) := by
  by_cases hi : i < q.length
  case neg => rw [List.set_eq_of_length_le (by omega)]; exact h
  rw [List.pairwise_iff_getElem] at h ⊢
  intro a b ha hb hab
  rw [List.length_set] at ha hb
  have e : ∀ c (hc : c < q.length), ((q.set i m)[c]'(by rw [List.length_set]; exact hc)).seq = q[c].seq := by
    intro c hc
    rw [List.getElem_set]
    split
    · rename_i h2; subst h2; exact hm _ (List.getElem?_eq_getElem hc)
    · rfl
  rw [e a ha, e b hb]
  exact h a b ha hb hab
theorem mem_set' {q : List Msg} {i : Nat} {m y : Msg} (h : y ∈ q.set i m) : y ∈ q ∨ (y = m ∧ i < q.length) := by
  by_cases hi : i < q.length
  · rcases List.mem_or_eq_of_mem_set h with h | h
    · exact .inl h
    · exact .inr ⟨h, hi⟩
  · rw [List.set_eq_of_length_le (by omega)] at h; exact .inl h
theorem Gd.queue {x : Sub} {clock next : Int} (h : Gd x clock next) {q : List Msg} (hs : q.Pairwise (fun a b => a.seq < b.seq)) (hl : q.length ≤ 30) (hm : ∀ m ∈ q, msgB m x.lease x.most clock = true ∧ ∃ y ∈ x.queue, y.seq = m.seq) : Gd { x with queue := q } clock next :=
  ⟨⟨⟨h.pd.hd.i1, h.pd.hd.i2, h.pd.hd.nm, h.pd.hd.tp, h.pd.hd.wt, h.pd.hd.e1, h.pd.hd.e2, h.pd.hd.m1, h.pd.hd.m2, h.pd.hd.nt⟩, h.pd.f0, h.pd.f1, hl, h.pd.sa, h.pd.ar, hs, fun m hq => by
    obtain ⟨m1, y, hy, e⟩ := hm m hq
    obtain ⟨a1, a2, a3, a4⟩ := h.pd.qr y hy
    rw [e] at a1 a2 a3
    exact ⟨a1, a2, a3, m1⟩⟩, h.al, h.af⟩
theorem first_wait : ∀ {q : List Msg} {i : Nat}, firstI q = some i → ∃ m, q[i]? = some m ∧ waitB m = true
  | [], i, h => by cases h
  | m :: l, i, h => by
    unfold firstI at h
    split at h
    · split at h
      · injection h with h; subst h; exact ⟨m, rfl, by assumption⟩
      · cases h
    · rename_i j hj
      split at h
      · rename_i hw
        injection h with h; subst h
        simp only [Bool.and_eq_true] at hw
        exact ⟨m, rfl, hw.1⟩
      · injection h with h; subst h
        obtain ⟨y, h1, h2⟩ := first_wait hj
        exact ⟨y, by rw [List.getElem?_cons_succ]; exact h1, h2⟩
theorem fetch_keeps (t : Int) (P : Msg → Prop) (hP : ∀ m, P m → waitB m = true → P (lease t m)) : ∀ (k : Nat) (q : List Msg), q.Pairwise (fun a b => a.seq < b.seq) → (∀ m ∈ q, P m) →
    (fetchL t k q).1.Pairwise (fun a b => a.seq < b.seq) ∧ (fetchL t k q).1.length = q.length ∧ ∀ m ∈ (fetchL t k q).1, P m ∧ ∃ y ∈ q, y.seq = m.seq
  | 0, q, hs, hp => ⟨hs, rfl, fun m hm => ⟨hp m hm, m, hm, rfl⟩⟩
  | k + 1, q, hs, hp => by
    unfold fetchL
    split
    · exact ⟨hs, rfl, fun m hm => ⟨hp m hm, m, hm, rfl⟩⟩
    · rename_i i hi
      obtain ⟨y, h1, h2⟩ := first_wait hi
      have hy : y ∈ q := List.mem_of_getElem? h1
      simp only [h1, Option.getD_some]
      obtain ⟨a, b, c⟩ := fetch_keeps t P hP k (q.set i (lease t y)) (set_seq (fun z hz => by rw [h1] at hz; injection hz with hz; subst hz; rfl) hs) (fun m hm => by
        rcases mem_set' hm with h | ⟨rfl, _⟩
        · exact hp m h
        · exact hP y (hp y hy) h2)
      refine ⟨a, by rw [b, List.length_set], fun m hm => ?_⟩
      obtain ⟨c1, z, c2, c3⟩ := c m hm
      refine ⟨c1, ?_⟩
      rcases mem_set' c2 with h | ⟨rfl, _⟩
      · exact ⟨z, h, c3⟩
      · exact ⟨y, hy, c3⟩
theorem mem_insI {n a : Int} : ∀ {l : List Int}, a ∈ insI n l ↔ a = n ∨ a ∈ l
  | [] => by simp [insI]
  | b :: l => by
    unfold insI
    split
    · simp
    · rw [List.mem_cons, mem_insI (l := l), List.mem_cons]
      constructor
      · rintro (h | h | h) <;> simp [h]
      · rintro (h | h | h) <;> simp [h]
theorem sort_insI {n : Int} : ∀ {l : List Int}, l.Pairwise (· < ·) → n ∉ l → (insI n l).Pairwise (· < ·)
  | [], _, _ => by simp [insI]
  | b :: l, h, hn => by
    obtain ⟨h1, h2⟩ := List.pairwise_cons.1 h
    simp only [List.mem_cons, not_or] at hn
    unfold insI
    split
    · rename_i hlt
      refine List.pairwise_cons.2 ⟨fun y hy => ?_, h⟩
      rcases List.mem_cons.1 hy with rfl | hy
      · exact hlt
      · have := h1 y hy; omega
    · refine List.pairwise_cons.2 ⟨fun y hy => ?_, sort_insI h2 hn.2⟩
      rcases mem_insI.1 hy with rfl | hy
      · omega
      · exact h1 y hy
theorem insI_len (n : Int) : ∀ l : List Int, (insI n l).length = l.length + 1
  | [] => rfl
  | b :: l => by
    unfold insI
    split
    · rfl
    · rw [List.length_cons, insI_len n l, List.length_cons]
theorem at_some {x : Sub} {seq : Int} {i : Nat} (h : atQ x seq = some i) : ∃ m, x.queue[i]? = some m ∧ m.seq = seq := by
  unfold atQ at h
  rw [List.findIdx?_eq_some_iff_getElem] at h
  obtain ⟨h1, h2, _⟩ := h
  exact ⟨_, List.getElem?_eq_getElem h1, by simpa using h2⟩
theorem erase_not {q : List Msg} {i : Nat} {m : Msg} (h : q.Pairwise (fun a b => a.seq < b.seq)) (hi : q[i]? = some m) : ∀ y ∈ q.eraseIdx i, y.seq ≠ m.seq := by
  intro y hy
  obtain ⟨hlt, rfl⟩ := List.getElem?_eq_some_iff.1 hi
  rw [List.mem_eraseIdx_iff_getElem] at hy
  obtain ⟨j, hj, hne, rfl⟩ := hy
  rw [List.pairwise_iff_getElem] at h
  rcases Nat.lt_or_gt_of_ne hne with hl | hl
  · have := h j i hj hlt hl; omega
  · have := h i j hlt hj hl; omega
theorem Rt.put {s : St} (h : Rt s) {x y : Sub} (hy : y ∈ s.subs) (hid : x.id = y.id) (hg : Gd x s.clock s.next) : Rt (putSt s x) := by
  obtain ⟨o1, o2, o3⟩ := h.ok y hy
  refine ⟨h.c0, h.c1, h.n0, h.n1, h.l0, h.l1, ?_, sort_put h.so x, fun z hz => ?_⟩
  · show (putS s.subs x).length ≤ 20
    unfold putS
    rw [ins_len]
    have : (outS s.subs x.id).length < s.subs.length := by
      unfold outS
      refine List.length_filter_lt_length_iff_exists.2 ⟨y, hy, by simp [hid]⟩
    have := h.len
    omega
  · rcases mem_put.1 hz with rfl | ⟨hz, _⟩
    · exact ⟨by omega, by show z.id ≤ s.last; omega, (good_iff _ _ _).2 hg⟩
    · exact h.ok z hz
theorem Rt.gd {s : St} (h : Rt s) {x : Sub} (hx : x ∈ s.subs) : Gd x s.clock s.next := (good_iff _ _ _).1 (h.ok x hx).2.2
theorem need_rt {s : St} {b : Bool} {e : Int} {r : Res} (h : Rt s) (hr : b = true → Rt (r.st s)) : Rt ((need b e r).st s) := by
  unfold need
  split
  · exact hr (by assumption)
  · exact h
theorem with_rt {s : St} {o : Op} {f : Sub → Res} (h : Rt s) (hf : ∀ x ∈ s.subs, Rt ((f x).st s)) : Rt ((withX s o f).st s) := by
  unfold withX
  split
  · exact h
  · rename_i x hx
    exact hf x (find_some' hx).1
theorem leased_rt {s : St} {x : Sub} {o : Op} {f : Nat → Msg → Res} (h : Rt s) (hf : ∀ i m, x.queue[i]? = some m → m.seq = o.seq → m.til ≠ 0 → Rt ((f i m).st s)) : Rt ((leasedR x o f).st s) := by
  unfold leasedR
  split
  · exact h
  · rename_i i hi
    obtain ⟨m, h1, h2⟩ := at_some hi
    rw [h1]
    refine need_rt h fun hb => hf i m h1 h2 ?_
    simpa using hb
theorem ite_rt {s : St} {c : Prop} [Decidable c] {a b : Res} (ha : Rt (a.st s)) (hb : Rt (b.st s)) : Rt ((if c then a else b).st s) := by
  by_cases h : c
  · rw [if_pos h]; exact ha
  · rw [if_neg h]; exact hb
theorem rt_do {s : St} (h : Rt s) (o : Op) : Rt (doS s o).1 := by
  unfold doS resR
  show Rt (Res.st s _)
  have hc0 := h.c0
  have hc1 := h.c1
  have hn1 := h.n1
  refine ite_rt ?_ (ite_rt ?_ (ite_rt ?_ (ite_rt ?_ (ite_rt ?_ (ite_rt ?_ (ite_rt ?_ (ite_rt ?_ (ite_rt ?_ (ite_rt ?_ (ite_rt ?_ (ite_rt ?_ ?_)))))))))))
  · -- subscribe
    unfold subscribeR
    refine need_rt h fun b1 => need_rt h fun b2 => need_rt h fun b3 => need_rt h fun b4 => need_rt h fun b5 => need_rt h fun b6 => ?_
    simp only [Bool.and_eq_true, decide_eq_true_eq] at b4 b5 b6
    have hl0 := h.l0
    have hn0 := h.n0
    refine ⟨h.c0, h.c1, h.n0, h.n1, by show 0 ≤ s.last + 1; omega, by show s.last + 1 ≤ 1073741824; omega, ?_, sort_put h.so _, fun z hz => ?_⟩
    · have := put_len s.subs (newS s o)
      show (putS s.subs (newS s o)).length ≤ 20
      omega
    · rcases mem_put.1 hz with rfl | ⟨hz, _⟩
      · refine ⟨by show 0 < s.last + 1; omega, by show s.last + 1 ≤ s.last + 1; omega, (good_iff _ _ _).2 ?_⟩
        exact ⟨⟨⟨(by show 1 ≤ s.last + 1; omega), (by show s.last + 1 ≤ 1073741824; omega), b1, b2, b3, b4.1.1, b4.1.2, b4.2.1, b4.2.2, (by show (0 : Nat) ≤ 30; omega)⟩, (by show 0 ≤ s.next - 1; omega), (by show s.next - 1 < s.next; omega), (by show (0 : Nat) ≤ 30; omega), List.Pairwise.nil, (fun a ha => absurd ha List.not_mem_nil), List.Pairwise.nil, (fun a ha => absurd ha List.not_mem_nil)⟩, (by show (0 : Nat) ≤ 20; omega), (fun a ha => absurd ha List.not_mem_nil)⟩
      · obtain ⟨o1, o2, o3⟩ := h.ok z hz
        exact ⟨o1, by show z.id ≤ s.last + 1; omega, o3⟩
  · -- unsubscribe
    refine with_rt h fun x hx => ?_
    refine ⟨h.c0, h.c1, h.n0, h.n1, h.l0, h.l1, ?_, sort_out h.so _, fun z hz => h.ok z (mem_out.1 hz).1⟩
    exact Nat.le_trans (out_len _ _) h.len
  · -- publish
    unfold publishR
    refine need_rt h fun b1 => need_rt h fun b2 => need_rt h fun b3 => need_rt h fun b4 => need_rt h fun b5 => need_rt h fun b6 => ?_
    simp only [Bool.and_eq_true, decide_eq_true_eq, List.all_eq_true, Bool.or_eq_true, Bool.not_eq_true'] at b2 b4 b5 b6
    have hn0 := h.n0
    have hid : ∀ x, (pubX s o x).id = x.id := fun x => by unfold pubX; split <;> rfl
    refine ⟨h.c0, h.c1, by show 1 ≤ s.next + 1; omega, by show s.next + 1 ≤ 1073741824; omega, h.l0, h.l1, by show (s.subs.map _).length ≤ 20; rw [List.length_map]; exact h.len, ?_, fun z hz => ?_⟩
    · show SortS (s.subs.map _)
      unfold SortS
      rw [List.pairwise_map]
      exact List.Pairwise.imp (fun hab => by rw [hid, hid]; exact hab) h.so
    · obtain ⟨x, hx, rfl⟩ := List.mem_map.1 hz
      obtain ⟨o1, o2, o3⟩ := h.ok x hx
      have hg := (good_iff _ _ _).1 o3
      rw [hid]
      refine ⟨o1, o2, (good_iff _ _ _).2 ?_⟩
      show Gd (pubX s o x) s.clock (s.next + 1)
      have hg2 := hg.le (next' := s.next + 1) (clock' := s.clock) (by omega) (fun _ _ h => h)
      unfold pubX
      split
      case isFalse => exact hg2
      rename_i hh
      have hq : x.queue.length < 30 := by
        rcases b6 x hx with h | h
        · rw [hh] at h; cases h
        · exact h
      refine ⟨⟨⟨hg.pd.hd.i1, hg.pd.hd.i2, hg.pd.hd.nm, hg.pd.hd.tp, hg.pd.hd.wt, hg.pd.hd.e1, hg.pd.hd.e2, hg.pd.hd.m1, hg.pd.hd.m2, hg.pd.hd.nt⟩, hg2.pd.f0, hg2.pd.f1, by show (x.queue ++ [_]).length ≤ 30; rw [List.length_append]; simp; omega, hg.pd.sa, hg2.pd.ar, ?_, fun m hm => ?_⟩, hg.al, hg.af⟩
      · show (x.queue ++ [_]).Pairwise _
        rw [List.pairwise_append]
        refine ⟨hg.pd.qs, by simp, fun a ha b hb => ?_⟩
        rw [List.mem_singleton] at hb
        subst hb
        exact (hg.pd.qr a ha).2.1
      · rcases List.mem_append.1 hm with hm | hm
        · exact hg2.pd.qr m hm
        · rw [List.mem_singleton] at hm
          subst hm
          have hf1 := hg.pd.f1
          refine ⟨hf1, by show s.next < s.next + 1; omega, fun hh => ?_, ?_⟩
          · have := hg.pd.ar _ hh
            exact absurd this (by show ¬ s.next < s.next; omega)
          · have e1 := hg.pd.hd.m1
            rw [msg_iff h.c0 h.c1 hg.pd.hd.e1 hg.pd.hd.e2]
            exact ⟨⟨b2, b3, b4.1, b4.2⟩, .inr ⟨rfl, rfl, .inl ⟨rfl, by show (0 : Int) ≤ 0; omega, by show 0 < x.most; omega⟩⟩⟩
  · -- fetch
    refine with_rt h fun x hx => need_rt h fun b1 => ?_
    have hg := h.gd hx
    obtain ⟨f1, f2, f3⟩ := fetch_keeps (s.clock + x.lease) (fun m => msgB m x.lease x.most s.clock = true) (fun m hm hw => lease_ok h.c0 h.c1 hg.pd.hd.e1 hg.pd.hd.e2 hm hw) o.n.toNat x.queue hg.pd.qs (fun m hm => (hg.pd.qr m hm).2.2.2)
    exact h.put hx rfl (hg.queue f1 (by rw [f2]; exact hg.pd.ql) f3)
  · -- ack
    refine with_rt h fun x hx => leased_rt h fun i m h1 h2 h3 => need_rt h fun b1 => ?_
    have hg := h.gd hx
    refine h.put hx rfl ?_
    simp only [decide_eq_true_eq] at b1
    have hmem : m ∈ x.queue := List.mem_of_getElem? h1
    obtain ⟨q1, q2, q3, q4⟩ := hg.pd.qr m hmem
    rw [h2] at q1 q2 q3
    refine settle_gd (x := { x with queue := x.queue.eraseIdx i, acks := insI o.seq x.acks }) ⟨⟨hg.pd.hd.i1, hg.pd.hd.i2, hg.pd.hd.nm, hg.pd.hd.tp, hg.pd.hd.wt, hg.pd.hd.e1, hg.pd.hd.e2, hg.pd.hd.m1, hg.pd.hd.m2, hg.pd.hd.nt⟩, hg.pd.f0, hg.pd.f1, ?_, sort_insI hg.pd.sa q3, fun a ha => ?_, ?_, fun y hy => ?_⟩ hn1 b1
    · show (x.queue.eraseIdx i).length ≤ 30
      have := List.length_eraseIdx_le x.queue i
      have := hg.pd.ql
      omega
    · rcases mem_insI.1 ha with rfl | ha
      · exact q2
      · exact hg.pd.ar a ha
    · exact hg.pd.qs.sublist (List.eraseIdx_sublist _ _)
    · have hne := erase_not hg.pd.qs h1 y hy
      rw [h2] at hne
      obtain ⟨a1, a2, a3, a4⟩ := hg.pd.qr y ((List.eraseIdx_sublist _ _).subset hy)
      exact ⟨a1, a2, fun hh => (mem_insI.1 hh).elim hne a3, a4⟩
  · -- ackTo
    refine with_rt h fun x hx => need_rt h fun b1 => ?_
    have hg := h.gd hx
    simp only [Bool.and_eq_true, decide_eq_true_eq] at b1
    have h0 := hg.pd.f0
    refine h.put hx rfl (settle_gd (x := { x with queue := _, floor := o.seq }) ⟨⟨hg.pd.hd.i1, hg.pd.hd.i2, hg.pd.hd.nm, hg.pd.hd.tp, hg.pd.hd.wt, hg.pd.hd.e1, hg.pd.hd.e2, hg.pd.hd.m1, hg.pd.hd.m2, hg.pd.hd.nt⟩, by show 0 ≤ o.seq; omega, by show o.seq < s.next; omega, Nat.le_trans (List.length_filter_le _ _) hg.pd.ql, hg.pd.sa, hg.pd.ar, List.Pairwise.filter _ hg.pd.qs, fun m hm => ?_⟩ hn1 (Nat.le_trans (List.length_filter_le _ _) hg.al))
    obtain ⟨m1, m2⟩ := List.mem_filter.1 hm
    obtain ⟨a1, a2, a3, a4⟩ := hg.pd.qr m m1
    simp only [Bool.not_eq_true', decide_eq_false_iff_not] at m2
    exact ⟨by show o.seq < m.seq; omega, a2, a3, a4⟩
  · -- nack
    refine with_rt h fun x hx => leased_rt h fun i m h1 h2 h3 => ?_
    have hg := h.gd hx
    have hmem : m ∈ x.queue := List.mem_of_getElem? h1
    refine h.put hx rfl (hg.queue (set_seq (fun y hy => by rw [h1] at hy; injection hy with hy; subst hy; exact back_seq ..) hg.pd.qs) (by rw [List.length_set]; exact hg.pd.ql) fun y hy => ?_)
    rcases mem_set' hy with hy | ⟨rfl, _⟩
    · exact ⟨(hg.pd.qr y hy).2.2.2, y, hy, rfl⟩
    · exact ⟨back_ok hc0 hc1 hc0 hc1 hg.pd.hd.e1 hg.pd.hd.e2 (hg.pd.qr m hmem).2.2.2 h3 (.inl rfl), m, hmem, (back_seq ..).symm⟩
  · -- tick
    unfold tickR
    refine need_rt h fun b1 => need_rt h fun b2 => ?_
    simp only [Bool.and_eq_true, decide_eq_true_eq] at b1 b2
    refine ⟨by show 0 ≤ s.clock + o.n; omega, b2, h.n0, h.n1, h.l0, h.l1, by show (s.subs.map _).length ≤ 20; rw [List.length_map]; exact h.len, ?_, fun z hz => ?_⟩
    · show SortS (s.subs.map _)
      unfold SortS
      rw [List.pairwise_map]
      exact h.so
    · obtain ⟨x, hx, rfl⟩ := List.mem_map.1 hz
      obtain ⟨o1, o2, o3⟩ := h.ok x hx
      have hg := (good_iff _ _ _).1 o3
      refine ⟨o1, o2, (good_iff _ _ _).2 ?_⟩
      refine ⟨⟨⟨hg.pd.hd.i1, hg.pd.hd.i2, hg.pd.hd.nm, hg.pd.hd.tp, hg.pd.hd.wt, hg.pd.hd.e1, hg.pd.hd.e2, hg.pd.hd.m1, hg.pd.hd.m2, hg.pd.hd.nt⟩, hg.pd.f0, hg.pd.f1, by show (x.queue.map _).length ≤ 30; rw [List.length_map]; exact hg.pd.ql, hg.pd.sa, hg.pd.ar, map_seq (tick_seq _ _) hg.pd.qs, fun m hm => ?_⟩, hg.al, hg.af⟩
      obtain ⟨y, hy, rfl⟩ := List.mem_map.1 hm
      obtain ⟨a1, a2, a3, a4⟩ := hg.pd.qr y hy
      rw [tick_seq]
      exact ⟨a1, a2, a3, tick_ok h.c0 (by omega) b2 hg.pd.hd.e1 hg.pd.hd.e2 x rfl a4⟩
  · exact with_rt h fun x hx => h
  · -- purge
    refine with_rt h fun x hx => ?_
    have hg := h.gd hx
    refine h.put hx rfl (settle_gd (x := { x with queue := liveL x }) ⟨⟨hg.pd.hd.i1, hg.pd.hd.i2, hg.pd.hd.nm, hg.pd.hd.tp, hg.pd.hd.wt, hg.pd.hd.e1, hg.pd.hd.e2, hg.pd.hd.m1, hg.pd.hd.m2, hg.pd.hd.nt⟩, hg.pd.f0, hg.pd.f1, Nat.le_trans (List.length_filter_le _ _) hg.pd.ql, hg.pd.sa, hg.pd.ar, List.Pairwise.filter _ hg.pd.qs, fun m hm => hg.pd.qr m (List.mem_filter.1 hm).1⟩ hn1 (Nat.le_trans (List.length_filter_le _ _) hg.al))
  · -- annotate
    refine with_rt h fun x hx => need_rt h fun b1 => ?_
    have hg := h.gd hx
    simp only [decide_eq_true_eq] at b1
    exact h.put hx rfl ⟨⟨⟨hg.pd.hd.i1, hg.pd.hd.i2, hg.pd.hd.nm, hg.pd.hd.tp, hg.pd.hd.wt, hg.pd.hd.e1, hg.pd.hd.e2, hg.pd.hd.m1, hg.pd.hd.m2, b1⟩, hg.pd.f0, hg.pd.f1, hg.pd.ql, hg.pd.sa, hg.pd.ar, hg.pd.qs, hg.pd.qr⟩, hg.al, hg.af⟩
  · exact h
  · exact h
theorem rt_new : Rt ⟨0, 1, 0, []⟩ := ⟨by decide, by decide, by decide, by decide, by decide, by decide, by decide, List.Pairwise.nil, fun x hx => by cases hx⟩
end Go.Md
set_option linter.unusedVariables false
set_option linter.unusedSimpArgs false
namespace Go.Ts
open Go Go.Tp
theorem name_word (l : List UInt8) : nameB l = (decide (l.length ≤ 20) && wordB l) := by
  unfold nameB
  by_cases h47 : l.contains 47 = true
  · have hw : wordB l = false := by
      unfold wordB
      rw [List.contains_iff_mem] at h47
      have : l.all isW = false := by
        rw [List.all_eq_false]
        exact ⟨47, h47, by decide⟩
      rw [this, Bool.false_and]
    rw [h47, hw]
    simp
  · have h47 : l.contains 47 = false := by simpa using h47
    have hne : ∀ x ∈ l, x ≠ 47 := fun x hx e => by
      subst e
      have := List.contains_iff_mem.2 hx
      rw [h47] at this
      cases this
    unfold rightB
    rw [h47, splitL_last 47 l hne]
    by_cases h20 : l.length ≤ 20
    · have h30 : l.length ≤ 30 := by omega
      simp [h20, h30]
    · simp [h20]
def okM (x : Sub) (clock : Int) (m : Msg) : Bool := !(x.acks.contains m.seq) && msgB m x.lease x.most clock
theorem que_split (x : Sub) (clock next : Int) : ∀ (a : Int) (q : List Msg), queB x clock next a q = (q.all (okM x clock) && ackB next a (q.map (·.seq)))
  | a, [] => rfl
  | a, m :: q => by
    simp only [queB, List.all_cons, List.map_cons, ackB, que_split x clock next m.seq q, okM]
    cases decide (a < m.seq) <;> cases decide (m.seq < next) <;> cases x.acks.contains m.seq <;> cases msgB m x.lease x.most clock <;> simp
theorem all_take {α : Type} {p : α → Bool} {l : List α} {k : Nat} (hk : k < l.length) : (l.take (k + 1)).all p = ((l.take k).all p && p l[k]) := by
  rw [List.take_succ_eq_append_getElem hk, List.all_append]
  simp
theorem all_not {α : Type} {p : α → Bool} {l : List α} {k : Nat} (hk : k < l.length) (h : p l[k] = false) : l.all p = false := by
  rw [List.all_eq_false]
  exact ⟨l[k], List.getElem_mem hk, by rw [h]; simp⟩
theorem good_split (x : Sub) (clock next : Int) : goodB x clock next = ((decide (1 ≤ x.id) && decide (x.id ≤ 1073741824)) && (nameB x.name && (patB x.topic && (attrsB x.want && ((decide (1 ≤ x.lease) && decide (x.lease ≤ 1000)) && ((decide (1 ≤ x.most) && decide (x.most ≤ 9)) && (decide (x.note.length ≤ 30) && (decide (0 ≤ x.floor) && (decide (x.floor < next) && ((decide (x.acks.length ≤ 20) && ackB next x.floor x.acks) && (decide (x.queue.length ≤ 30) && queB x clock next x.floor x.queue))))))))))) := by
  unfold goodB fieldsB
  ac_rfl
end Go.Ts
set_option linter.unusedVariables false
namespace Go.Ts
theorem outS_take {l : List Sub} {id : Int} {k : Nat} (hk : k < l.length) : outS (l.take (k + 1)) id = outS (l.take k) id ++ (if l[k].id = id then [] else [l[k]]) := by
  unfold outS
  rw [List.take_succ_eq_append_getElem hk, List.filter_append]
  congr 1
  by_cases h : l[k].id = id
  · rw [if_pos h]; simp [h]
  · rw [if_neg h]; simp [h]
theorem outS_len (l : List Sub) (id : Int) : (outS l id).length ≤ l.length := List.length_filter_le _ _
end Go.Ts
set_option linter.unusedVariables false
namespace Go.Tp
theorem want_none (a : List UInt8) : wantB [] a = attrsB a := by
  unfold wantB attrsB
  rw [show pairsR [] = ([], true) from rfl]
  rfl
theorem attrs_yes {l : List UInt8} (h0 : l ≠ []) (h : attrsB l = true) : pairsP [] (splitL 44 l) = true ∧ l.length ≤ 30 ∧ (pairsR l).1 = splitL 44 l := by
  unfold attrsB pairsR at h
  unfold pairsR
  rw [if_neg h0] at h ⊢
  by_cases hp : pairsP [] (splitL 44 l) = true
  · rw [if_pos hp] at h ⊢
    exact ⟨hp, of_decide_eq_true h, rfl⟩
  · rw [if_neg hp] at h
    cases h
end Go.Tp
set_option linter.unusedVariables false
namespace Go.Md
open Go Go.Tp Go.Ts
def partX (c : Int) (k : Nat) (x : Sub) : Sub := { x with queue := (x.queue.take k).map (tickM c x) ++ x.queue.drop k }
theorem partX_zero (c : Int) (x : Sub) : partX c 0 x = x := by simp [partX]
theorem partX_all {c : Int} {x : Sub} {k : Nat} (h : x.queue.length ≤ k) : partX c k x = tickX c x := by
  unfold partX tickX
  rw [List.take_of_length_le h, List.drop_of_length_le h, List.append_nil]
theorem partX_len (c : Int) (k : Nat) (x : Sub) : (partX c k x).queue.length = x.queue.length := by
  simp only [partX, List.length_append, List.length_map, List.length_take, List.length_drop]
  omega
theorem partX_at {c : Int} {k : Nat} {x : Sub} (h : k < x.queue.length) : (partX c k x).queue[k]'(by rw [partX_len]; exact h) = x.queue[k] := by
  simp only [partX]
  rw [List.getElem_append_right (by simp; omega)]
  simp only [List.length_map, List.length_take, List.getElem_drop]
  congr 1
  omega
theorem partX_next {c : Int} {k : Nat} {x : Sub} (h : k < x.queue.length) : partX c (k + 1) x = { partX c k x with queue := (partX c k x).queue.set k (tickM c x x.queue[k]) } := by
  have e : (x.queue.take (k + 1)).map (tickM c x) ++ x.queue.drop (k + 1) = ((x.queue.take k).map (tickM c x) ++ x.queue.drop k).set k (tickM c x x.queue[k]) := by
    rw [List.set_append_right _ _ (by simp; omega)]
    have h1 : k - ((x.queue.take k).map (tickM c x)).length = 0 := by simp; omega
    rw [h1, List.take_succ_eq_append_getElem h, List.map_append, List.append_assoc]
    congr 1
    have h2 : x.queue.drop k = x.queue[k] :: x.queue.drop (k + 1) := List.drop_eq_getElem_cons h
    rw [h2]
    rfl
  unfold partX
  simp only
  rw [e]
theorem partX_same {c : Int} {k : Nat} {x : Sub} (h : k < x.queue.length) (hs : tickM c x x.queue[k] = x.queue[k]) : partX c (k + 1) x = partX c k x := by
  have e : (x.queue.take (k + 1)).map (tickM c x) ++ x.queue.drop (k + 1) = (x.queue.take k).map (tickM c x) ++ x.queue.drop k := by
    rw [List.take_succ_eq_append_getElem h, List.map_append, List.append_assoc, List.drop_eq_getElem_cons h]
    simp [hs]
  unfold partX
  rw [e]
def TickI (c : Int) (xs : List Sub) (i k : Nat) (cur : List Sub) : Prop := cur.length = xs.length ∧ ∀ j (h1 : j < cur.length) (h2 : j < xs.length), cur[j] = if j < i then tickX c xs[j] else if j = i then partX c k xs[j] else xs[j]
theorem TickI.start (c : Int) (xs : List Sub) : TickI c xs 0 0 xs := ⟨rfl, fun j h1 h2 => by
  rw [if_neg (by omega)]
  split
  · rw [partX_zero]
  · rfl⟩
theorem TickI.end_ {c : Int} {xs cur : List Sub} {i k : Nat} (h : TickI c xs i k cur) (hi : xs.length ≤ i) : cur = xs.map (tickX c) := by
  refine List.ext_getElem (by rw [List.length_map]; exact h.1) fun j h1 h2 => ?_
  rw [h.2 j h1 (by simpa using h2), if_pos (by simp at h2; omega), List.getElem_map]
theorem TickI.row {c : Int} {xs cur : List Sub} {i k : Nat} (h : TickI c xs i k cur) (hi : i < xs.length) (hk : xs[i].queue.length ≤ k) : TickI c xs (i + 1) 0 cur := ⟨h.1, fun j h1 h2 => by
  rw [h.2 j h1 h2]
  by_cases e : j < i
  · rw [if_pos e, if_pos (by omega)]
  · rw [if_neg e]
    by_cases e2 : j = i
    · subst e2
      rw [if_pos rfl, if_pos (by omega), partX_all hk]
    · rw [if_neg e2, if_neg (by omega)]
      split
      · rw [partX_zero]
      · rfl⟩
theorem TickI.at_ {c : Int} {xs cur : List Sub} {i k : Nat} (h : TickI c xs i k cur) (hi : i < xs.length) : cur[i]'(by rw [h.1]; exact hi) = partX c k xs[i] := by
  rw [h.2 i _ hi, if_neg (by omega), if_pos rfl]
theorem TickI.next {c : Int} {xs cur : List Sub} {i k : Nat} (h : TickI c xs i k cur) (hi : i < xs.length) : TickI c xs i (k + 1) (cur.set i (partX c (k + 1) xs[i])) := ⟨by rw [List.length_set, h.1], fun j h1 h2 => by
  rw [List.getElem_set]
  by_cases e : i = j
  · subst e
    rw [if_pos rfl, if_neg (by omega), if_pos rfl]
  · rw [if_neg e, h.2 j (by rw [List.length_set] at h1; exact h1) h2]
    split
    · rfl
    · rw [if_neg (fun h => e h.symm), if_neg (fun h => e h.symm)]⟩
theorem TickI.same {c : Int} {xs cur : List Sub} {i k : Nat} (h : TickI c xs i k cur) (hi : i < xs.length) (hs : partX c (k + 1) xs[i] = partX c k xs[i]) : TickI c xs i (k + 1) cur := ⟨h.1, fun j h1 h2 => by
  rw [h.2 j h1 h2]
  split
  · rfl
  · split
    · rename_i e; subst e; exact hs.symm
    · rfl⟩
end Go.Md
set_option linter.unusedVariables false
set_option linter.unusedSimpArgs false
namespace Go.Md
open Go Go.Tp Go.Ts
def zM : Msg := ⟨0, [], [], 0, 0, false, [], 0⟩
def qAt (q : List Msg) (i : Nat) : Msg := q[i]?.getD zM
theorem qAt_lt {q : List Msg} {i : Nat} (h : i < q.length) : qAt q i = q[i] := by simp [qAt, List.getElem?_eq_getElem h]
def Prec (q : List Msg) (i j : Nat) : Prop := (qAt q j).prio < (qAt q i).prio ∨ ((qAt q i).prio = (qAt q j).prio ∧ i < j)
theorem Prec.asymm {q : List Msg} {i j : Nat} (h : Prec q i j) (h2 : Prec q j i) : False := by
  rcases h with h | ⟨h, h3⟩ <;> rcases h2 with h2 | ⟨h2, h4⟩ <;> omega
def waitI (q : List Msg) : List Nat := (List.range q.length).filter fun i => waitB (qAt q i)
theorem mem_waitI {q : List Msg} {i : Nat} : i ∈ waitI q ↔ i < q.length ∧ waitB (qAt q i) = true := by simp [waitI]
theorem nodup_waitI (q : List Msg) : (waitI q).Nodup := List.Nodup.sublist List.filter_sublist List.nodup_range
theorem firstI_ne : ∀ {q : List Msg} {i : Nat}, i < q.length → waitB (qAt q i) = true → firstI q ≠ none
  | [], i, h, _ => by simp at h
  | m :: q, i, h, hw => by
    intro hn
    unfold firstI at hn
    cases hf : firstI q with
    | none =>
      rw [hf] at hn
      simp only at hn
      cases i with
      | zero => rw [show qAt (m :: q) 0 = m by simp [qAt]] at hw; rw [hw] at hn; cases hn
      | succ i => exact firstI_ne (by simpa using h) (by rw [← hw]; simp [qAt]) hf
    | some k =>
      rw [hf] at hn
      simp only at hn
      split at hn <;> cases hn
theorem firstI_some : ∀ {q : List Msg} {i : Nat}, firstI q = some i → i < q.length ∧ waitB (qAt q i) = true ∧ ∀ j, j < q.length → waitB (qAt q j) = true → j ≠ i → Prec q i j
  | [], i, h => by cases h
  | m :: q, i, h => by
    unfold firstI at h
    have e0 : qAt (m :: q) 0 = m := by simp [qAt]
    have e1 : ∀ j, qAt (m :: q) (j + 1) = qAt q j := fun j => by simp [qAt]
    cases hf : firstI q with
    | none =>
      rw [hf] at h
      simp only at h
      split at h
      · rename_i hw
        injection h with h
        subst h
        refine ⟨by simp, by rw [e0]; exact hw, fun j hj hwj hne => ?_⟩
        obtain ⟨k, rfl⟩ : ∃ k, j = k + 1 := ⟨j - 1, by omega⟩
        exact absurd hf (firstI_ne (by simp at hj; exact hj) (by rw [e1] at hwj; exact hwj))
      · cases h
    | some k =>
      rw [hf] at h
      simp only at h
      obtain ⟨h1, h2, h3⟩ := firstI_some hf
      have ek : ((q[k]?.map (·.prio)).getD 0) = (qAt q k).prio := by simp [qAt, List.getElem?_eq_getElem h1]
      rw [ek] at h
      split at h
      · rename_i hw
        injection h with h
        subst h
        rw [Bool.and_eq_true, decide_eq_true_eq] at hw
        refine ⟨by simp, by rw [e0]; exact hw.1, fun j hj hwj hne => ?_⟩
        obtain ⟨a, rfl⟩ : ∃ k, j = k + 1 := ⟨j - 1, by omega⟩
        rw [e1] at hwj
        have hp := hw.2
        unfold Prec
        rw [e0, e1]
        by_cases hak : a = k
        · subst hak; omega
        · have := h3 a (by simpa using hj) hwj hak
          unfold Prec at this
          omega
      · rename_i hw
        injection h with h
        subst h
        refine ⟨by simpa using h1, by rw [e1]; exact h2, fun j hj hwj hne => ?_⟩
        unfold Prec
        rw [e1]
        cases j with
        | zero =>
          rw [e0] at hwj
          rw [e0]
          rw [hwj, Bool.true_and, decide_eq_true_eq] at hw
          omega
        | succ a =>
          rw [e1] at hwj
          rw [e1]
          have := h3 a (by simpa using hj) hwj (by omega)
          unfold Prec at this
          omega
theorem firstI_none {q : List Msg} (h : firstI q = none) : waitI q = [] := by
  rw [List.eq_nil_iff_forall_not_mem]
  intro i hi
  rw [mem_waitI] at hi
  exact firstI_ne hi.1 hi.2 h
theorem lease_waitB {t : Int} (ht : t ≠ 0) (m : Msg) : waitB (lease t m) = false := by simp [waitB, lease, ht]
theorem qAt_set (q : List Msg) (i j : Nat) (m : Msg) (h : i < q.length) : qAt (q.set i m) j = if i = j then m else qAt q j := by
  unfold qAt
  rw [List.getElem?_set]
  split
  · rename_i e; subst e; simp [h]
  · rfl
def leaseQ (t : Int) : List Nat → List Msg → List Msg
  | [], q => q
  | i :: l, q => leaseQ t l (q.set i (lease t (qAt q i)))
theorem leaseQ_len (t : Int) : ∀ (l : List Nat) (q : List Msg), (leaseQ t l q).length = q.length
  | [], q => rfl
  | i :: l, q => by unfold leaseQ; rw [leaseQ_len t l, List.length_set]
theorem leaseQ_at (t : Int) : ∀ (l : List Nat) (q : List Msg) (j : Nat), l.Nodup → (∀ i ∈ l, i < q.length) → qAt (leaseQ t l q) j = if j ∈ l then lease t (qAt q j) else qAt q j
  | [], q, j, _, _ => by simp [leaseQ]
  | i :: l, q, j, hn, hl => by
    rw [List.nodup_cons] at hn
    have h0 := hl i List.mem_cons_self
    unfold leaseQ
    rw [leaseQ_at t l _ j hn.2 (fun k hk => by rw [List.length_set]; exact hl k (List.mem_cons_of_mem _ hk)), qAt_set _ _ _ _ h0]
    by_cases e : i = j
    · subst e
      rw [if_neg hn.1, if_pos rfl, if_pos List.mem_cons_self]
    · rw [if_neg e]
      simp only [List.mem_cons, show (j = i) = False by simp; omega, false_or]
theorem leaseQ_snoc (t : Int) : ∀ (l : List Nat) (i : Nat) (q : List Msg), leaseQ t (l ++ [i]) q = (leaseQ t l q).set i (lease t (qAt (leaseQ t l q) i))
  | [], i, q => rfl
  | a :: l, i, q => by
    show leaseQ t (l ++ [i]) _ = _
    rw [leaseQ_snoc t l i]
    rfl
theorem fetch_eq {t : Int} (ht : t ≠ 0) : ∀ (k : Nat) (q : List Msg) (l : List Nat), l.Perm (waitI q) → l.Pairwise (Prec q) → fetchL t k q = (leaseQ t (l.take k) q, (l.take k).map fun i => lease t (qAt q i))
  | 0, q, l, _, _ => by simp [fetchL, leaseQ]
  | k + 1, q, l, hp, hs => by
    unfold fetchL
    cases hf : firstI q with
    | none =>
      have h1 := firstI_none hf
      rw [h1] at hp
      rw [hp.eq_nil]
      rfl
    | some i =>
      obtain ⟨h1, h2, h3⟩ := firstI_some hf
      have hi : i ∈ l := hp.mem_iff.2 (mem_waitI.2 ⟨h1, h2⟩)
      cases l with
      | nil => cases hi
      | cons a l =>
        rw [List.pairwise_cons] at hs
        have hnd : (a :: l).Nodup := (List.Perm.nodup_iff hp).2 (nodup_waitI q)
        rw [List.nodup_cons] at hnd
        have ha := mem_waitI.1 (hp.mem_iff.1 List.mem_cons_self)
        have hai : a = i := by
          rcases List.mem_cons.1 hi with rfl | h
          · rfl
          · rcases Nat.decEq a i with hne | he
            · exact (Prec.asymm (hs.1 i h) (h3 a ha.1 ha.2 hne)).elim
            · exact he
        subst hai
        have hw : ∀ j, waitB (qAt (q.set a (lease t (qAt q a))) j) = (waitB (qAt q j) && decide (j ≠ a)) := fun j => by
          rw [qAt_set _ _ _ _ h1]
          by_cases e : a = j
          · subst e; simp [lease_waitB ht]
          · rw [if_neg e]; simp [show j ≠ a from fun h => e h.symm]
        have hp2 : l.Perm (waitI (q.set a (lease t (qAt q a)))) := by
          refine (List.perm_ext_iff_of_nodup hnd.2 (nodup_waitI _)).2 fun j => ?_
          rw [mem_waitI, hw, List.length_set, Bool.and_eq_true, decide_eq_true_eq]
          have hm := hp.mem_iff (a := j)
          rw [mem_waitI] at hm
          constructor
          · intro h
            have := hm.1 (List.mem_cons_of_mem _ h)
            exact ⟨this.1, this.2, fun e => by subst e; exact hnd.1 h⟩
          · rintro ⟨h4, h5, h6⟩
            rcases List.mem_cons.1 (hm.2 ⟨h4, h5⟩) with h | h
            · exact (h6 h).elim
            · exact h
        have hpr : ∀ j, (qAt (q.set a (lease t (qAt q a))) j).prio = (qAt q j).prio := fun j => by
          rw [qAt_set _ _ _ _ h1]
          split
          · rename_i e; subst e; rfl
          · rfl
        have hs2 : l.Pairwise (Prec (q.set a (lease t (qAt q a)))) := hs.2.imp (fun {x y} h => by unfold Prec at h ⊢; rw [hpr, hpr]; exact h)
        have ih := fetch_eq ht k (q.set a (lease t (qAt q a))) l hp2 hs2
        simp only
        rw [show (q[a]?.getD ⟨0, [], [], 0, 0, false, [], 0⟩) = qAt q a from rfl, ih]
        simp only [List.take_succ_cons, List.map_cons, leaseQ]
        refine congrArg _ (congrArg _ (List.map_congr_left fun j hj => ?_))
        rw [qAt_set _ _ _ _ h1, if_neg (fun e => by subst e; exact hnd.1 (List.mem_of_mem_take hj))]
def leI (q : List Msg) (i j : Nat) : Bool := decide ((qAt q j).prio < (qAt q i).prio) || (decide ((qAt q i).prio = (qAt q j).prio) && decide (i ≤ j))
def ordI (q : List Msg) : List Nat := (waitI q).mergeSort (leI q)
theorem ordI_perm (q : List Msg) : (ordI q).Perm (waitI q) := List.mergeSort_perm _ _
theorem ordI_nodup (q : List Msg) : (ordI q).Nodup := (List.Perm.nodup_iff (ordI_perm q)).2 (nodup_waitI q)
theorem ordI_len (q : List Msg) : (ordI q).length = (waitI q).length := (ordI_perm q).length_eq
theorem ordI_sorted (q : List Msg) : (ordI q).Pairwise (Prec q) := by
  have h1 : (ordI q).Pairwise (fun a b => leI q a b = true) := List.pairwise_mergeSort (fun a b c => by simp [leI]; omega) (fun a b => by simp [leI]; omega) _
  have h2 := (ordI_nodup q)
  refine (List.Pairwise.and h1 h2).imp fun {a b} h => ?_
  obtain ⟨h, hne⟩ := h
  simp [leI] at h
  unfold Prec
  omega
theorem ordI_eq {q : List Msg} {l : List Nat} (hp : l.Perm (waitI q)) (hs : l.Pairwise (Prec q)) : l = ordI q :=
  (hp.trans (ordI_perm q).symm).eq_of_pairwise (fun a b _ _ h1 h2 => (Prec.asymm h1 h2).elim) hs (ordI_sorted q)
theorem fetch_ord {t : Int} (ht : t ≠ 0) (k : Nat) (q : List Msg) : fetchL t k q = (leaseQ t ((ordI q).take k) q, ((ordI q).take k).map fun i => lease t (qAt q i)) := fetch_eq ht k q _ (ordI_perm q) (ordI_sorted q)
theorem waitI_len (q : List Msg) : (waitI q).length = (q.filter waitB).length := by
  have h : ∀ (a : Nat) (p : List Msg), ((List.range' a p.length).filter fun i => waitB (qAt (List.replicate a zM ++ p) i)).length = (p.filter waitB).length := by
    intro a p
    induction p generalizing a with
    | nil => simp
    | cons m p ih =>
      have e : List.replicate a zM ++ m :: p = (List.replicate a zM ++ [m]) ++ p := by simp
      have e0 : qAt (List.replicate a zM ++ m :: p) a = m := by simp [qAt]
      have h2 : ((List.range' (a + 1) p.length).filter fun i => waitB (qAt (List.replicate a zM ++ m :: p) i)).length = (p.filter waitB).length := by
        rw [← ih (a + 1)]
        congr 1
        refine List.filter_congr fun i hi => ?_
        rw [List.mem_range'_1] at hi
        unfold qAt
        rw [List.getElem?_append_right (by simp; omega), List.getElem?_append_right (by simp; omega)]
        simp only [List.length_replicate]
        rw [show i - a = (i - (a + 1)) + 1 by omega, List.getElem?_cons_succ]
      rw [List.length_cons, List.range'_succ, List.filter_cons, List.filter_cons, e0]
      split
      · rw [List.length_cons, List.length_cons, h2]
      · exact h2
  have := h 0 q
  rw [List.replicate_zero, List.nil_append] at this
  rw [← this]
  unfold waitI
  rw [List.range_eq_range']
end Go.Md
set_option linter.unusedVariables false
set_option linter.unusedSimpArgs false
namespace Go.Md
open Go Go.Tp Go.Ts
def kop (k id n seq : Int) : Op := ⟨k, id, n, seq, [], [], [], [], []⟩
theorem with_some {s : St} {o : Op} {x : Sub} {f : Sub → Res} (h : findS s.subs o.sub = some x) : withX s o f = f x := by unfold withX; rw [h]
def ErrOk (r : Res) : Prop := (∃ e, r = .no e ∧ e ≠ 0) ∨ ∃ t q, r = .yes t q ∧ q.err = 0
theorem res_err (s : St) (o : Op) : ErrOk (resR s o) := by
  have hn : ∀ (b : Bool) (e : Int) (r : Res), e ≠ 0 → ErrOk r → ErrOk (need b e r) := fun b e r he hr => by
    cases b
    · exact .inl ⟨e, rfl, he⟩
    · exact hr
  have hw : ∀ (f : Sub → Res), (∀ x, ErrOk (f x)) → ErrOk (withX s o f) := fun f hf => by
    unfold withX
    split
    · exact .inl ⟨30, rfl, by decide⟩
    · exact hf _
  have hl : ∀ (x : Sub) (f : Nat → Msg → Res), (∀ i m, ErrOk (f i m)) → ErrOk (leasedR x o f) := fun x f hf => by
    unfold leasedR
    split
    · exact .inl ⟨30, rfl, by decide⟩
    · split
      · exact .inl ⟨30, rfl, by decide⟩
      · exact hn _ _ _ (by decide) (hf _ _)
  have hy : ∀ (t : St) (n : Int) (l : List Msg), ErrOk (.yes t ⟨0, n, l⟩) := fun t n l => .inr ⟨t, _, rfl, rfl⟩
  have hi : ∀ (c : Prop) [Decidable c] (a b : Res), ErrOk a → ErrOk b → ErrOk (if c then a else b) := fun c _ a b ha hb => by
    by_cases h : c
    · rw [if_pos h]; exact ha
    · rw [if_neg h]; exact hb
  unfold resR
  refine hi _ _ _ ?_ (hi _ _ _ ?_ (hi _ _ _ ?_ (hi _ _ _ ?_ (hi _ _ _ ?_ (hi _ _ _ ?_ (hi _ _ _ ?_ (hi _ _ _ ?_ (hi _ _ _ ?_ (hi _ _ _ ?_ (hi _ _ _ ?_ (hi _ _ _ ?_ ?_)))))))))))
  · unfold subscribeR
    exact hn _ _ _ (by decide) (hn _ _ _ (by decide) (hn _ _ _ (by decide) (hn _ _ _ (by decide) (hn _ _ _ (by decide) (hn _ _ _ (by decide) (hy _ _ _))))))
  · exact hw _ fun x => hy _ _ _
  · unfold publishR
    exact hn _ _ _ (by decide) (hn _ _ _ (by decide) (hn _ _ _ (by decide) (hn _ _ _ (by decide) (hn _ _ _ (by decide) (hn _ _ _ (by decide) (hy _ _ _))))))
  · exact hw _ fun x => hn _ _ _ (by decide) (hy _ _ _)
  · exact hw _ fun x => hl _ _ fun i m => hn _ _ _ (by decide) (hy _ _ _)
  · exact hw _ fun x => hn _ _ _ (by decide) (hy _ _ _)
  · exact hw _ fun x => hl _ _ fun i m => hy _ _ _
  · unfold tickR
    exact hn _ _ _ (by decide) (hn _ _ _ (by decide) (hy _ _ _))
  · exact hw _ fun x => hy _ _ _
  · exact hw _ fun x => hy _ _ _
  · exact hw _ fun x => hn _ _ _ (by decide) (hy _ _ _)
  · exact hy _ _ _
  · exact .inl ⟨70, rfl, by decide⟩
theorem do_err (s : St) (o : Op) (h : (doS s o).2.err ≠ 0) : (doS s o).1 = s ∧ (doS s o).2.n = 0 ∧ (doS s o).2.list = [] := by
  unfold doS at h ⊢
  rcases res_err s o with ⟨e, h1, _⟩ | ⟨t, r, h1, h2⟩
  · rw [h1]; exact ⟨rfl, rfl, rfl⟩
  · rw [h1] at h; exact absurd h2 h
theorem find_here {s : St} (h : Rt s) {x : Sub} (hx : x ∈ s.subs) : findS s.subs x.id = some x := find_mem h.so hx
theorem find_putSt (s : St) (x : Sub) : findS (putSt s x).subs x.id = some x := find_put_self s.subs x
theorem once_math {s : St} (hr : Rt s) {o : Op} (hk : o.kind = 3) (h0 : (doS s o).2.err = 0) :
    (doS s o).1 = ⟨s.clock, s.next + 1, s.last, s.subs.map (pubX s o)⟩ ∧ (doS s o).2.n = s.next ∧
    ∀ x ∈ s.subs, hasB x o = true → (doS (doS s o).1 (kop 6 x.id 0 s.next)).2.err = 0 ∧ ∃ z, findS (doS (doS s o).1 (kop 6 x.id 0 s.next)).1.subs x.id = some z ∧ z.queue = [] ∧ z.floor = s.next := by
  have e : resR s o = publishR s o := by
    unfold resR
    rw [if_neg (by omega), if_neg (by omega), if_pos hk]
  have hy : (doS s o) = (⟨s.clock, s.next + 1, s.last, s.subs.map (pubX s o)⟩, ⟨0, s.next, []⟩) := by
    unfold doS at h0 ⊢
    rw [e] at h0 ⊢
    unfold publishR need at h0 ⊢
    revert h0
    repeat' split
    all_goals intro h
    all_goals first | rfl | (exfalso; simp [Res.rp] at h)
  have hrt := rt_do hr o
  rw [hy] at hrt ⊢
  refine ⟨rfl, rfl, fun x hx hh => ?_⟩
  simp only
  generalize ht : (⟨s.clock, s.next + 1, s.last, s.subs.map (pubX s o)⟩ : St) = t at hrt
  have hmem : pubX s o x ∈ t.subs := by rw [← ht]; exact List.mem_map.2 ⟨x, hx, rfl⟩
  have hg := hrt.gd hmem
  have hid : (pubX s o x).id = x.id := by unfold pubX; split <;> rfl
  have hf := find_here hrt hmem
  rw [hid] at hf
  have hn1 := hrt.n1
  have hnn : t.next = s.next + 1 := by rw [← ht]
  have hfl := hg.pd.f1
  have hn0 := hr.n0
  rw [hnn] at hn1
  have e2 : resR t (kop 6 x.id 0 s.next) = ackToR t (pubX s o x) (kop 6 x.id 0 s.next) := by
    show withX t (kop 6 x.id 0 s.next) (fun z => ackToR t z (kop 6 x.id 0 s.next)) = _
    exact with_some hf
  have e3 : ackToR t (pubX s o x) (kop 6 x.id 0 s.next) = .yes (putSt t (ackToX t (pubX s o x) (kop 6 x.id 0 s.next))) ⟨0, 0, []⟩ := by
    unfold ackToR need
    rw [if_pos]
    show (decide ((pubX s o x).floor ≤ s.next) && decide (s.next ≤ t.next - 1)) = true
    rw [hnn] at hfl ⊢
    simp
    omega
  unfold doS
  rw [e2, e3]
  refine ⟨rfl, ackToX t (pubX s o x) (kop 6 x.id 0 s.next), ?_, ?_, ?_⟩
  · have := find_putSt t (ackToX t (pubX s o x) (kop 6 x.id 0 s.next))
    rw [show (ackToX t (pubX s o x) (kop 6 x.id 0 s.next)).id = x.id from hid] at this
    exact this
  · show (pubX s o x).queue.filter _ = []
    rw [List.filter_eq_nil_iff]
    intro m hm
    have := (hg.pd.qr m hm).2.1
    rw [hnn] at this
    simp
    show m.seq ≤ s.next
    omega
  · show floorS _ t.next = s.next
    unfold floorS
    have hqe : (pubX s o x).queue.filter (fun m => !decide (m.seq ≤ (kop 6 x.id 0 s.next).seq)) = [] := by
      rw [List.filter_eq_nil_iff]
      intro m hm
      have := (hg.pd.qr m hm).2.1
      rw [hnn] at this
      simp
      show m.seq ≤ s.next
      omega
    simp only [hqe]
    show max s.next (w64 (t.next - 1)) = s.next
    rw [hnn, w64_id (by omega) (by omega)]
    omega
end Go.Md
set_option linter.unusedVariables false
set_option linter.unusedSimpArgs false
namespace Go.Md
open Go Go.Tp Go.Ts
theorem kind_math (s : St) (o : Op) : (doS s o).2.err = 70 ↔ (o.kind < 1 ∨ 12 < o.kind) := by
  have hn : ∀ (b : Bool) (e : Int) (r : Res), e ≠ 70 → r.rp.err ≠ 70 → (need b e r).rp.err ≠ 70 := fun b e r he hr => by
    cases b
    · exact he
    · exact hr
  have hw : ∀ (f : Sub → Res), (∀ x, (f x).rp.err ≠ 70) → (withX s o f).rp.err ≠ 70 := fun f hf => by
    unfold withX
    split
    · show (30 : Int) ≠ 70; decide
    · exact hf _
  have hl : ∀ (x : Sub) (f : Nat → Msg → Res), (∀ i m, (f i m).rp.err ≠ 70) → (leasedR x o f).rp.err ≠ 70 := fun x f hf => by
    unfold leasedR
    split
    · show (30 : Int) ≠ 70; decide
    · split
      · show (30 : Int) ≠ 70; decide
      · exact hn _ _ _ (by decide) (hf _ _)
  have hy : ∀ (t : St) (n : Int) (l : List Msg), (Res.yes t ⟨0, n, l⟩).rp.err ≠ 70 := fun t n l => by show (0 : Int) ≠ 70; decide
  unfold doS
  simp only
  constructor
  · intro h
    rcases Decidable.em (o.kind < 1 ∨ 12 < o.kind) with hk | hk
    · exact hk
    · exfalso
      revert h
      show (resR s o).rp.err ≠ 70
      have hi : ∀ (c : Prop) [Decidable c] (a b : Res), (c → a.rp.err ≠ 70) → (¬ c → b.rp.err ≠ 70) → (if c then a else b).rp.err ≠ 70 := fun c _ a b ha hb => by
        by_cases h : c
        · rw [if_pos h]; exact ha h
        · rw [if_neg h]; exact hb h
      unfold resR
      refine hi _ _ _ (fun _ => ?_) (fun n1 => hi _ _ _ (fun _ => ?_) (fun n2 => hi _ _ _ (fun _ => ?_) (fun n3 => hi _ _ _ (fun _ => ?_) (fun n4 => hi _ _ _ (fun _ => ?_) (fun n5 => hi _ _ _ (fun _ => ?_) (fun n6 => hi _ _ _ (fun _ => ?_) (fun n7 => hi _ _ _ (fun _ => ?_) (fun n8 => hi _ _ _ (fun _ => ?_) (fun n9 => hi _ _ _ (fun _ => ?_) (fun n10 => hi _ _ _ (fun _ => ?_) (fun n11 => hi _ _ _ (fun _ => ?_) (fun n12 => ?_))))))))))))
      · unfold subscribeR
        exact hn _ _ _ (by decide) (hn _ _ _ (by decide) (hn _ _ _ (by decide) (hn _ _ _ (by decide) (hn _ _ _ (by decide) (hn _ _ _ (by decide) (hy _ _ _))))))
      · exact hw _ fun x => hy _ _ _
      · unfold publishR
        exact hn _ _ _ (by decide) (hn _ _ _ (by decide) (hn _ _ _ (by decide) (hn _ _ _ (by decide) (hn _ _ _ (by decide) (hn _ _ _ (by decide) (hy _ _ _))))))
      · exact hw _ fun x => hn _ _ _ (by decide) (hy _ _ _)
      · exact hw _ fun x => hl _ _ fun i m => hn _ _ _ (by decide) (hy _ _ _)
      · exact hw _ fun x => hn _ _ _ (by decide) (hy _ _ _)
      · exact hw _ fun x => hl _ _ fun i m => hy _ _ _
      · unfold tickR
        exact hn _ _ _ (by decide) (hn _ _ _ (by decide) (hy _ _ _))
      · exact hw _ fun x => hy _ _ _
      · exact hw _ fun x => hy _ _ _
      · exact hw _ fun x => hn _ _ _ (by decide) (hy _ _ _)
      · exact hy _ _ _
      · exfalso; omega
  · intro hk
    have e : resR s o = .no 70 := by
      unfold resR
      rw [if_neg (by omega), if_neg (by omega), if_neg (by omega), if_neg (by omega), if_neg (by omega), if_neg (by omega), if_neg (by omega), if_neg (by omega), if_neg (by omega), if_neg (by omega), if_neg (by omega), if_neg (by omega)]
    rw [e]
    rfl
theorem ins_last {x : Sub} : ∀ {l : List Sub}, (∀ y ∈ l, y.id < x.id) → insS x l = l ++ [x]
  | [], _ => rfl
  | y :: l, h => by
    have := h y List.mem_cons_self
    unfold insS
    rw [if_neg (by omega), ins_last fun z hz => h z (List.mem_cons_of_mem _ hz)]
    rfl
end Go.Md
set_option linter.unusedVariables false
set_option linter.unusedSimpArgs false
namespace Go.Ts
open Go Go.Tp
structure BaseOk (x : Sub) (next : Int) : Prop where
  name : nameB x.name = true
  topic : patB x.topic = true
  want : attrsB x.want = true
  lease : 1 ≤ x.lease ∧ x.lease ≤ 1000
  most : 1 ≤ x.most ∧ x.most ≤ 9
  floor : 0 ≤ x.floor ∧ x.floor < next
  note : x.note.length ≤ 30
structure SI (base : Sub) (clock next seq : Int) (x : Sub) : Prop where
  eq : x = { base with acks := x.acks, queue := x.queue }
  al : x.acks.length ≤ 20
  ak : ackB next base.floor x.acks = true
  au : ∀ y ∈ x.acks, y ≤ seq
  ql : x.queue.length ≤ 30
  qk : ackB next base.floor (x.queue.map (·.seq)) = true
  qs : ∀ m ∈ x.queue, m.seq ≤ seq ∧ x.acks.contains m.seq = false ∧ msgB m base.lease base.most clock = true ∧ m.til ≤ 1000000000
  fl : base.floor ≤ seq
theorem ack_snoc {next n : Int} (hn : n < next) : ∀ {a : Int} {l : List Int}, ackB next a l = true → (∀ y ∈ l, y < n) → a < n → ackB next a (l ++ [n]) = true
  | a, [], _, _, ha => by simp [ackB, ha, hn]
  | a, m :: l, h, hl, ha => by
    simp only [ackB, Bool.and_eq_true, decide_eq_true_eq] at h
    simp only [List.cons_append, ackB, Bool.and_eq_true, decide_eq_true_eq]
    exact ⟨h.1, ack_snoc hn h.2 (fun y hy => hl y (List.mem_cons_of_mem _ hy)) (hl m List.mem_cons_self)⟩
theorem SI.start {base : Sub} {clock next : Int} (ha : base.acks = []) (hq : base.queue = []) : SI base clock next base.floor base :=
  ⟨rfl, by rw [ha]; simp, by rw [ha]; rfl, by rw [ha]; simp, by rw [hq]; simp, by rw [hq]; rfl, by rw [hq]; simp, Int.le_refl _⟩
theorem SI.ack {base : Sub} {clock next s s' : Int} {x : Sub} (h : SI base clock next s x) (h1 : s < s') (h2 : s' < next) (h3 : x.acks.length < 20) : SI base clock next s' { x with acks := x.acks ++ [s'] } := by
  refine ⟨?_, ?_, ?_, ?_, h.ql, h.qk, ?_, ?_⟩
  · have := h.eq
    show ({ x with acks := x.acks ++ [s'] } : Sub) = { base with acks := x.acks ++ [s'], queue := x.queue }
    rw [this]
  · show (x.acks ++ [s']).length ≤ 20
    simp
    omega
  · have := h.fl
    exact ack_snoc h2 h.ak (fun y hy => by have := h.au y hy; omega) (by omega)
  · intro y hy
    rcases List.mem_append.1 hy with hy | hy
    · have := h.au y hy; omega
    · rw [List.mem_singleton.1 hy]; exact Int.le_refl _
  · intro m hm
    obtain ⟨a, b, c, d⟩ := h.qs m hm
    refine ⟨by omega, ?_, c, d⟩
    show (x.acks ++ [s']).contains m.seq = false
    rw [List.contains_eq_mem] at b ⊢
    simp only [decide_eq_false_iff_not] at b ⊢
    intro e
    rcases List.mem_append.1 e with e | e
    · exact b e
    · have := List.mem_singleton.1 e; omega
  · have := h.fl; omega
theorem SI.msg {base : Sub} {clock next s s' : Int} {x : Sub} {m : Msg} (h : SI base clock next s x) (h1 : s < s') (h2 : s' < next) (h3 : x.queue.length < 30) (hm : m.seq = s') (hb : msgB m base.lease base.most clock = true) (ht : m.til ≤ 1000000000) :
    SI base clock next s' { x with queue := x.queue ++ [m] } := by
  have hfl := h.fl
  refine ⟨?_, h.al, h.ak, ?_, ?_, ?_, ?_, ?_⟩
  · have := h.eq
    show ({ x with queue := x.queue ++ [m] } : Sub) = { base with acks := x.acks, queue := x.queue ++ [m] }
    rw [this]
  · intro y hy
    have := h.au y hy; omega
  · show (x.queue ++ [m]).length ≤ 30
    simp
    omega
  · show ackB next base.floor ((x.queue ++ [m]).map (·.seq)) = true
    rw [List.map_append]
    show ackB next base.floor (x.queue.map (·.seq) ++ [m.seq]) = true
    rw [hm]
    refine ack_snoc h2 h.qk (fun y hy => ?_) (by omega)
    obtain ⟨m', hm', rfl⟩ := List.mem_map.1 hy
    have := (h.qs m' hm').1
    omega
  · intro m' hm'
    rcases List.mem_append.1 hm' with e | e
    · obtain ⟨a, b, c, d⟩ := h.qs m' e
      exact ⟨by omega, b, c, d⟩
    · rw [List.mem_singleton.1 e]
      refine ⟨by omega, ?_, hb, ht⟩
      show x.acks.contains m.seq = false
      rw [List.contains_eq_mem]
      simp only [decide_eq_false_iff_not]
      intro e2
      have := h.au _ e2
      omega
  · omega
theorem SI.good {base : Sub} {clock next s : Int} {x : Sub} (h : SI base clock next s x) (hb : BaseOk base next) (hi : 1 ≤ base.id ∧ base.id ≤ 1073741824) : goodB x clock next = true := by
  have he := h.eq
  have f1 : x.id = base.id := by rw [he]
  have f2 : x.name = base.name := by rw [he]
  have f3 : x.topic = base.topic := by rw [he]
  have f4 : x.want = base.want := by rw [he]
  have f5 : x.lease = base.lease := by rw [he]
  have f6 : x.most = base.most := by rw [he]
  have f7 : x.floor = base.floor := by rw [he]
  have f8 : x.note = base.note := by rw [he]
  rw [good_split, que_split, f1, f2, f3, f4, f5, f6, f7, f8, hb.name, hb.topic, hb.want, h.ak, h.qk]
  have hok : x.queue.all (okM x clock) = true := by
    rw [List.all_eq_true]
    intro m hm
    obtain ⟨a, b, c, d⟩ := h.qs m hm
    unfold okM
    rw [b, f5, f6, c]
    rfl
  rw [hok]
  simp [hb.lease.1, hb.lease.2, hb.most.1, hb.most.2, hb.floor.1, hb.floor.2, hb.note, h.al, h.ql, hi.1, hi.2]
end Go.Ts
set_option linter.unusedVariables false
namespace Go.Proofs.YtodckdkbheapfaaGreat
open Go.RowKit Go.Rst Go.Tp
def wdF (n : Nat) : List UInt8 := if n / 8 % 4 = 0 then [97] else if n / 8 % 4 = 1 then [98] else if n / 8 % 4 = 2 then [120, 49] else [108, 111, 110, 103]
def nmK (l : List UInt8) : Nat → List UInt8
  | 0 => []
  | k + 1 => match l[k]? with
    | some c => (if 0 < k ∧ 0 < c.toNat % 7 then nmK l k ++ [47] else nmK l k) ++ wdF c.toNat
    | none => nmK l k
def nameL (l : List UInt8) : List UInt8 := nmK l (min l.length 8)
theorem wdF_len (n : Nat) : (wdF n).length ≤ 4 := by
  unfold wdF
  split
  · decide
  · split
    · decide
    · split <;> decide
theorem nmK_len (l : List UInt8) : ∀ k, (nmK l k).length ≤ 5 * k
  | 0 => by simp [nmK]
  | k + 1 => by
    have ih := nmK_len l k
    unfold nmK
    split
    · rename_i c _
      have := wdF_len c.toNat
      split <;> simp <;> omega
    · omega
theorem nameL_len (l : List UInt8) : (nameL l).length ≤ 40 := by have := nmK_len l (min l.length 8); unfold nameL; omega
theorem str_app (a b : List UInt8) : (⟨a.toArray⟩ ++ ⟨b.toArray⟩ : ByteArray) = ⟨(a ++ b).toArray⟩ := by
  apply ByteArray.ext
  rw [ByteArray.data_append]
  simp
set_option maxRecDepth 100000 in
set_option maxHeartbeats 2000000 in
theorem nameF_any {cv : Value} {l : List UInt8} {w : World} (h : RB w cv l) : Calls Tryz.prog 27 #[cv, .bool false] w fun e w' => e = .returned (sv (nameL l)) ∧ Below w.heap.size w w' := by
  have HV := Lib.hid h
  obtain ⟨A, c, rfl, _⟩ := id h
  clear h
  go_enter Tryz.func27, Tryz.ntmps27
  go_wp2_with fail
  go_loopw [5, 6] (fun s i wr => ∃ (k : Nat) (t : ByteArray), k ≤ l.length ∧ k ≤ 8 ∧ i = .int .i64 k ∧ s = .string t ∧ t = ⟨(nmK l k).toArray⟩ ∧ Below w.heap.size w wr) (fun _ i _ => l.length - (intOf i).toNat)
  case atStart => exact ⟨0, _, Nat.zero_le _, Nat.zero_le _, rfl, rfl, rfl, Below.refl _ _⟩
  case round =>
    obtain ⟨k, t, hk, hk8, rfl, rfl, ht, hbel⟩ := hrel
    have HT := Lib.hid ht
    have hts : t.size ≤ 5 * k := by rw [ht]; have := nmK_len l k; show (nmK l k).toArray.size ≤ _; simpa using this
    clear ht
    have HBl := Lib.hid hbel
    clear hbel
    by_cases hlt : k < l.length
    · have q1 : (k : Int) < (l.length : Int) := by omega
      by_cases h8 : k < 8
      · have q2 : (k : Int) < 8 := by omega
        obtain ⟨b, off, rfl, hb, hcell⟩ := rb_cell (HV.out.below HBl.out) hlt
        have hsn : nmK l (k + 1) = (if 0 < k ∧ 0 < l[k].toNat % 7 then nmK l k ++ [47] else nmK l k) ++ wdF l[k].toNat := by
          show (match l[k]? with | some c => (if 0 < k ∧ 0 < c.toNat % 7 then nmK l k ++ [47] else nmK l k) ++ wdF c.toNat | none => nmK l k) = _
          rw [List.getElem?_eq_getElem hlt]
        unfold bv at hcell
        have hn : l[k].toNat < 256 := UInt8.toNat_lt _
        generalize l[k].toNat = n at hcell hn hsn
        have HSN := Lib.hid hsn
        clear hsn
        obtain ⟨x, hx, hxs⟩ : ∃ x : ByteArray, (wr.alloc (Obj.cells #[.string ⟨#[97]⟩, .string ⟨#[98]⟩, .string ⟨#[120, 49]⟩, .string ⟨#[108, 111, 110, 103]⟩] 9)).cell? ⟨wr.heap.size, n / 8 % 4, none⟩ = some (.string x) ∧ x = ⟨(wdF n).toArray⟩ := by
          have e := (show Blk (wr.alloc (Obj.cells #[.string ⟨#[97]⟩, .string ⟨#[98]⟩, .string ⟨#[120, 49]⟩, .string ⟨#[108, 111, 110, 103]⟩] 9)) wr.heap.size 9 #[.string ⟨#[97]⟩, .string ⟨#[98]⟩, .string ⟨#[120, 49]⟩, .string ⟨#[108, 111, 110, 103]⟩] from heap_alloc_new wr _).cell (n / 8 % 4)
          unfold wdF
          rcases (show n / 8 % 4 = 0 ∨ n / 8 % 4 = 1 ∨ n / 8 % 4 = 2 ∨ n / 8 % 4 = 3 by omega) with hd | hd | hd | hd <;> rw [hd] at e ⊢ <;> exact ⟨_, e, rfl⟩
        have HXS := Lib.hid hxs
        have hxz : x.size ≤ 4 := by rw [hxs]; have := wdF_len n; show (wdF n).toArray.size ≤ _; simpa using this
        clear hxs
        by_cases z1 : 0 < k
        · by_cases z2 : 0 < n % 7
          · have z2' : (0 : Int) < (n : Int) % 7 := by omega
            go_wp2
            go_roundw
            case rel => exact ⟨k + 1, _, by omega, by omega, by go_num, rfl, by rw [HSN.out, HT.out, if_pos ⟨z1, z2⟩, HXS.out, show (⟨#[47]⟩ : ByteArray) = ⟨[(47 : UInt8)].toArray⟩ from rfl, str_app, str_app], HBl.out.alloc HBl.out.size _⟩
            case measure => simp [intOf]; omega
          · have z2' : ¬ (0 : Int) < (n : Int) % 7 := by omega
            go_wp2
            go_roundw
            case rel => exact ⟨k + 1, _, by omega, by omega, by go_num, rfl, by rw [HSN.out, HT.out, if_neg (fun h => z2 h.2), HXS.out, str_app], HBl.out.alloc HBl.out.size _⟩
            case measure => simp [intOf]; omega
        · have z1' : ¬ (0 : Int) < (k : Int) := by omega
          go_wp2
          go_roundw
          case rel => exact ⟨k + 1, _, by omega, by omega, by go_num, rfl, by rw [HSN.out, HT.out, if_neg (fun h => z1 h.1), HXS.out, str_app], HBl.out.alloc HBl.out.size _⟩
          case measure => simp [intOf]; omega
      · have q2 : ¬ (k : Int) < 8 := by omega
        go_wp2
        go_ret
        exact ⟨by rw [nameL, show min l.length 8 = k by omega, HT.out]; rfl, HBl.out⟩
    · have q1 : ¬ (k : Int) < (l.length : Int) := by omega
      go_wp2
      go_ret
      exact ⟨by rw [nameL, show min l.length 8 = k by omega, HT.out]; rfl, HBl.out⟩
end Go.Proofs.YtodckdkbheapfaaGreat
