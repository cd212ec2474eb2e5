/-
  Words on bytes that lie in memory, over the seat's program, without any of its functions.; The contract of the document's own split (layer topic).; The contract of the document's own pairs (layer topic).; Plain mathematics of states, without any program: subscriptions, messages, what may be, what is put.; Plain mathematics of leaving out (layer state). No program.; Plain mathematics of what may be: names, queues, subscriptions (layer state). No program.; Plain mathematics of the statements' own Sub: what is made may be. No program.; Plain mathematics of what the statements of states ask: what is put is found, what is settled, in which order. No program.
-/
import Derived.Test.YtjppomhfillflaaGreatDoorProg
import Derived.Test.YtjppomhfillflaaGreatDoorKCA
set_option linter.unusedVariables false
namespace Go.Proofs.YtjppomhfillflaaGreatDoor
open Go.RowKit Go.Rst
def Blk (w : World) (g : Nat) (t : TypeId) (cs : Array Value) : Prop := w.heap[g]? = some (.cells cs t (0, 0))
section
variable {w w' : World} {g : Nat} {t : TypeId} {cs : Array Value}
theorem Blk.lt (h : Blk w g t cs) : g < w.heap.size := by
  rcases Nat.lt_or_ge g w.heap.size with hlt | hge
  · exact hlt
  · unfold Blk at h; rw [Array.getElem?_eq_none hge] at h; cases h
theorem Blk.cell (h : Blk w g t cs) (i : Nat) : w.cell? ⟨g, i, none⟩ = cs[i]? := cell_of_row w g i cs t (0, 0) h
theorem Blk.frozen (h : Blk w g t cs) (i : Nat) : w.frozen? ⟨g, i, none⟩ = false := by
  unfold Blk at h
  simp [World.frozen?, h]
theorem Blk.alloc (h : Blk w g t cs) (o : Obj) : Blk (w.alloc o) g t cs := (Below.heap_alloc w o g h.lt).trans h
theorem Blk.far (h : Blk w g t cs) {p : Addr} (hp : g ≠ p.block) (u : Value) : Blk (w.setCell p u) g t cs := (Below.heap_setCell w p u g hp).trans h
theorem Blk.below {B : Nat} (h : Blk w g t cs) (hb : Below B w w') (hg : g < B) : Blk w' g t cs := (hb.block g hg).trans h
end
theorem str22 {w : World} {v : Value} {l : List UInt8} (h : RB w v l) : (convert 29 9 v).run Tryz.prog w = .ok (.string ⟨l.toArray⟩) w := h.str Tryz.underlying29 Tryz.underlying5 Tryz.underlying9
theorem rb_cell {w : World} {A : Option Addr} {c : Nat} {l : List UInt8} (h : RB w (.slice A l.length c) l) {k : Nat} (hk : k < l.length) :
    ∃ b off, A = some ⟨b, off, none⟩ ∧ b < w.heap.size ∧ w.cell? ⟨b, off + k, none⟩ = some (bv l[k]) := by
  obtain ⟨A', c', he, _, _, h3⟩ := h
  injection he with e1 e2 e3
  subst e1
  rcases h3 with h3 | ⟨b, off, h4, h5, h6⟩
  · rw [h3] at hk; simp at hk
  · exact ⟨b, off, h4, h5, h6 k hk⟩
end Go.Proofs.YtjppomhfillflaaGreatDoor
set_option linter.unusedVariables false
namespace Go.Proofs.YtjppomhfillflaaGreatDoor
open Go.RowKit Go.Rst Go.Tp
theorem ext_cat (a b : List UInt8) : (⟨a.toArray⟩ : ByteArray) ++ ⟨b.toArray⟩ = ⟨(a ++ b).toArray⟩ := by
  apply ByteArray.ext
  simp [ByteArray.data_append]
def svs (ps : List (List UInt8)) : List Value := ps.map fun p => .string ⟨p.toArray⟩
structure Spl (c : UInt8) (l : List UInt8) (f k : Nat) (ps : List (List UInt8)) : Prop where
  fk : f ≤ k
  kl : k ≤ l.length
  pf : ps.length ≤ f
  cl : ∀ x ∈ (l.drop f).take (k - f), x ≠ c
  eq : splitL c l = ps ++ splitL c (l.drop f)
theorem Spl.start (c : UInt8) (l : List UInt8) : Spl c l 0 0 [] := ⟨Nat.le_refl _, Nat.zero_le _, Nat.le_refl _, fun x hx => by simp at hx, by simp⟩
theorem Spl.on {c : UInt8} {l : List UInt8} {f k : Nat} {ps : List (List UInt8)} (h : Spl c l f k ps) (hk : k < l.length) (hx : l[k] ≠ c) : Spl c l f (k + 1) ps := by
  have hfk := h.fk
  refine ⟨by omega, hk, h.pf, fun x hx2 => ?_, h.eq⟩
  have e : (l.drop f).take (k + 1 - f) = (l.drop f).take (k - f) ++ [l[k]] := by
    have e1 : k + 1 - f = (k - f) + 1 := by omega
    have h1 : k - f < (l.drop f).length := by rw [List.length_drop]; omega
    rw [e1, List.take_succ_eq_append_getElem h1]
    congr 2
    rw [List.getElem_drop]
    congr 1
    omega
  rw [e] at hx2
  rcases List.mem_append.1 hx2 with h2 | h2
  · exact h.cl x h2
  · rw [List.mem_singleton.1 h2]; exact hx
theorem drop_cut {l : List UInt8} {f k : Nat} (hfk : f ≤ k) (hk : k < l.length) : l.drop f = (l.drop f).take (k - f) ++ l[k] :: l.drop (k + 1) := by
  have h1 : k - f < (l.drop f).length := by rw [List.length_drop]; omega
  conv => lhs; rw [← List.take_append_drop (k - f) (l.drop f)]
  congr 1
  rw [List.drop_drop, show f + (k - f) = k by omega, List.drop_eq_getElem_cons hk]
theorem Spl.cut {c : UInt8} {l : List UInt8} {f k : Nat} {ps : List (List UInt8)} (h : Spl c l f k ps) (hk : k < l.length) (hx : l[k] = c) : Spl c l (k + 1) (k + 1) (ps ++ [(l.drop f).take (k - f)]) := by
  have hfk := h.fk
  have hpf := h.pf
  refine ⟨Nat.le_refl _, hk, by simp; omega, fun x hx => by simp at hx, ?_⟩
  have e := h.eq
  rw [drop_cut hfk hk, hx, splitL_part c _ h.cl] at e
  rw [e]
  simp
theorem Spl.last {c : UInt8} {l : List UInt8} {f : Nat} {ps : List (List UInt8)} (h : Spl c l f l.length ps) : splitL c l = ps ++ [(l.drop f).take (l.length - f)] := by
  rw [h.eq]
  congr 1
  have e : (l.drop f).take (l.length - f) = l.drop f := by rw [List.take_of_length_le]; simp
  have h2 := h.cl
  rw [e] at h2 ⊢
  exact splitL_last c _ h2
theorem ext_str (l : List UInt8) (f k : Nat) : (⟨l.toArray⟩ : ByteArray).extract f k = ⟨((l.drop f).take (k - f)).toArray⟩ := by
  apply ByteArray.ext
  rw [ByteArray.data_extract]
  simp
end Go.Proofs.YtjppomhfillflaaGreatDoor
set_option linter.unusedVariables false
namespace Go.Tp
open Go
def leS (a b : List UInt8) : Bool := Op.bytesLess a b || a == b
def pairOk (last p : List UInt8) : Bool := match splitL 61 p with
  | [a, b] => wordB a && wordB b && !leS a last
  | _ => false
def firstOf (p : List UInt8) : List UInt8 := (splitL 61 p).headD []
def pairsP : List UInt8 → List (List UInt8) → Bool
  | _, [] => true
  | last, p :: ps => pairOk last p && pairsP (firstOf p) ps
def pairsR (l : List UInt8) : List (List UInt8) × Bool := if l = [] then ([], true) else if pairsP [] (splitL 44 l) = true then (splitL 44 l, decide (l.length ≤ 30)) else ([], false)
def attrsB (l : List UInt8) : Bool := (pairsR l).2
end Go.Tp
namespace Go.Proofs.YtjppomhfillflaaGreatDoor
open Go.RowKit Go.Rst Go.Tp
def GivesP (w : World) (r : List (List UInt8) × Bool) (e : Ending) (w' : World) : Prop := ∃ v, e = .returned (.tuple #[v, .bool r.2]) ∧ w'.ownsRow w.heap.size 9 1 v r.1.length (svs r.1) ∧ Below w.heap.size w w'
theorem GivesP.no {w w' : World} {r : List (List UInt8) × Bool} (h : r = ([], false)) (hb : Below w.heap.size w w') : GivesP w r (.returned (.tuple #[.slice none 0 0, .bool false])) w' := by
  subst h
  exact ⟨_, rfl, World.ownsRow_nil _ _ _ _, hb⟩
end Go.Proofs.YtjppomhfillflaaGreatDoor
set_option linter.unusedVariables false
namespace Go.Ts
open Go Go.Tp
structure Msg where
  seq : Int
  body : List UInt8
  attr : List UInt8
  tries : Int
  til : Int
  dead : Bool
  why : List UInt8
  prio : Int
deriving DecidableEq
structure Sub where
  id : Int
  name : List UInt8
  topic : List UInt8
  want : List UInt8
  lease : Int
  most : Int
  floor : Int
  acks : List Int
  queue : List Msg
  note : List UInt8
deriving DecidableEq
structure St where
  clock : Int
  next : Int
  last : Int
  subs : List Sub
deriving DecidableEq
def w64 (n : Int) : Int := RowKit.wrap64 n
def nameB (l : List UInt8) : Bool := decide (l.length ≤ 20) && rightB l && !(l.contains 47)
def msgB (m : Msg) (lease most clock : Int) : Bool :=
  if 60 < m.body.length || !attrsB m.attr || decide (m.prio < 0) || decide (9 < m.prio) then false
  else if m.dead then decide (m.til = 0) && (decide (m.why = [110, 97, 99, 107]) || decide (m.why = [116, 105, 109, 101])) && decide (m.tries = most)
  else if m.why ≠ [] then false
  else if m.til = 0 then decide (0 ≤ m.tries) && decide (m.tries < most)
  else decide (1 ≤ m.tries) && decide (m.tries ≤ most) && decide (clock < m.til) && decide (m.til ≤ w64 (clock + lease))
def fieldsB (x : Sub) (next : Int) : Bool :=
  decide (1 ≤ x.id) && decide (x.id ≤ 1073741824) && nameB x.name && patB x.topic && attrsB x.want && decide (1 ≤ x.lease) && decide (x.lease ≤ 1000) && decide (1 ≤ x.most) && decide (x.most ≤ 9) && decide (0 ≤ x.floor) && decide (x.floor < next) && decide (x.acks.length ≤ 20) && decide (x.note.length ≤ 30) && decide (x.queue.length ≤ 30)
def ackB (next : Int) : Int → List Int → Bool
  | _, [] => true
  | last, n :: l => decide (last < n) && decide (n < next) && ackB next n l
def queB (x : Sub) (clock next : Int) : Int → List Msg → Bool
  | _, [] => true
  | last, m :: l => decide (last < m.seq) && decide (m.seq < next) && !(x.acks.contains m.seq) && msgB m x.lease x.most clock && queB x clock next m.seq l
def goodB (x : Sub) (clock next : Int) : Bool := fieldsB x next && ackB next x.floor x.acks && queB x clock next x.floor x.queue
def noSub : Sub := ⟨0, [], [], [], 0, 0, 0, [], [], []⟩
def findS (l : List Sub) (id : Int) : Option Sub := l.find? fun x => x.id == id
def outS (l : List Sub) (id : Int) : List Sub := l.filter fun x => !(x.id == id)
def insS (x : Sub) : List Sub → List Sub
  | [] => [x]
  | y :: l => if x.id < y.id then x :: y :: l else y :: insS x l
def putS (l : List Sub) (x : Sub) : List Sub := insS x (outS l x.id)
def floorS (x : Sub) (next : Int) : Int := max x.floor (w64 ((match x.queue with | [] => next | m :: _ => m.seq) - 1))
def settleS (x : Sub) (next : Int) : Sub := { x with floor := floorS x next, acks := x.acks.filter fun n => decide (floorS x next < n) }
end Go.Ts
set_option linter.unusedVariables false
namespace Go.Ts
theorem outS_take {l : List Sub} {id : Int} {k : Nat} (hk : k < l.length) : outS (l.take (k + 1)) id = outS (l.take k) id ++ (if l[k].id = id then [] else [l[k]]) := by
  unfold outS
  rw [List.take_succ_eq_append_getElem hk, List.filter_append]
  congr 1
  by_cases h : l[k].id = id
  · rw [if_pos h]; simp [h]
  · rw [if_neg h]; simp [h]
theorem outS_len (l : List Sub) (id : Int) : (outS l id).length ≤ l.length := List.length_filter_le _ _
end Go.Ts
set_option linter.unusedVariables false
set_option linter.unusedSimpArgs false
namespace Go.Ts
open Go Go.Tp
theorem name_word (l : List UInt8) : nameB l = (decide (l.length ≤ 20) && wordB l) := by
  unfold nameB
  by_cases h47 : l.contains 47 = true
  · have hw : wordB l = false := by
      unfold wordB
      rw [List.contains_iff_mem] at h47
      have : l.all isW = false := by
        rw [List.all_eq_false]
        exact ⟨47, h47, by decide⟩
      rw [this, Bool.false_and]
    rw [h47, hw]
    simp
  · have h47 : l.contains 47 = false := by simpa using h47
    have hne : ∀ x ∈ l, x ≠ 47 := fun x hx e => by
      subst e
      have := List.contains_iff_mem.2 hx
      rw [h47] at this
      cases this
    unfold rightB
    rw [h47, splitL_last 47 l hne]
    by_cases h20 : l.length ≤ 20
    · have h30 : l.length ≤ 30 := by omega
      simp [h20, h30]
    · simp [h20]
def okM (x : Sub) (clock : Int) (m : Msg) : Bool := !(x.acks.contains m.seq) && msgB m x.lease x.most clock
theorem que_split (x : Sub) (clock next : Int) : ∀ (a : Int) (q : List Msg), queB x clock next a q = (q.all (okM x clock) && ackB next a (q.map (·.seq)))
  | a, [] => rfl
  | a, m :: q => by
    simp only [queB, List.all_cons, List.map_cons, ackB, que_split x clock next m.seq q, okM]
    cases decide (a < m.seq) <;> cases decide (m.seq < next) <;> cases x.acks.contains m.seq <;> cases msgB m x.lease x.most clock <;> simp
theorem good_split (x : Sub) (clock next : Int) : goodB x clock next = ((decide (1 ≤ x.id) && decide (x.id ≤ 1073741824)) && (nameB x.name && (patB x.topic && (attrsB x.want && ((decide (1 ≤ x.lease) && decide (x.lease ≤ 1000)) && ((decide (1 ≤ x.most) && decide (x.most ≤ 9)) && (decide (x.note.length ≤ 30) && (decide (0 ≤ x.floor) && (decide (x.floor < next) && ((decide (x.acks.length ≤ 20) && ackB next x.floor x.acks) && (decide (x.queue.length ≤ 30) && queB x clock next x.floor x.queue))))))))))) := by
  unfold goodB fieldsB
  ac_rfl
end Go.Ts
set_option linter.unusedVariables false
set_option linter.unusedSimpArgs false
namespace Go.Ts
open Go Go.Tp
structure BaseOk (x : Sub) (next : Int) : Prop where
  name : nameB x.name = true
  topic : patB x.topic = true
  want : attrsB x.want = true
  lease : 1 ≤ x.lease ∧ x.lease ≤ 1000
  most : 1 ≤ x.most ∧ x.most ≤ 9
  floor : 0 ≤ x.floor ∧ x.floor < next
  note : x.note.length ≤ 30
structure SI (base : Sub) (clock next seq : Int) (x : Sub) : Prop where
  eq : x = { base with acks := x.acks, queue := x.queue }
  al : x.acks.length ≤ 20
  ak : ackB next base.floor x.acks = true
  au : ∀ y ∈ x.acks, y ≤ seq
  ql : x.queue.length ≤ 30
  qk : ackB next base.floor (x.queue.map (·.seq)) = true
  qs : ∀ m ∈ x.queue, m.seq ≤ seq ∧ x.acks.contains m.seq = false ∧ msgB m base.lease base.most clock = true ∧ m.til ≤ 1000000000
  fl : base.floor ≤ seq
theorem ack_snoc {next n : Int} (hn : n < next) : ∀ {a : Int} {l : List Int}, ackB next a l = true → (∀ y ∈ l, y < n) → a < n → ackB next a (l ++ [n]) = true
  | a, [], _, _, ha => by simp [ackB, ha, hn]
  | a, m :: l, h, hl, ha => by
    simp only [ackB, Bool.and_eq_true, decide_eq_true_eq] at h
    simp only [List.cons_append, ackB, Bool.and_eq_true, decide_eq_true_eq]
    exact ⟨h.1, ack_snoc hn h.2 (fun y hy => hl y (List.mem_cons_of_mem _ hy)) (hl m List.mem_cons_self)⟩
theorem SI.start {base : Sub} {clock next : Int} (ha : base.acks = []) (hq : base.queue = []) : SI base clock next base.floor base :=
  ⟨rfl, by rw [ha]; simp, by rw [ha]; rfl, by rw [ha]; simp, by rw [hq]; simp, by rw [hq]; rfl, by rw [hq]; simp, Int.le_refl _⟩
theorem SI.ack {base : Sub} {clock next s s' : Int} {x : Sub} (h : SI base clock next s x) (h1 : s < s') (h2 : s' < next) (h3 : x.acks.length < 20) : SI base clock next s' { x with acks := x.acks ++ [s'] } := by
  refine ⟨?_, ?_, ?_, ?_, h.ql, h.qk, ?_, ?_⟩
  · have := h.eq
    show ({ x with acks := x.acks ++ [s'] } : Sub) = { base with acks := x.acks ++ [s'], queue := x.queue }
    rw [this]
  · show (x.acks ++ [s']).length ≤ 20
    simp
    omega
  · have := h.fl
    exact ack_snoc h2 h.ak (fun y hy => by have := h.au y hy; omega) (by omega)
  · intro y hy
    rcases List.mem_append.1 hy with hy | hy
    · have := h.au y hy; omega
    · rw [List.mem_singleton.1 hy]; exact Int.le_refl _
  · intro m hm
    obtain ⟨a, b, c, d⟩ := h.qs m hm
    refine ⟨by omega, ?_, c, d⟩
    show (x.acks ++ [s']).contains m.seq = false
    rw [List.contains_eq_mem] at b ⊢
    simp only [decide_eq_false_iff_not] at b ⊢
    intro e
    rcases List.mem_append.1 e with e | e
    · exact b e
    · have := List.mem_singleton.1 e; omega
  · have := h.fl; omega
theorem SI.msg {base : Sub} {clock next s s' : Int} {x : Sub} {m : Msg} (h : SI base clock next s x) (h1 : s < s') (h2 : s' < next) (h3 : x.queue.length < 30) (hm : m.seq = s') (hb : msgB m base.lease base.most clock = true) (ht : m.til ≤ 1000000000) :
    SI base clock next s' { x with queue := x.queue ++ [m] } := by
  have hfl := h.fl
  refine ⟨?_, h.al, h.ak, ?_, ?_, ?_, ?_, ?_⟩
  · have := h.eq
    show ({ x with queue := x.queue ++ [m] } : Sub) = { base with acks := x.acks, queue := x.queue ++ [m] }
    rw [this]
  · intro y hy
    have := h.au y hy; omega
  · show (x.queue ++ [m]).length ≤ 30
    simp
    omega
  · show ackB next base.floor ((x.queue ++ [m]).map (·.seq)) = true
    rw [List.map_append]
    show ackB next base.floor (x.queue.map (·.seq) ++ [m.seq]) = true
    rw [hm]
    refine ack_snoc h2 h.qk (fun y hy => ?_) (by omega)
    obtain ⟨m', hm', rfl⟩ := List.mem_map.1 hy
    have := (h.qs m' hm').1
    omega
  · intro m' hm'
    rcases List.mem_append.1 hm' with e | e
    · obtain ⟨a, b, c, d⟩ := h.qs m' e
      exact ⟨by omega, b, c, d⟩
    · rw [List.mem_singleton.1 e]
      refine ⟨by omega, ?_, hb, ht⟩
      show x.acks.contains m.seq = false
      rw [List.contains_eq_mem]
      simp only [decide_eq_false_iff_not]
      intro e2
      have := h.au _ e2
      omega
  · omega
theorem SI.good {base : Sub} {clock next s : Int} {x : Sub} (h : SI base clock next s x) (hb : BaseOk base next) (hi : 1 ≤ base.id ∧ base.id ≤ 1073741824) : goodB x clock next = true := by
  have he := h.eq
  have f1 : x.id = base.id := by rw [he]
  have f2 : x.name = base.name := by rw [he]
  have f3 : x.topic = base.topic := by rw [he]
  have f4 : x.want = base.want := by rw [he]
  have f5 : x.lease = base.lease := by rw [he]
  have f6 : x.most = base.most := by rw [he]
  have f7 : x.floor = base.floor := by rw [he]
  have f8 : x.note = base.note := by rw [he]
  rw [good_split, que_split, f1, f2, f3, f4, f5, f6, f7, f8, hb.name, hb.topic, hb.want, h.ak, h.qk]
  have hok : x.queue.all (okM x clock) = true := by
    rw [List.all_eq_true]
    intro m hm
    obtain ⟨a, b, c, d⟩ := h.qs m hm
    unfold okM
    rw [b, f5, f6, c]
    rfl
  rw [hok]
  simp [hb.lease.1, hb.lease.2, hb.most.1, hb.most.2, hb.floor.1, hb.floor.2, hb.note, h.al, h.ql, hi.1, hi.2]
end Go.Ts
set_option linter.unusedVariables false
namespace Go.Ts
open Go Go.Tp
def SortS (l : List Sub) : Prop := l.Pairwise (fun a b => a.id < b.id)
theorem mem_out {y : Sub} {l : List Sub} {id : Int} : y ∈ outS l id ↔ y ∈ l ∧ y.id ≠ id := by
  unfold outS
  simp
theorem mem_ins {x y : Sub} : ∀ {l : List Sub}, y ∈ insS x l ↔ y = x ∨ y ∈ l
  | [] => by simp [insS]
  | z :: l => by
    unfold insS
    split
    · simp
    · rw [List.mem_cons, mem_ins (l := l), List.mem_cons]
      constructor
      · rintro (h | h | h) <;> simp [h]
      · rintro (h | h | h) <;> simp [h]
theorem mem_put {x y : Sub} {l : List Sub} : y ∈ putS l x ↔ y = x ∨ (y ∈ l ∧ y.id ≠ x.id) := by
  unfold putS
  rw [mem_ins, mem_out]
theorem sort_out {l : List Sub} (h : SortS l) (id : Int) : SortS (outS l id) := by
  unfold outS
  exact List.Pairwise.filter _ h
theorem sort_ins {x : Sub} : ∀ {l : List Sub}, SortS l → (∀ y ∈ l, y.id ≠ x.id) → SortS (insS x l)
  | [], _, _ => by simp [insS, SortS]
  | z :: l, h, hx => by
    unfold SortS at h
    obtain ⟨h1, h2⟩ := List.pairwise_cons.1 h
    unfold insS
    split
    · rename_i hlt
      refine List.pairwise_cons.2 ⟨fun y hy => ?_, h⟩
      rcases List.mem_cons.1 hy with rfl | hy
      · exact hlt
      · have := h1 y hy
        omega
    · rename_i hlt
      have := hx z List.mem_cons_self
      refine List.pairwise_cons.2 ⟨fun y hy => ?_, sort_ins h2 (fun y hy => hx y (List.mem_cons_of_mem _ hy))⟩
      rcases mem_ins.1 hy with rfl | hy
      · omega
      · exact h1 y hy
theorem sort_put {l : List Sub} (h : SortS l) (x : Sub) : SortS (putS l x) := sort_ins (sort_out h x.id) (fun y hy => (mem_out.1 hy).2)
theorem ins_len (x : Sub) : ∀ l : List Sub, (insS x l).length = l.length + 1
  | [] => rfl
  | z :: l => by
    unfold insS
    split
    · rfl
    · rw [List.length_cons, ins_len x l, List.length_cons]
theorem out_len (l : List Sub) (id : Int) : (outS l id).length ≤ l.length := List.length_filter_le _ _
theorem put_len (l : List Sub) (x : Sub) : (putS l x).length ≤ l.length + 1 := by
  unfold putS
  rw [ins_len]
  have := out_len l x.id
  omega
theorem ack_all {next : Int} : ∀ {a : Int} {l : List Int}, ackB next a l = true → ∀ y ∈ l, a < y ∧ y < next
  | _, [], _, y, hy => by cases hy
  | a, n :: l, h, y, hy => by
    simp only [ackB, Bool.and_eq_true, decide_eq_true_eq] at h
    rcases List.mem_cons.1 hy with rfl | hy
    · exact h.1
    · have := ack_all h.2 y hy
      omega
end Go.Ts
