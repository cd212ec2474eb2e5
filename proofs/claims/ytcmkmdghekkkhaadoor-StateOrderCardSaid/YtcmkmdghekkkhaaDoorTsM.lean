/-
  Plain mathematics of states, without any program: subscriptions, messages, what may be, what is put.
-/
import Derived.Test.YtcmkmdghekkkhaaDoorTpM
import Derived.Test.YtcmkmdghekkkhaaDoorTpPairs
set_option linter.unusedVariables false
namespace Go.Ts
open Go Go.Tp
structure Msg where
  seq : Int
  body : List UInt8
  attr : List UInt8
  tries : Int
  til : Int
  dead : Bool
  why : List UInt8
  prio : Int
deriving DecidableEq
structure Sub where
  id : Int
  name : List UInt8
  topic : List UInt8
  want : List UInt8
  lease : Int
  most : Int
  floor : Int
  acks : List Int
  queue : List Msg
  note : List UInt8
deriving DecidableEq
structure St where
  clock : Int
  next : Int
  last : Int
  subs : List Sub
deriving DecidableEq
def w64 (n : Int) : Int := RowKit.wrap64 n
def nameB (l : List UInt8) : Bool := decide (l.length ≤ 20) && rightB l && !(l.contains 47)
/-- May a message be? -/
def msgB (m : Msg) (lease most clock : Int) : Bool :=
  if 60 < m.body.length || !attrsB m.attr || decide (m.prio < 0) || decide (9 < m.prio) then false
  else if m.dead then decide (m.til = 0) && (decide (m.why = [110, 97, 99, 107]) || decide (m.why = [116, 105, 109, 101])) && decide (m.tries = most)
  else if m.why ≠ [] then false
  else if m.til = 0 then decide (0 ≤ m.tries) && decide (m.tries < most)
  else decide (1 ≤ m.tries) && decide (m.tries ≤ most) && decide (clock < m.til) && decide (m.til ≤ w64 (clock + lease))
def fieldsB (x : Sub) (next : Int) : Bool :=
  decide (1 ≤ x.id) && decide (x.id ≤ 1073741824) && nameB x.name && patB x.topic && attrsB x.want && decide (1 ≤ x.lease) && decide (x.lease ≤ 1000) && decide (1 ≤ x.most) && decide (x.most ≤ 9) && decide (0 ≤ x.floor) && decide (x.floor < next) && decide (x.acks.length ≤ 20) && decide (x.note.length ≤ 30) && decide (x.queue.length ≤ 30)
/-- Rising, above one, below another. -/
def ackB (next : Int) : Int → List Int → Bool
  | _, [] => true
  | last, n :: l => decide (last < n) && decide (n < next) && ackB next n l
def queB (x : Sub) (clock next : Int) : Int → List Msg → Bool
  | _, [] => true
  | last, m :: l => decide (last < m.seq) && decide (m.seq < next) && !(x.acks.contains m.seq) && msgB m x.lease x.most clock && queB x clock next m.seq l
def goodB (x : Sub) (clock next : Int) : Bool := fieldsB x next && ackB next x.floor x.acks && queB x clock next x.floor x.queue
def subsB (s : St) : Int → List Sub → Bool
  | _, [] => true
  | last, x :: l => decide (last < x.id) && decide (x.id ≤ s.last) && goodB x s.clock s.next && subsB s x.id l
def stB (s : St) : Bool := decide (0 ≤ s.clock) && decide (s.clock ≤ 4503599627370496) && decide (1 ≤ s.next) && decide (s.next ≤ 1073741824) && decide (0 ≤ s.last) && decide (s.last ≤ 1073741824) && decide (s.subs.length ≤ 20) && subsB s 0 s.subs
def noSub : Sub := ⟨0, [], [], [], 0, 0, 0, [], [], []⟩
def findS (l : List Sub) (id : Int) : Option Sub := l.find? fun x => x.id == id
def outS (l : List Sub) (id : Int) : List Sub := l.filter fun x => !(x.id == id)
/-- Ahead of the first one above. -/
def insS (x : Sub) : List Sub → List Sub
  | [] => [x]
  | y :: l => if x.id < y.id then x :: y :: l else y :: insS x l
def putS (l : List Sub) (x : Sub) : List Sub := insS x (outS l x.id)
def floorS (x : Sub) (next : Int) : Int := max x.floor (w64 ((match x.queue with | [] => next | m :: _ => m.seq) - 1))
def settleS (x : Sub) (next : Int) : Sub := { x with floor := floorS x next, acks := x.acks.filter fun n => decide (floorS x next < n) }
end Go.Ts
