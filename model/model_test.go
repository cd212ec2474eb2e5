package model_test

import (
	"math"
	"reflect"
	"slices"
	"testing"

	"roadstead/api"
	"roadstead/model"
	"roadstead/state"
)

// sub is a subscription that may be at the clock 100, ahead of 50: it has acknowledgements, and a message of each sort.
func sub(id int) api.Sub {
	return api.Sub{
		ID: id, Name: "orders7", Topic: "a/+/#", Want: "k=v", Lease: 10, Most: 3, Floor: 20, Acks: []int{22, 25, 40}, Note: "A note.",
		Queue: []api.Message{
			{Seq: 21, Body: "waits", Attr: "k=v", Prio: 4},
			{Seq: 23, Body: "waits again", Attr: "k=v", Tries: 2, Prio: 4},
			{Seq: 24, Body: "leased", Attr: "a=1,k=v", Tries: 1, Until: 101},
			{Seq: 26, Tries: 3, Until: 110, Prio: 4},
			{Seq: 27, Body: "waits, too", Prio: 9},
			{Seq: 28, Body: "not at all"},
			{Seq: 41, Body: "dead", Tries: 3, Dead: true, Why: "nack", Prio: 9},
			{Seq: 49, Tries: 3, Dead: true, Why: "time"},
		},
	}
}

// full is a state that may be, with subscriptions of some IDs.
func full(ids ...int) api.State {
	s := api.State{Clock: 100, Next: 50, Last: 30}
	for _, id := range ids {
		s.Subs = append(s.Subs, sub(id))
	}
	return s
}

// with is a copy of a state in which some subscription is another one.
func with(s api.State, id int, set func(x *api.Sub)) api.State {
	s = copied(s)
	for i := range s.Subs {
		if s.Subs[i].ID == id {
			set(&s.Subs[i])
		}
	}
	return s
}

// messages are some that wait, of numbers in a row.
func messages(first, n int) []api.Message {
	var l []api.Message
	for i := range n {
		l = append(l, api.Message{Seq: first + i, Body: "b"})
	}
	return l
}

// edges are numbers that are next to some, and those at the ends.
func edges(l ...int) []int {
	all := []int{math.MinInt, math.MinInt + 1, math.MaxInt - 1, math.MaxInt}
	for _, n := range l {
		all = append(all, n-1, n, n+1)
	}
	return all
}

// equal says whether two states, replies or lists of replies are the same; lists that are nil and empty ones are.
func equal(a, b any) bool { return reflect.DeepEqual(plain(a), plain(b)) }

// plain is a thing in which lists without things are nil.
func plain(a any) any {
	switch x := a.(type) {
	case api.State:
		return copied(x)
	case api.Reply:
		x.List, x.Data = list(x.List), list(x.Data)
		return x
	case []api.Reply:
		var l []api.Reply
		for _, r := range x {
			l = append(l, plain(r).(api.Reply))
		}
		return l
	}
	panic("no such thing")
}

// copied is a state in other memory; lists without things are nil.
func copied(s api.State) api.State {
	s.Subs = list(s.Subs)
	for i, x := range s.Subs {
		s.Subs[i].Acks, s.Subs[i].Queue = list(x.Acks), list(x.Queue)
	}
	return s
}

// list is a list in other memory; nil, if there is nothing in it.
func list[T any](l []T) []T { return append([]T(nil), l...) }

// does asks an op of a state that may be, and holds what follows against that and the reply that are wanted.
func does(t *testing.T, s api.State, o api.Op, want api.State, reply api.Reply) {
	t.Helper()
	if !state.Right(s) {
		t.Fatalf("no state that may be: %+v", s)
	}
	was := copied(s)
	got, r := model.Do(s, o)
	if !equal(got, want) || !equal(r, reply) {
		t.Errorf("%+v:\n%+v\n%+v, not\n%+v\n%+v", o, got, r, want, reply)
	}
	if !equal(s, was) || !state.Right(got) {
		t.Errorf("%+v: of %+v, that was %+v: %+v", o, s, was, got)
	}
}

// refuses asks for an error, and for nothing else.
func refuses(t *testing.T, s api.State, o api.Op, e api.Errno) {
	t.Helper()
	does(t, s, o, s, api.Reply{Err: e})
}

func TestNew(t *testing.T) {
	if s := model.New(); !equal(s, api.State{Next: 1}) || !state.Right(s) {
		t.Errorf("New: %+v", s)
	}
	s := model.New()
	s.Clock, s.Next, s.Subs = 5, 6, append(s.Subs, sub(1))
	if !equal(model.New(), api.State{Next: 1}) {
		t.Error("New is kept")
	}
}

// The chapter's own, and the document's: what is fetched is not fetched again till its lease is over.
func TestExamples(t *testing.T) {
	s, r := model.Do(model.New(), api.Op{Kind: api.Subscribe, Name: "n", Topic: "#", N: 5, Seq: 2})
	if r.N != 1 || r.Err != api.OK {
		t.Errorf("Subscribe: %+v", r)
	}
	s, r = model.Do(s, api.Op{Kind: api.Publish, Topic: "a"})
	if r.N != 1 || r.Err != api.OK {
		t.Errorf("Publish: %+v", r)
	}
	s, l := model.Run(s, []api.Op{
		{Kind: api.Fetch, Sub: 1, N: 5},
		{Kind: api.Fetch, Sub: 1, N: 5},
		{Kind: api.Tick, N: 4},
		{Kind: api.Fetch, Sub: 1, N: 5},
		{Kind: api.Tick, N: 1},
		{Kind: api.Fetch, Sub: 1, N: 5},
	})
	one := api.Reply{N: 1, List: []api.Message{{Seq: 1, Tries: 1, Until: 5}}}
	two := api.Reply{N: 1, List: []api.Message{{Seq: 1, Tries: 2, Until: 10}}}
	if !equal(l, []api.Reply{one, {}, {}, {}, {}, two}) || s.Clock != 5 {
		t.Errorf("Run: %+v", l)
	}
}

// Kinds are 1 to 12; those of the layers above are none.
func TestKinds(t *testing.T) {
	for _, kind := range append(edges(0, 13, 14, 15, 16, 17, 18, 19, 20, 100, 256, 257, 1<<16+1, 1<<32+1), -12) {
		if kind >= 1 && kind <= 12 {
			continue
		}
		refuses(t, full(2, 5), api.Op{Kind: kind, Sub: 5, N: 1, Seq: 24, Name: "n", Topic: "a"}, api.ErrKind)
		refuses(t, model.New(), api.Op{Kind: kind}, api.ErrKind)
	}
}

// Run is Do of each, whatever some of them tell.
func TestRun(t *testing.T) {
	l := []api.Op{
		{Kind: api.Tick, N: 3}, {Kind: 99}, {Kind: api.Publish, Topic: "a/b/c", Attr: "k=v"}, {Kind: api.Ack, Sub: 2, Seq: 24},
		{Kind: api.Nack, Sub: 5, Seq: 24}, {Kind: api.Nack, Sub: 5, Seq: 26}, {Kind: api.Fetch, Sub: 5, N: 3}, {Kind: api.Unsubscribe, Sub: 2}, {Kind: api.Look},
	}
	for n := range len(l) + 1 {
		want := full(2, 5)
		var replies []api.Reply
		for _, o := range l[:n] {
			next, r := model.Do(want, o)
			want, replies = next, append(replies, r)
		}
		got, all := model.Run(full(2, 5), l[:n])
		if !equal(got, want) || !equal(all, replies) || len(all) != n {
			t.Errorf("Run of %d: %+v, %+v", n, got, all)
		}
	}
	if s, all := model.Run(full(2, 5), nil); !equal(s, full(2, 5)) || len(all) != 0 {
		t.Errorf("Run of nothing: %+v, %+v", s, all)
	}
	if _, all := model.Run(model.New(), l); all[1].Err != api.ErrKind || all[3].Err != api.ErrNone || all[2].N != 1 {
		t.Errorf("Run of no subscriptions: %+v", all)
	}
}

// ops are some of each kind, those that tell an error, too.
func ops() []api.Op {
	l := []api.Op{
		{Kind: api.Subscribe, Name: "n", Topic: "#", N: 5, Seq: 2},
		{Kind: api.Publish, Topic: "a/b/c", Body: "b", Attr: "k=v"},
		{Kind: api.Publish, Topic: "z"},
		{Kind: api.Tick},
		{Kind: api.Tick, N: 5},
		{Kind: api.Look},
		{Kind: 99},
	}
	for _, id := range []int{2, 5, 7, 9} {
		l = append(l,
			api.Op{Kind: api.Unsubscribe, Sub: id},
			api.Op{Kind: api.Fetch, Sub: id, N: 2},
			api.Op{Kind: api.Fetch, Sub: id, N: 30},
			api.Op{Kind: api.Ack, Sub: id, Seq: 24},
			api.Op{Kind: api.Ack, Sub: id, Seq: 21},
			api.Op{Kind: api.AckTo, Sub: id, Seq: 20},
			api.Op{Kind: api.AckTo, Sub: id, Seq: 26},
			api.Op{Kind: api.AckTo, Sub: id, Seq: 49},
			api.Op{Kind: api.Nack, Sub: id, Seq: 26},
			api.Op{Kind: api.Dead, Sub: id},
			api.Op{Kind: api.Purge, Sub: id},
			api.Op{Kind: api.Annotate, Sub: id, Name: "m"},
		)
	}
	return l
}

// last is what lies behind the lists' lengths in roomy.
const last = 1000

// roomy is a state whose lists have something behind their length, in their memory.
func roomy() api.State {
	s := full(2, 5, 9, 11)
	for i := range s.Subs {
		x := &s.Subs[i]
		x.Acks = append(slices.Grow(x.Acks, 5), last, last)[:len(x.Acks)]
		x.Queue = append(slices.Grow(x.Queue, 5), api.Message{Seq: last}, api.Message{Seq: last})[:len(x.Queue)]
	}
	s.Subs = s.Subs[:3]
	return s
}

// untouched says whether roomy is as it was, behind its lists' lengths, too.
func untouched(s api.State) bool {
	subs := s.Subs[:4]
	ok := equal(s, full(2, 5, 9)) && subs[3].ID == 11
	for _, x := range subs {
		n, k := len(x.Acks), len(x.Queue)
		acks, queue := x.Acks[:n+2], x.Queue[:k+2]
		ok = ok && acks[n] == last && acks[n+1] == last && queue[k].Seq == last && queue[k+1].Seq == last
	}
	return ok
}

// blank says whether there is nothing but noughts behind the lists' lengths of a state, and of replies.
func blank(s api.State, l []api.Reply) bool {
	ok := true
	nothing := func(v reflect.Value) {
		all := v.Slice(0, v.Cap())
		for i := v.Len(); i < v.Cap(); i++ {
			ok = ok && all.Index(i).IsZero()
		}
	}
	nothing(reflect.ValueOf(s.Subs))
	for _, x := range s.Subs {
		nothing(reflect.ValueOf(x.Acks))
		nothing(reflect.ValueOf(x.Queue))
	}
	for _, r := range l {
		nothing(reflect.ValueOf(r.List))
	}
	return ok
}

// spoil overwrites all lists of a state, and what lies behind them.
func spoil(s api.State) {
	subs := s.Subs[:cap(s.Subs)]
	for i, x := range subs {
		acks := x.Acks[:cap(x.Acks)]
		for j := range acks {
			acks[j] = -7
		}
		spoilList(x.Queue)
		subs[i] = api.Sub{ID: -7, Name: "spoilt"}
	}
}

// spoilList overwrites messages, and what lies behind them.
func spoilList(l []api.Message) {
	l = l[:cap(l)]
	for i := range l {
		l[i] = api.Message{Seq: -7, Body: "spoilt"}
	}
}

// What is handed in is neither changed nor kept; what comes out is new memory, and has nothing of what lies behind a length.
func TestMemory(t *testing.T) {
	for _, o := range ops() {
		for name, call := range map[string]func(s api.State) (api.State, []api.Reply){
			"Do":       func(s api.State) (api.State, []api.Reply) { n, r := model.Do(s, o); return n, []api.Reply{r} },
			"Run":      func(s api.State) (api.State, []api.Reply) { return model.Run(s, []api.Op{o}) },
			"Run none": func(s api.State) (api.State, []api.Reply) { return model.Run(s, []api.Op{o}[:0]) },
			"Run all": func(s api.State) (api.State, []api.Reply) {
				l := ops()
				n, replies := model.Run(s, l)
				if !reflect.DeepEqual(l, ops()) {
					t.Error("Run changes what is asked")
				}
				return n, replies
			},
		} {
			want, replies := call(full(2, 5, 9))
			s := roomy()
			got, all := call(s)
			if !equal(got, want) || !equal(all, replies) || !untouched(s) || !blank(got, all) {
				t.Fatalf("%s of %+v: of memory behind a length", name, o)
			}
			other, others := call(s)
			spoil(other)
			if !equal(others, replies) {
				t.Fatalf("%s of %+v: the state has the memory of a reply", name, o)
			}
			for i := range others {
				spoilList(others[i].List)
				if !equal(others[i+1:], replies[i+1:]) {
					t.Fatalf("%s of %+v: a reply has the memory of another one", name, o)
				}
			}
			if !untouched(s) || !equal(got, want) || !equal(all, replies) {
				t.Fatalf("%s of %+v: what comes out is of what was handed in, or kept", name, o)
			}
			spoil(s)
			if !equal(got, want) || !equal(all, replies) {
				t.Fatalf("%s of %+v: what is handed in is kept", name, o)
			}
		}
	}
}

// No list of a state that comes out has the memory of another one.
func TestMemoryApart(t *testing.T) {
	for _, o := range ops() {
		s, r := model.Do(full(2, 5, 9), o)
		for i := range s.Subs {
			others := copied(s)
			acks := s.Subs[i].Acks
			acks = acks[:cap(acks)]
			for j := range acks {
				acks[j] = -7
			}
			spoilList(s.Subs[i].Queue)
			others.Subs[i].Acks, others.Subs[i].Queue = s.Subs[i].Acks, s.Subs[i].Queue
			if !equal(s, others) {
				t.Fatalf("%+v: lists share memory", o)
			}
		}
		if slices.ContainsFunc(r.List, func(m api.Message) bool { return m.Seq < 0 }) {
			t.Fatalf("%+v: the list of the reply is the state's", o)
		}
	}
}

// Of states that may not be, too, there is an end.
func TestWild(t *testing.T) {
	numbers := []int{math.MinInt, -1, 0, 1, math.MaxInt}
	for _, n := range numbers {
		for _, k := range numbers {
			wild := api.Sub{ID: n, Name: "\xff", Topic: "##", Want: "=", Lease: k, Most: k, Floor: n, Acks: []int{k, n, k}}
			for i := range 40 {
				wild.Queue = append(wild.Queue, api.Message{Seq: numbers[i%5], Tries: numbers[i/5%5], Until: numbers[i/3%5], Dead: i%2 == 0, Why: "?", Prio: numbers[i/2%5]})
			}
			s := api.State{Clock: n, Next: k, Last: n}
			for range 30 {
				s.Subs = append(s.Subs, wild)
			}
			bare := api.State{Clock: k, Next: n, Last: k, Subs: []api.Sub{{ID: n}, {ID: k, Topic: "#"}}}
			for kind := -1; kind <= 21; kind++ {
				for _, seq := range numbers {
					o := api.Op{Kind: kind, Sub: n, N: max(k, 1) % 1000, Seq: seq, Name: "n", Topic: "a"}
					model.Do(s, o)
					model.Do(bare, o)
					o.N, o.Sub = k, k
					model.Run(s, []api.Op{o, o})
				}
			}
		}
	}
}
