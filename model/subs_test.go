package model_test

import (
	"strings"
	"testing"

	"roadstead/api"
	"roadstead/model"
	"roadstead/state"
)

// subscribe is an op that subscribes, with something set in another way, if there is a function that does so.
func subscribe(set func(o *api.Op)) api.Op {
	o := api.Op{Kind: api.Subscribe, Name: "n", Topic: "a/#", Want: "k=v", N: 5, Seq: 2}
	if set != nil {
		set(&o)
	}
	return o
}

// crowd is a state of so many subscriptions, that were the last ones.
func crowd(n int, last int) api.State {
	s := api.State{Next: 1, Last: last}
	for i := range n {
		s.Subs = append(s.Subs, api.Sub{ID: last - n + 1 + i, Name: "c", Topic: "#", Lease: 1, Most: 1})
	}
	return s
}

func TestSubscribe(t *testing.T) {
	want := full(2, 5)
	want.Last = 31
	want.Subs = append(want.Subs, api.Sub{ID: 31, Name: "n", Topic: "a/#", Want: "k=v", Lease: 5, Most: 2, Floor: 49})
	does(t, full(2, 5), subscribe(nil), want, api.Reply{N: 31})

	first := api.State{Next: 1, Last: 1, Subs: []api.Sub{{ID: 1, Name: "n", Topic: "a/#", Want: "k=v", Lease: 5, Most: 2}}}
	does(t, model.New(), subscribe(nil), first, api.Reply{N: 1})
	// What the kind does not ask for counts for nothing.
	does(t, model.New(), subscribe(func(o *api.Op) { o.Sub, o.Body, o.Attr, o.Data = 7, strings.Repeat("b", 99), "?", []byte("d") }), first, api.Reply{N: 1})
	// Names may be the same.
	second := api.State{Next: 1, Last: 2, Subs: []api.Sub{first.Subs[0], first.Subs[0]}}
	second.Subs[1].ID = 2
	does(t, first, subscribe(nil), second, api.Reply{N: 2})
	// The floor is right below the next message, up to the last one.
	for _, next := range []int{1, 2, 3, 1<<30 - 1, 1 << 30} {
		s := api.State{Clock: 9, Next: next}
		want := s
		want.Last, want.Subs = 1, []api.Sub{first.Subs[0]}
		want.Subs[0].Floor = next - 1
		does(t, s, subscribe(nil), want, api.Reply{N: 1})
	}
}

// accepts says whether an op is one that is answered by a new subscription, which has what it asks for, or else by an error.
func accepts(t *testing.T, o api.Op, ok bool, e api.Errno) {
	t.Helper()
	if !ok {
		refuses(t, full(2), o, e)
		return
	}
	want := full(2)
	want.Last = 31
	want.Subs = append(want.Subs, api.Sub{ID: 31, Name: o.Name, Topic: o.Topic, Want: o.Want, Lease: o.N, Most: o.Seq, Floor: 49})
	does(t, full(2), o, want, api.Reply{N: 31})
}

func TestSubscribeTexts(t *testing.T) {
	for n := range 40 {
		accepts(t, subscribe(func(o *api.Op) { o.Name = strings.Repeat("z", n) }), n >= 1 && n <= 20, api.ErrName)
		accepts(t, subscribe(func(o *api.Op) { o.Topic = strings.Repeat("z", n) }), n >= 1 && n <= 30, api.ErrTopic)
		accepts(t, subscribe(func(o *api.Op) { o.Want = "z=" + strings.Repeat("z", n) }), n >= 1 && n <= 28, api.ErrWant)
	}
	for b := range 256 {
		sign := string([]byte{byte(b)})
		ok := b >= 'a' && b <= 'z' || b >= '0' && b <= '9'
		accepts(t, subscribe(func(o *api.Op) { o.Name = sign }), ok, api.ErrName)
		accepts(t, subscribe(func(o *api.Op) { o.Name = "a" + sign + "b" }), ok, api.ErrName)
	}
	for _, s := range []string{"a/b", "+", "#", "k=v", "ä", "\u0430", "\uff41", "\u0661", "a b", "A", " a", "a\n"} {
		accepts(t, subscribe(func(o *api.Op) { o.Name = s }), false, api.ErrName)
	}
	for _, s := range []string{"a", "a/b", "+", "#", "a/+/#", "+/+", strings.Repeat("+/", 14) + "#"} {
		accepts(t, subscribe(func(o *api.Op) { o.Topic = s }), true, api.OK)
	}
	for _, s := range []string{"", "/", "a/", "/a", "#/a", "a#", "A", "a b", "*", "ä", strings.Repeat("+/", 15) + "#"} {
		accepts(t, subscribe(func(o *api.Op) { o.Topic = s }), false, api.ErrTopic)
	}
	for _, s := range []string{"", "a=1", "a=1,b=2", "0=0"} {
		accepts(t, subscribe(func(o *api.Op) { o.Want = s }), true, api.OK)
	}
	for _, s := range []string{"a", "a=", "=1", "b=2,a=1", "a=1,a=2", "A=1", "a=1,", " ", "a=+"} {
		accepts(t, subscribe(func(o *api.Op) { o.Want = s }), false, api.ErrWant)
	}
}

func TestSubscribeNumbers(t *testing.T) {
	for _, n := range edges(0, 1, 9, 10, 30, 1000, 1<<30, 1<<32) {
		accepts(t, subscribe(func(o *api.Op) { o.N = n }), n >= 1 && n <= 1000, api.ErrArg)
		accepts(t, subscribe(func(o *api.Op) { o.Seq = n }), n >= 1 && n <= 9, api.ErrArg)
	}
}

// There are at most twenty, and IDs up to 2^30; the ID of one that is gone comes not again.
func TestSubscribeMost(t *testing.T) {
	for n := range 21 {
		s, r := model.Do(crowd(n, 50), subscribe(nil))
		if n == 20 {
			refuses(t, crowd(n, 50), subscribe(nil), api.ErrQuota)
		} else if r.Err != api.OK || r.N != 51 || len(s.Subs) != n+1 || s.Subs[n].ID != 51 || !state.Right(s) {
			t.Errorf("of %d: %+v", n, r)
		}
	}
	for _, last := range []int{1<<30 - 2, 1<<30 - 1, 1 << 30} {
		s, r := model.Do(crowd(3, last), subscribe(nil))
		if last == 1<<30 {
			refuses(t, crowd(3, last), subscribe(nil), api.ErrOver)
			refuses(t, crowd(0, last), subscribe(nil), api.ErrOver)
		} else if r.N != last+1 || s.Last != last+1 || len(s.Subs) != 4 || !state.Right(s) {
			t.Errorf("behind %d: %+v", last, r)
		}
	}
	s, _ := model.Run(model.New(), []api.Op{subscribe(nil), subscribe(nil), {Kind: api.Unsubscribe, Sub: 2}})
	if s, r := model.Do(s, subscribe(nil)); r.N != 3 || len(s.Subs) != 2 || s.Subs[1].ID != 3 {
		t.Errorf("behind one that is gone: %+v", r)
	}
}

// The first error that the chapter names is the answer, whatever else is wrong.
func TestSubscribeErrors(t *testing.T) {
	o := api.Op{Kind: api.Subscribe, Name: "N", Topic: "#/a", Want: "w"}
	s := crowd(20, 1<<30)
	refuses(t, s, o, api.ErrName)
	o.Name = "n"
	refuses(t, s, o, api.ErrTopic)
	o.Topic = "#"
	refuses(t, s, o, api.ErrWant)
	o.Want = ""
	refuses(t, s, o, api.ErrArg)
	o.N = 1
	refuses(t, s, o, api.ErrArg)
	o.N, o.Seq = 1001, 1
	refuses(t, s, o, api.ErrArg)
	o.N = 1
	refuses(t, s, o, api.ErrQuota)
	refuses(t, crowd(19, 1<<30), o, api.ErrOver)
	refuses(t, crowd(20, 1<<30-1), o, api.ErrQuota)
}

func TestUnsubscribe(t *testing.T) {
	does(t, full(2, 5, 9), api.Op{Kind: api.Unsubscribe, Sub: 2, N: -1, Name: "?"}, full(5, 9), api.Reply{})
	does(t, full(2, 5, 9), api.Op{Kind: api.Unsubscribe, Sub: 5}, full(2, 9), api.Reply{})
	does(t, full(2, 5, 9), api.Op{Kind: api.Unsubscribe, Sub: 9}, full(2, 5), api.Reply{})
	does(t, full(5), api.Op{Kind: api.Unsubscribe, Sub: 5}, full(), api.Reply{})
}

// No subscription is none, whatever else is asked: of each kind that asks for one.
func TestNone(t *testing.T) {
	for _, kind := range []int{api.Unsubscribe, api.Fetch, api.Ack, api.AckTo, api.Nack, api.Dead, api.Purge, api.Annotate} {
		for _, id := range edges(0, 2, 5, 9, 31, 1<<30, 1<<32+2) {
			if id == 2 || id == 5 || id == 9 {
				continue
			}
			for _, o := range []api.Op{{N: 1, Seq: 24}, {N: 0, Seq: 21}, {N: 31, Seq: 99, Name: strings.Repeat("n", 31)}, {N: -1, Seq: 50}} {
				o.Kind, o.Sub = kind, id
				refuses(t, full(2, 5, 9), o, api.ErrNone)
				refuses(t, model.New(), o, api.ErrNone)
			}
		}
	}
}

func TestAnnotate(t *testing.T) {
	for n := range 40 {
		for _, sign := range []string{"n", "\x00", "\xff", " "} {
			o := api.Op{Kind: api.Annotate, Sub: 5, N: -1, Seq: -1, Name: strings.Repeat(sign, n)}
			if n > 30 {
				refuses(t, full(2, 5, 9), o, api.ErrLong)
				continue
			}
			does(t, full(2, 5, 9), o, with(full(2, 5, 9), 5, func(x *api.Sub) { x.Note = o.Name }), api.Reply{})
		}
	}
	// Bytes count, not signs.
	refuses(t, full(2), api.Op{Kind: api.Annotate, Sub: 2, Name: strings.Repeat("ä", 16)}, api.ErrLong)
	does(t, full(2), api.Op{Kind: api.Annotate, Sub: 2, Name: strings.Repeat("ä", 15)}, with(full(2), 2, func(x *api.Sub) { x.Note = strings.Repeat("ä", 15) }), api.Reply{})
}

func TestLook(t *testing.T) {
	for n := range 21 {
		does(t, crowd(n, 50), api.Op{Kind: api.Look, Sub: -1, N: -1, Seq: -1, Name: "?"}, crowd(n, 50), api.Reply{N: n})
	}
	does(t, full(2, 5, 9), api.Op{Kind: api.Look}, full(2, 5, 9), api.Reply{N: 3})
}
