package model_test

import (
	"slices"
	"strings"
	"testing"

	"roadstead/api"
	"roadstead/model"
)

// publish is an op that publishes, with something set in another way, if there is a function that does so.
func publish(set func(o *api.Op)) api.Op {
	o := api.Op{Kind: api.Publish, Topic: "a/b/c", Body: "text", Attr: "k=v", N: 3}
	if set != nil {
		set(&o)
	}
	return o
}

// queued is a state with a message more behind the queues of some.
func queued(s api.State, m api.Message, ids ...int) api.State {
	m.Seq = s.Next
	for _, id := range ids {
		s = with(s, id, func(x *api.Sub) { x.Queue = append(x.Queue, m) })
	}
	s.Next++
	return s
}

func TestPublish(t *testing.T) {
	m := api.Message{Body: "text", Attr: "k=v", Prio: 3}
	does(t, full(2, 5), publish(nil), queued(full(2, 5), m, 2, 5), api.Reply{N: 50})
	does(t, full(2, 5), publish(func(o *api.Op) { o.Sub, o.Seq, o.Name, o.Want, o.Data = -1, -1, "?", "?", []byte("d") }), queued(full(2, 5), m, 2, 5), api.Reply{N: 50})
	// No one has it: its number is gone all the same.
	does(t, full(2, 5), publish(func(o *api.Op) { o.Topic = "a/b" }), queued(full(2, 5), m), api.Reply{N: 50})
	does(t, model.New(), publish(nil), api.State{Next: 2}, api.Reply{N: 1})
	// Of each: does its pattern have the topic, and has what stands beside all that is wanted?
	mixed := full(1, 2, 3, 4, 5, 6)
	for i, p := range []string{"#", "a/b/c", "a/b/+", "a/b", "b/#", "+/+/+"} {
		mixed = with(mixed, i+1, func(x *api.Sub) { x.Topic = p })
	}
	mixed = with(mixed, 1, func(x *api.Sub) { x.Want = "" })
	mixed = with(mixed, 2, func(x *api.Sub) { x.Want = "a=1" })
	for _, c := range []struct {
		topic, attr string
		ids         []int
	}{
		{"a/b/c", "k=v", []int{1, 3, 6}},
		{"a/b/c", "", []int{1}},
		{"a/b/c", "k=w", []int{1}},
		{"a/b/c", "a=1", []int{1, 2}},
		{"a/b/c", "a=1,k=v", []int{1, 2, 3, 6}},
		{"a/b", "a=1,k=v", []int{1, 4}},
		{"b/b", "a=1,k=v", []int{1, 5}},
		{"b/b/b", "a=1,k=v", []int{1, 5, 6}},
		{"c", "a=1,k=v", []int{1}},
	} {
		o := publish(func(o *api.Op) { o.Topic, o.Attr = c.topic, c.attr })
		does(t, mixed, o, queued(mixed, api.Message{Body: "text", Attr: c.attr, Prio: 3}, c.ids...), api.Reply{N: 50})
	}
}

// sends asks for an answer by one message more, or else by an error.
func sends(t *testing.T, o api.Op, ok bool, e api.Errno) {
	t.Helper()
	s := with(full(2, 5), 2, func(x *api.Sub) { x.Topic, x.Want = "#", "" })
	if !ok {
		refuses(t, s, o, e)
		return
	}
	var ids []int
	if strings.HasPrefix(o.Topic, "a/b/") && o.Attr == "k=v" {
		ids = []int{5}
	}
	does(t, s, o, queued(s, api.Message{Body: o.Body, Attr: o.Attr, Prio: o.N}, append(ids, 2)...), api.Reply{N: 50})
}

func TestPublishTexts(t *testing.T) {
	for n := range 70 {
		sends(t, publish(func(o *api.Op) { o.Topic = strings.Repeat("z", n) }), n >= 1 && n <= 30, api.ErrTopic)
		sends(t, publish(func(o *api.Op) { o.Body = strings.Repeat("b", n) }), n <= 60, api.ErrLong)
		sends(t, publish(func(o *api.Op) { o.Body = strings.Repeat("\xff", n) }), n <= 60, api.ErrLong)
		sends(t, publish(func(o *api.Op) { o.Body = strings.Repeat("ä", n) }), n <= 30, api.ErrLong) // bytes count, not signs
		sends(t, publish(func(o *api.Op) { o.Attr = "z=" + strings.Repeat("z", n) }), n >= 1 && n <= 28, api.ErrWant)
	}
	for _, s := range []string{"a", "a/b", "a/b/c/d", "0/9"} {
		sends(t, publish(func(o *api.Op) { o.Topic = s }), true, api.OK)
	}
	for _, s := range []string{"", "/", "a/", "/a", "+", "#", "a/+", "a/#", "A", "a b", "ä"} {
		sends(t, publish(func(o *api.Op) { o.Topic = s }), false, api.ErrTopic)
	}
	for _, s := range []string{"", "a=1", "a=1,b=2"} {
		sends(t, publish(func(o *api.Op) { o.Attr = s }), true, api.OK)
	}
	for _, s := range []string{"a", "a=", "b=2,a=1", "a=1,a=1", "A=1", "a=1,", " "} {
		sends(t, publish(func(o *api.Op) { o.Attr = s }), false, api.ErrWant)
	}
	for _, n := range edges(0, 9, 30, 1<<32) {
		sends(t, publish(func(o *api.Op) { o.N = n }), n >= 0 && n <= 9, api.ErrArg)
	}
}

// There is a last number, and room for thirty in each queue that has the message; of the others none is asked.
func TestPublishMost(t *testing.T) {
	for _, next := range []int{1<<30 - 2, 1<<30 - 1} {
		s := full(2, 5)
		s.Next = next
		does(t, s, publish(nil), queued(s, api.Message{Body: "text", Attr: "k=v", Prio: 3}, 2, 5), api.Reply{N: next})
	}
	s := full(2, 5)
	s.Next = 1 << 30
	refuses(t, s, publish(nil), api.ErrOver)
	refuses(t, api.State{Next: 1 << 30}, publish(nil), api.ErrOver)

	m := api.Message{Body: "text", Attr: "k=v", Prio: 3}
	for n := range 31 {
		for _, id := range []int{2, 5, 9} {
			s := with(full(2, 5, 9), id, func(x *api.Sub) { x.Acks, x.Queue = nil, messages(20, 30)[30-n:] })
			s = with(s, id, func(x *api.Sub) { x.Floor = 19 })
			others := slices.DeleteFunc([]int{2, 5, 9}, func(i int) bool { return i == id })
			if n == 30 {
				refuses(t, s, publish(nil), api.ErrQuota)
			} else {
				does(t, s, publish(nil), queued(s, m, 2, 5, 9), api.Reply{N: 50})
			}
			s = with(s, id, func(x *api.Sub) { x.Topic = "z" })
			does(t, s, publish(nil), queued(s, m, others...), api.Reply{N: 50})
			s = with(s, id, func(x *api.Sub) { x.Topic, x.Want = "#", "k=w" })
			does(t, s, publish(nil), queued(s, m, others...), api.Reply{N: 50})
		}
	}
	// Those that are leased, or dead, have their room, too.
	s = with(full(2), 2, func(x *api.Sub) {
		x.Acks, x.Queue, x.Floor = nil, messages(20, 30), 19
		for i := range x.Queue {
			x.Queue[i].Tries, x.Queue[i].Dead, x.Queue[i].Why = 3, true, "nack"
		}
		x.Queue[0] = api.Message{Seq: 20, Tries: 1, Until: 101}
	})
	refuses(t, s, publish(nil), api.ErrQuota)
}

// The first error that the chapter names is the answer, whatever else is wrong.
func TestPublishErrors(t *testing.T) {
	s := with(full(2, 5), 5, func(x *api.Sub) { x.Acks, x.Queue, x.Floor = nil, messages(20, 30), 19 })
	s.Next = 1 << 30
	o := api.Op{Kind: api.Publish, Topic: "a/+", Body: strings.Repeat("b", 61), Attr: "k", N: 10}
	refuses(t, s, o, api.ErrTopic)
	o.Topic = "a/b/c"
	refuses(t, s, o, api.ErrLong)
	o.Body = ""
	refuses(t, s, o, api.ErrWant)
	o.Attr = "k=v"
	refuses(t, s, o, api.ErrArg)
	o.N = 0
	refuses(t, s, o, api.ErrOver)
	s.Next = 1<<30 - 1
	refuses(t, s, o, api.ErrQuota)
}

// fetched is a state in which messages of a subscription are leased, and they.
func fetched(s api.State, id int, seqs ...int) (api.State, api.Reply) {
	var l []api.Message
	for _, seq := range seqs {
		s = with(s, id, func(x *api.Sub) {
			for i, m := range x.Queue {
				if m.Seq == seq {
					m.Tries++
					m.Until = s.Clock + x.Lease
					x.Queue[i] = m
					l = append(l, m)
				}
			}
		})
	}
	return s, api.Reply{List: l, N: len(l)}
}

// By falling priority, then by rising number; of those alone that wait.
func TestFetch(t *testing.T) {
	order := []int{27, 21, 23, 28}
	for n := 1; n <= 30; n++ {
		want, r := fetched(full(2, 5, 9), 5, order[:min(n, 4)]...)
		if r.N != min(n, 4) {
			t.Fatal(r)
		}
		does(t, full(2, 5, 9), api.Op{Kind: api.Fetch, Sub: 5, N: n, Seq: -1, Name: "?"}, want, r)
	}
	for _, n := range edges(0, 31, 1000, 1<<32+1) {
		if n < 1 || n > 30 {
			refuses(t, full(2, 5, 9), api.Op{Kind: api.Fetch, Sub: 5, N: n}, api.ErrArg)
		}
	}
	// Nothing waits.
	s := with(full(2), 2, func(x *api.Sub) { x.Queue = slices.DeleteFunc(x.Queue, waits) })
	does(t, s, api.Op{Kind: api.Fetch, Sub: 2, N: 30}, s, api.Reply{})
	s = with(full(2), 2, func(x *api.Sub) { x.Queue = nil })
	does(t, s, api.Op{Kind: api.Fetch, Sub: 2, N: 1}, s, api.Reply{})
	// A lease may end behind the last time.
	s = full(2)
	s.Clock = 1 << 52
	s = with(s, 2, func(x *api.Sub) { x.Queue, x.Lease = messages(30, 2), 1000 })
	want, r := fetched(s, 2, 30)
	if r.List[0].Until != 1<<52+1000 {
		t.Fatal(r)
	}
	does(t, s, api.Op{Kind: api.Fetch, Sub: 2, N: 1}, want, r)
	// All of thirty.
	s = with(full(2), 2, func(x *api.Sub) { x.Acks, x.Queue, x.Floor = nil, messages(20, 30), 19 })
	for i := range 30 {
		s.Subs[0].Queue[i].Prio = i % 3
	}
	var all []int
	for _, prio := range []int{2, 1, 0} {
		for seq := 20 + prio; seq < 50; seq += 3 {
			all = append(all, seq)
		}
	}
	for n := 1; n <= 30; n++ {
		want, r = fetched(s, 2, all[:n]...)
		does(t, s, api.Op{Kind: api.Fetch, Sub: 2, N: n}, want, r)
	}
}

// waits says it of a message.
func waits(m api.Message) bool { return !m.Dead && m.Until == 0 }

// acked is a state in which a message of a subscription is acknowledged, and the floor is as high as it is then.
func acked(s api.State, id, seq, floor int, acks ...int) api.State {
	return with(s, id, func(x *api.Sub) {
		x.Queue = slices.DeleteFunc(x.Queue, func(m api.Message) bool { return m.Seq == seq })
		x.Floor, x.Acks = floor, acks
	})
}

func TestAck(t *testing.T) {
	s := full(2, 5, 9)
	does(t, s, api.Op{Kind: api.Ack, Sub: 5, Seq: 24, N: -1, Name: "?"}, acked(s, 5, 24, 20, 22, 24, 25, 40), api.Reply{})
	does(t, s, api.Op{Kind: api.Ack, Sub: 5, Seq: 26}, acked(s, 5, 26, 20, 22, 25, 26, 40), api.Reply{})
	// The first of the queue: the floor comes up to what is first then, or next.
	s = with(s, 5, func(x *api.Sub) { x.Queue = x.Queue[2:] })
	does(t, s, api.Op{Kind: api.Ack, Sub: 5, Seq: 24}, acked(s, 5, 24, 25, 40), api.Reply{})
	does(t, s, api.Op{Kind: api.Ack, Sub: 5, Seq: 26}, acked(s, 5, 26, 23, 25, 26, 40), api.Reply{})
	s = with(s, 5, func(x *api.Sub) { x.Queue = x.Queue[:1] })
	does(t, s, api.Op{Kind: api.Ack, Sub: 5, Seq: 24}, acked(s, 5, 24, 49), api.Reply{})
	s = with(s, 5, func(x *api.Sub) { x.Acks = nil })
	does(t, s, api.Op{Kind: api.Ack, Sub: 5, Seq: 24}, acked(s, 5, 24, 49), api.Reply{})
}

// Acknowledged, or given back, is only what is leased.
func TestLeased(t *testing.T) {
	for _, kind := range []int{api.Ack, api.Nack} {
		for _, seq := range edges(0, 20, 21, 22, 23, 24, 25, 26, 27, 28, 40, 41, 42, 49, 50, 1<<32+24) {
			o := api.Op{Kind: kind, Sub: 5, Seq: seq, N: -1}
			switch seq {
			case 24, 26:
				if _, r := model.Do(full(2, 5, 9), o); !equal(r, api.Reply{}) {
					t.Errorf("%+v: %+v", o, r)
				}
			case 21, 23, 27, 28, 41, 49: // they wait, or are dead
				refuses(t, full(2, 5, 9), o, api.ErrArg)
			default: // acknowledged, or never there
				refuses(t, full(2, 5, 9), o, api.ErrNone)
			}
		}
		// The one of another subscription is none.
		s := with(full(2, 5), 2, func(x *api.Sub) { x.Queue = nil })
		refuses(t, s, api.Op{Kind: kind, Sub: 2, Seq: 24}, api.ErrNone)
	}
}

// Above the floor at most twenty are acknowledged, when it is as high as it is then.
func TestAckMost(t *testing.T) {
	for n := range 21 {
		s := api.State{Clock: 5, Next: 100, Last: 2}
		x := api.Sub{ID: 2, Name: "n", Topic: "#", Lease: 9, Most: 2, Queue: []api.Message{{Seq: 10}, {Seq: 30, Tries: 1, Until: 6}}, Floor: 9}
		for i := range n {
			x.Acks = append(x.Acks, 20+i+i/10) // but 30
		}
		s.Subs = []api.Sub{x}
		o := api.Op{Kind: api.Ack, Sub: 2, Seq: 30}
		if len(x.Acks) == 20 {
			refuses(t, s, o, api.ErrQuota)
		} else {
			acks := append(slices.Clone(x.Acks), 30)
			slices.Sort(acks)
			does(t, s, o, acked(s, 2, 30, 9, acks...), api.Reply{})
		}
		// It is the first: nothing but those behind it is above the floor then.
		s = with(s, 2, func(x *api.Sub) { x.Queue = []api.Message{{Seq: 30, Tries: 1, Until: 6}, {Seq: 99}} })
		does(t, s, o, acked(s, 2, 30, 98), api.Reply{})
	}
	// With twenty there is room for one, if one falls below the floor.
	s := api.State{Clock: 5, Next: 100, Last: 2, Subs: []api.Sub{{ID: 2, Name: "n", Topic: "#", Lease: 9, Most: 2, Queue: []api.Message{{Seq: 10, Tries: 1, Until: 6}, {Seq: 12}}}}}
	for i := range 20 {
		s.Subs[0].Acks = append(s.Subs[0].Acks, 20+i)
	}
	does(t, s, api.Op{Kind: api.Ack, Sub: 2, Seq: 10}, acked(s, 2, 10, 11, s.Subs[0].Acks...), api.Reply{})
	// Behind one that waits there is none; the other errors are named ahead of that.
	s = with(s, 2, func(x *api.Sub) {
		x.Queue = append(messages(10, 1), api.Message{Seq: 12}, api.Message{Seq: 50, Tries: 2, Until: 14})
	})
	refuses(t, s, api.Op{Kind: api.Ack, Sub: 2, Seq: 50}, api.ErrQuota)
	refuses(t, s, api.Op{Kind: api.Ack, Sub: 2, Seq: 12}, api.ErrArg)
	refuses(t, s, api.Op{Kind: api.Ack, Sub: 2, Seq: 51}, api.ErrNone)
}

// From the floor on up to the last message of all; whatever stands in the queue up to there is gone, the dead, too.
func TestAckTo(t *testing.T) {
	for seq := 20; seq <= 49; seq++ {
		want := with(full(2, 5, 9), 5, func(x *api.Sub) {
			x.Queue = slices.DeleteFunc(x.Queue, func(m api.Message) bool { return m.Seq <= seq })
			x.Floor = 49
			if len(x.Queue) > 0 {
				x.Floor = x.Queue[0].Seq - 1
			}
			x.Acks = slices.DeleteFunc(x.Acks, func(ack int) bool { return ack <= x.Floor })
		})
		does(t, full(2, 5, 9), api.Op{Kind: api.AckTo, Sub: 5, Seq: seq, N: -1, Name: "?"}, want, api.Reply{})
	}
	for _, seq := range edges(0, 19, 51, 1<<30, 1<<32+30) {
		if seq < 20 || seq > 49 {
			refuses(t, full(2, 5, 9), api.Op{Kind: api.AckTo, Sub: 5, Seq: seq}, api.ErrArg)
		}
	}
	// The floor alone, of nothing: it comes up to what is next, and from there it goes on.
	s := with(full(2), 2, func(x *api.Sub) { x.Queue, x.Acks = nil, nil })
	up := with(s, 2, func(x *api.Sub) { x.Floor = 49 })
	does(t, s, api.Op{Kind: api.AckTo, Sub: 2, Seq: 20}, up, api.Reply{})
	does(t, up, api.Op{Kind: api.AckTo, Sub: 2, Seq: 49}, up, api.Reply{})
	refuses(t, up, api.Op{Kind: api.AckTo, Sub: 2, Seq: 48}, api.ErrArg)
	refuses(t, up, api.Op{Kind: api.AckTo, Sub: 2, Seq: 50}, api.ErrArg)
	first, _ := model.Do(model.New(), subscribe(nil))
	does(t, first, api.Op{Kind: api.AckTo, Sub: 1}, first, api.Reply{})
	refuses(t, first, api.Op{Kind: api.AckTo, Sub: 1, Seq: 1}, api.ErrArg)
}

// It waits again; or it is dead, if there are no tries left.
func TestNack(t *testing.T) {
	s := full(2, 5, 9)
	does(t, s, api.Op{Kind: api.Nack, Sub: 5, Seq: 24, N: -1, Name: "?"}, with(s, 5, func(x *api.Sub) { x.Queue[2].Until = 0 }), api.Reply{})
	does(t, s, api.Op{Kind: api.Nack, Sub: 5, Seq: 26}, with(s, 5, func(x *api.Sub) {
		x.Queue[3].Until, x.Queue[3].Dead, x.Queue[3].Why = 0, true, "nack"
	}), api.Reply{})
	for most := 1; most <= 9; most++ {
		for tries := 1; tries <= most; tries++ {
			s := with(full(2), 2, func(x *api.Sub) {
				x.Most, x.Queue = most, []api.Message{{Seq: 30, Body: "b", Attr: "a=1", Tries: tries, Until: 105, Prio: 7}}
			})
			want := api.Message{Seq: 30, Body: "b", Attr: "a=1", Tries: tries, Prio: 7}
			if tries == most {
				want.Dead, want.Why = true, "nack"
			}
			does(t, s, api.Op{Kind: api.Nack, Sub: 2, Seq: 30}, with(s, 2, func(x *api.Sub) { x.Queue[0] = want }), api.Reply{})
		}
	}
}

// All leases that are over then are taken back, of each subscription; those that are dead, or wait, stay as they are.
func TestTick(t *testing.T) {
	for n := range 15 {
		s := full(2, 5, 9)
		s = with(s, 5, func(x *api.Sub) { x.Queue[2].Until, x.Queue[3].Until = 104, 105 })
		want := copied(s)
		want.Clock += n
		for _, x := range want.Subs {
			early, late := 1, 10
			if x.ID == 5 {
				early, late = 4, 5
			}
			if n >= early {
				x.Queue[2].Until = 0
			}
			if n >= late {
				x.Queue[3].Until, x.Queue[3].Dead, x.Queue[3].Why = 0, true, "time"
			}
		}
		does(t, s, api.Op{Kind: api.Tick, N: n, Sub: -1, Seq: -1, Name: "?"}, want, api.Reply{})
	}
	for most := 1; most <= 9; most++ {
		for tries := 1; tries <= most; tries++ {
			s := with(full(2), 2, func(x *api.Sub) {
				x.Most, x.Queue = most, []api.Message{{Seq: 30, Body: "b", Attr: "a=1", Tries: tries, Until: 105, Prio: 7}}
			})
			m := api.Message{Seq: 30, Body: "b", Attr: "a=1", Tries: tries, Prio: 7}
			if tries == most {
				m.Dead, m.Why = true, "time"
			}
			want := with(s, 2, func(x *api.Sub) { x.Queue[0] = m })
			want.Clock = 105
			does(t, s, api.Op{Kind: api.Tick, N: 5}, want, api.Reply{})
		}
	}
}

func TestTickNumbers(t *testing.T) {
	for _, clock := range []int{0, 1, 1<<52 - 1<<30 - 1, 1<<52 - 1<<30, 1<<52 - 1<<30 + 1, 1<<52 - 1, 1 << 52} {
		s := api.State{Clock: clock, Next: 1}
		for _, n := range edges(0, 1, 2, 1<<30, 1<<31, 1<<32, 1<<52) {
			o := api.Op{Kind: api.Tick, N: n}
			switch {
			case n < 0 || n > 1<<30:
				refuses(t, s, o, api.ErrArg)
			case clock+n > 1<<52:
				refuses(t, s, o, api.ErrOver)
			default:
				does(t, s, o, api.State{Clock: clock + n, Next: 1}, api.Reply{})
			}
		}
	}
}

func TestDead(t *testing.T) {
	s := full(2, 5, 9)
	l := slices.Clone(sub(5).Queue[6:])
	does(t, s, api.Op{Kind: api.Dead, Sub: 5, N: -1, Seq: -1, Name: "?"}, s, api.Reply{List: l, N: 2})
	s = with(s, 5, func(x *api.Sub) { x.Queue = x.Queue[:6] })
	does(t, s, api.Op{Kind: api.Dead, Sub: 5}, s, api.Reply{})
	s = with(s, 5, func(x *api.Sub) { x.Queue = nil })
	does(t, s, api.Op{Kind: api.Dead, Sub: 5}, s, api.Reply{})
	// They stand as in the queue, whatever their priority; others stand between.
	s = with(s, 5, func(x *api.Sub) {
		x.Acks, x.Floor, x.Queue = nil, 19, messages(20, 30)
		for i := range x.Queue {
			if i%3 != 1 {
				x.Queue[i].Tries, x.Queue[i].Dead, x.Queue[i].Why, x.Queue[i].Prio = 3, true, []string{"nack", "time"}[i%2], i%10
			}
		}
	})
	l = slices.DeleteFunc(slices.Clone(s.Subs[1].Queue), func(m api.Message) bool { return !m.Dead })
	does(t, s, api.Op{Kind: api.Dead, Sub: 5}, s, api.Reply{List: l, N: 20})
	does(t, s, api.Op{Kind: api.Purge, Sub: 5}, with(s, 5, func(x *api.Sub) {
		x.Queue = slices.DeleteFunc(x.Queue, func(m api.Message) bool { return m.Dead })
		x.Floor = 20
	}), api.Reply{N: 20})
}

// The dead are gone; they are not acknowledged, but the floor comes up over them.
func TestPurge(t *testing.T) {
	s := full(2, 5, 9)
	left := with(s, 5, func(x *api.Sub) { x.Queue = x.Queue[:6] })
	does(t, s, api.Op{Kind: api.Purge, Sub: 5, N: -1, Seq: -1, Name: "?"}, left, api.Reply{N: 2})
	does(t, left, api.Op{Kind: api.Purge, Sub: 5}, left, api.Reply{})
	s = with(s, 5, func(x *api.Sub) { x.Queue = x.Queue[6:] })
	does(t, s, api.Op{Kind: api.Purge, Sub: 5}, with(s, 5, func(x *api.Sub) { x.Queue, x.Acks, x.Floor = nil, nil, 49 }), api.Reply{N: 2})
	s = with(s, 5, func(x *api.Sub) {
		x.Queue = append(x.Queue[:1], api.Message{Seq: 45, Tries: 1, Until: 103})
		x.Acks = append(x.Acks, 47)
	})
	does(t, s, api.Op{Kind: api.Purge, Sub: 5}, with(s, 5, func(x *api.Sub) { x.Queue, x.Acks, x.Floor = x.Queue[1:], []int{47}, 44 }), api.Reply{N: 1})
	// Settled is what is purged, though no one was dead.
	s = with(s, 5, func(x *api.Sub) { x.Queue = x.Queue[1:] })
	does(t, s, api.Op{Kind: api.Purge, Sub: 5}, with(s, 5, func(x *api.Sub) { x.Acks, x.Floor = []int{47}, 44 }), api.Reply{})
}
