package model_test

import (
	"fmt"
	"math/rand"
	"regexp"
	"slices"
	"sort"
	"strings"
	"testing"

	"roadstead/api"
	"roadstead/model"
	"roadstead/state"
)

// What texts may be, as the chapters have it, told in another way than the layers below do.
var (
	names    = regexp.MustCompile(`\A[a-z0-9]{1,20}\z`)
	topics   = regexp.MustCompile(`\A[a-z0-9]+(/[a-z0-9]+)*\z`)
	patterns = regexp.MustCompile(`\A(([a-z0-9]+|\+)/)*([a-z0-9]+|\+|#)\z`)
	pairs    = regexp.MustCompile(`\A[a-z0-9]+=[a-z0-9]+(,[a-z0-9]+=[a-z0-9]+)*\z`)
)

// short says whether a text is one of those, and has at most thirty bytes.
func short(r *regexp.Regexp, s string) bool { return len(s) <= 30 && r.MatchString(s) }

// attrs says whether what stands beside a message may be.
func attrs(s string) bool {
	if s == "" {
		return true
	}
	var first []string
	for _, pair := range strings.Split(s, ",") {
		first = append(first, strings.Split(pair, "=")[0])
	}
	return short(pairs, s) && sort.StringsAreSorted(first) && len(slices.Compact(first)) == strings.Count(s, ",")+1
}

// has says whether a subscription is to have a message.
func has(x api.Sub, topic, attr string) bool {
	p := strings.ReplaceAll(strings.ReplaceAll(x.Topic, "+", "[a-z0-9]+"), "#", "[a-z0-9/]+")
	if !regexp.MustCompile(`\A` + p + `\z`).MatchString(topic) {
		return false
	}
	for _, pair := range strings.Split(x.Want, ",") {
		if pair != "" && !strings.Contains(","+attr+",", ","+pair+",") {
			return false
		}
	}
	return true
}

// fault is an error, and whether it is there.
type fault struct {
	e  api.Errno
	is bool
}

// faults are those that a kind of op may tell, in the chapter's order.
func faults(s api.State, o api.Op) []fault {
	var x api.Sub
	none := true
	for _, y := range s.Subs {
		if y.ID == o.Sub {
			x, none = y, false
		}
	}
	missing := fault{api.ErrNone, none}
	m := api.Message{}
	for _, y := range x.Queue {
		if y.Seq == o.Seq {
			m = y
		}
	}
	switch o.Kind {
	case api.Subscribe:
		return []fault{
			{api.ErrName, !names.MatchString(o.Name)}, {api.ErrTopic, !short(patterns, o.Topic)}, {api.ErrWant, !attrs(o.Want)},
			{api.ErrArg, o.N < 1 || o.N > 1000 || o.Seq < 1 || o.Seq > 9}, {api.ErrQuota, len(s.Subs) == 20}, {api.ErrOver, s.Last == 1<<30},
		}
	case api.Publish:
		full := false
		for _, y := range s.Subs {
			full = full || has(y, o.Topic, o.Attr) && len(y.Queue) == 30
		}
		return []fault{
			{api.ErrTopic, !short(topics, o.Topic)}, {api.ErrLong, len(o.Body) > 60}, {api.ErrWant, !attrs(o.Attr)},
			{api.ErrArg, o.N < 0 || o.N > 9}, {api.ErrOver, s.Next == 1<<30}, {api.ErrQuota, full},
		}
	case api.Fetch:
		return []fault{missing, {api.ErrArg, o.N < 1 || o.N > 30}}
	case api.Ack:
		return []fault{missing, {api.ErrNone, m.Seq == 0}, {api.ErrArg, m.Until == 0}, {api.ErrQuota, len(settled(without(x, m.Seq), s.Next, m.Seq).Acks) > 20}}
	case api.AckTo:
		return []fault{missing, {api.ErrArg, o.Seq < x.Floor || o.Seq >= s.Next}}
	case api.Nack:
		return []fault{missing, {api.ErrNone, m.Seq == 0}, {api.ErrArg, m.Until == 0}}
	case api.Tick:
		return []fault{{api.ErrArg, o.N < 0 || o.N > 1<<30}, {api.ErrOver, s.Clock+o.N > 1<<52}}
	case api.Annotate:
		return []fault{missing, {api.ErrLong, len(o.Name) > 30}}
	case api.Unsubscribe, api.Dead, api.Purge:
		return []fault{missing}
	case api.Look:
		return nil
	}
	return []fault{{api.ErrKind, true}}
}

// without is a subscription without a message.
func without(x api.Sub, seq int) api.Sub {
	var l []api.Message
	for _, m := range x.Queue {
		if m.Seq != seq {
			l = append(l, m)
		}
	}
	x.Queue = l
	return x
}

// settled is a subscription with the acknowledgements of some more, and with its floor right below all that it has not seen.
func settled(x api.Sub, next int, more ...int) api.Sub {
	is := map[int]bool{}
	for _, seq := range append(more, x.Acks...) {
		is[seq] = true
	}
	first := next
	for _, m := range x.Queue {
		first = min(first, m.Seq)
	}
	x.Floor = max(x.Floor, first-1)
	x.Acks = nil
	for seq := range is {
		if seq > x.Floor {
			x.Acks = append(x.Acks, seq)
		}
	}
	sort.Ints(x.Acks)
	return x
}

// given is a message that was given back.
func given(m api.Message, most int, why string) api.Message {
	if m.Tries == most {
		return api.Message{Seq: m.Seq, Body: m.Body, Attr: m.Attr, Prio: m.Prio, Tries: most, Dead: true, Why: why}
	}
	return api.Message{Seq: m.Seq, Body: m.Body, Attr: m.Attr, Prio: m.Prio, Tries: m.Tries}
}

// expected is what a state is behind an op, and what is answered, as the chapter has it.
func expected(s api.State, o api.Op) (api.State, api.Reply) {
	for _, f := range faults(s, o) {
		if f.is {
			return s, api.Reply{Err: f.e}
		}
	}
	r := api.Reply{}
	switch o.Kind {
	case api.Subscribe:
		s = copied(s)
		s.Last++
		r.N = s.Last
		s.Subs = append(s.Subs, api.Sub{ID: s.Last, Name: o.Name, Topic: o.Topic, Want: o.Want, Lease: o.N, Most: o.Seq, Floor: s.Next - 1})
	case api.Unsubscribe:
		s = copied(s)
		s.Subs = slices.DeleteFunc(s.Subs, func(x api.Sub) bool { return x.ID == o.Sub })
	case api.Publish:
		r.N = s.Next
		var ids []int
		for _, x := range s.Subs {
			if has(x, o.Topic, o.Attr) {
				ids = append(ids, x.ID)
			}
		}
		s = queued(s, api.Message{Body: o.Body, Attr: o.Attr, Prio: o.N}, ids...)
	case api.Tick:
		s = copied(s)
		s.Clock += o.N
		for _, x := range s.Subs {
			for i, m := range x.Queue {
				if m.Until != 0 && m.Until <= s.Clock {
					x.Queue[i] = given(m, x.Most, "time")
				}
			}
		}
	case api.Look:
		r.N = len(s.Subs)
	default:
		s = with(s, o.Sub, func(x *api.Sub) { r = onSub(x, s, o) })
	}
	return s, r
}

// onSub does an op to the subscription that it asks for.
func onSub(x *api.Sub, s api.State, o api.Op) api.Reply {
	r := api.Reply{}
	at := slices.IndexFunc(x.Queue, func(m api.Message) bool { return m.Seq == o.Seq })
	switch o.Kind {
	case api.Fetch:
		for prio := 9; prio >= 0; prio-- {
			for i, m := range x.Queue {
				if m.Prio == prio && m.Until == 0 && !m.Dead && r.N < o.N {
					x.Queue[i].Tries, x.Queue[i].Until = m.Tries+1, s.Clock+x.Lease
					r.List, r.N = append(r.List, x.Queue[i]), r.N+1
				}
			}
		}
	case api.Ack:
		*x = settled(without(*x, o.Seq), s.Next, o.Seq)
	case api.AckTo:
		for len(x.Queue) > 0 && x.Queue[0].Seq <= o.Seq {
			x.Queue = x.Queue[1:]
		}
		x.Floor = o.Seq
		*x = settled(*x, s.Next)
	case api.Nack:
		x.Queue[at] = given(x.Queue[at], x.Most, "nack")
	case api.Dead, api.Purge:
		for _, m := range slices.Clone(x.Queue) {
			if m.Dead {
				r.N++
				if o.Kind == api.Dead {
					r.List = append(r.List, m)
				} else {
					*x = without(*x, m.Seq)
				}
			}
		}
		if o.Kind == api.Purge {
			*x = settled(*x, s.Next)
		}
	case api.Annotate:
		x.Note = o.Name
	}
	return r
}

// drawer draws ops.
type drawer struct{ *rand.Rand }

// of is one of some texts.
func (d drawer) of(l ...string) string { return l[d.Intn(len(l))] }

// number is one of some, but now and then one that is seldom right.
func (d drawer) number(first, last int) int {
	if d.Intn(12) == 0 {
		return []int{-1, 0, 1, 9, 10, 31, 1001, 1 << 30, 1<<30 + 1, -1 << 40, 1 << 40}[d.Intn(11)]
	}
	return first + d.Intn(last-first+1)
}

// op is one, of which most may be asked of a state.
func (d drawer) op(s api.State) api.Op {
	kinds := []int{0, 1, 1, 1, 2, 3, 3, 3, 3, 3, 3, 3, 3, 4, 4, 4, 4, 5, 5, 5, 5, 6, 7, 7, 8, 9, 10, 11, 12, 13}
	o := api.Op{Kind: kinds[d.Intn(len(kinds))], N: d.number(0, 9), Name: d.of("n", "n", "n", "n2", "n2", "long0123456789012345", "", "long01234567890123456", strings.Repeat("a note ", 4), strings.Repeat("a note ", 5))}
	o.Body = d.of("", "b", "b", "b", strings.Repeat("b", 60), strings.Repeat("b", 61), "\xff")
	o.Want, o.Attr = d.of("", "", "", "a=1", "b=2", "b=2,a=1"), d.of("", "a=1", "a=1,b=2", "a=1,b=2", "b=2", "b=2", "a")
	o.Topic = d.of("a", "b", "a/b", "a/b", "a/c", "a/b/c", "a/b", "a/+")
	if o.Kind == api.Subscribe {
		o.Topic = d.of("#", "#", "a", "a/+", "a/#", "+", "#/a")
		o.Seq = d.number(1, 3)
	}
	if len(s.Subs) > 0 {
		x := s.Subs[d.Intn(len(s.Subs))]
		o.Sub = x.ID
		if o.Kind != api.Subscribe {
			o.Seq = d.seq(x, s.Next)
		}
	}
	if d.Intn(25) == 0 {
		o.Sub = d.number(1, s.Last+1)
	}
	return o
}

// seq is the number of a message, that a subscription has, or had, mostly.
func (d drawer) seq(x api.Sub, next int) int {
	var l []int
	for _, m := range x.Queue {
		if m.Until > 0 || d.Intn(8) == 0 {
			l = append(l, m.Seq)
		}
	}
	if len(l) == 0 || d.Intn(10) == 0 {
		return d.number(x.Floor, next)
	}
	return l[d.Intn(len(l))]
}

// starts are states to begin with: a new one, one whose numbers are near the last ones, and one of which much is acknowledged.
func starts() []api.State {
	late := api.State{Clock: 1<<52 - 50, Next: 1<<30 - 20, Last: 1<<30 - 8}
	for i := range 19 {
		late.Subs = append(late.Subs, api.Sub{ID: late.Last - 18 + i, Name: "late", Topic: "a/#", Lease: 3, Most: 2, Floor: late.Next - 1})
	}
	seen := api.State{Next: 60, Last: 2, Subs: []api.Sub{{ID: 2, Name: "seen", Topic: "#", Lease: 1000, Most: 9, Queue: messages(5, 1)}}}
	for i := range 27 {
		x := &seen.Subs[0]
		if i < 18 {
			x.Acks = append(x.Acks, 10+i)
		}
		x.Queue = append(x.Queue, api.Message{Seq: 30 + i, Tries: 1, Until: 1000})
	}
	return []api.State{model.New(), model.New(), late, seen}
}

// told are the kinds and errors of the chapter.
func told() []string {
	var l []string
	for kind, errors := range map[int][]api.Errno{
		api.Subscribe: {0, api.ErrName, api.ErrTopic, api.ErrWant, api.ErrArg, api.ErrQuota, api.ErrOver}, api.Unsubscribe: {0, api.ErrNone},
		api.Publish: {0, api.ErrTopic, api.ErrLong, api.ErrWant, api.ErrArg, api.ErrOver, api.ErrQuota}, api.Fetch: {0, api.ErrNone, api.ErrArg},
		api.Ack: {0, api.ErrNone, api.ErrArg, api.ErrQuota}, api.AckTo: {0, api.ErrNone, api.ErrArg}, api.Nack: {0, api.ErrNone, api.ErrArg},
		api.Tick: {0, api.ErrArg, api.ErrOver}, api.Dead: {0, api.ErrNone}, api.Purge: {0, api.ErrNone}, api.Annotate: {0, api.ErrNone, api.ErrLong},
		api.Look: {0}, 0: {api.ErrKind}, 13: {api.ErrKind},
	} {
		for _, e := range errors {
			l = append(l, fmt.Sprint(kind, " tells ", int(e)))
		}
	}
	return l
}

// Of each row of ops that is drawn: the state and the reply are the chapter's, and the state is one that may be.
func TestDrawn(t *testing.T) {
	d := drawer{rand.New(rand.NewSource(11))}
	count := map[string]int{}
	for round := range 80 {
		s := starts()[round%4]
		first := s
		var l []api.Op
		var replies []api.Reply
		for range 400 {
			o := d.op(s)
			want, reply := expected(s, o)
			does(t, s, o, want, reply)
			if t.Failed() {
				return
			}
			count[fmt.Sprint(o.Kind, " tells ", int(reply.Err))]++
			s, l, replies = want, append(l, o), append(replies, reply)
		}
		if end, all := model.Run(first, l); !state.Same(end, s) || !equal(all, replies) {
			t.Fatalf("round %d: Run is another one", round)
		}
	}
	if len(count) != len(told()) {
		t.Errorf("of %d sorts, not %d: %v", len(count), len(told()), count)
	}
	for _, sort := range told() {
		if count[sort] < 20 {
			t.Errorf("%s: only %d times", sort, count[sort])
		}
	}
}
