package state_test

import (
	"math"
	"slices"
	"strings"
	"testing"

	"roadstead/api"
	"roadstead/state"
)

// edges are numbers that are next to some, and those at the ends.
func edges(l ...int) []int {
	all := []int{math.MinInt, math.MinInt + 1, math.MaxInt - 1, math.MaxInt}
	for _, n := range l {
		all = append(all, n-1, n, n+1)
	}
	return all
}

func TestGood(t *testing.T) {
	if !state.Good(sub(5), 100, 50) {
		t.Error("a subscription may not be")
	}
	bare := api.Sub{ID: 1, Name: "a", Topic: "#", Lease: 1, Most: 1}
	if !state.Good(bare, 0, 1) || !state.Good(bare, math.MinInt, math.MaxInt) || !state.Good(bare, math.MaxInt, 1) {
		t.Error("a subscription of nothing may not be")
	}
	bare.Acks, bare.Queue = []int{}, []api.Message{}
	if !state.Good(bare, 0, 1) {
		t.Error("a subscription of empty lists may not be")
	}
	if state.Good(api.Sub{}, 0, 1) {
		t.Error("a subscription of noughts may be")
	}
}

// A field of numbers, right from one on up to another one.
func TestGoodNumbers(t *testing.T) {
	for _, c := range []struct {
		name        string
		first, last int
		set         func(x *api.Sub, n int)
	}{
		{"ID", 1, 1 << 30, func(x *api.Sub, n int) { x.ID = n }},
		{"Lease", 10, 1000, func(x *api.Sub, n int) { x.Lease = n }}, // one is leased up to then
		{"Lease of none leased", 1, 1000, func(x *api.Sub, n int) { x.Lease, x.Queue = n, nil }},
		{"Most of none", 1, 9, func(x *api.Sub, n int) { x.Most, x.Queue = n, nil }},
		{"Most of dead ones", 3, 3, func(x *api.Sub, n int) { x.Most = n }},
		{"Floor", 0, 20, func(x *api.Sub, n int) { x.Floor = n }},
		{"Floor of nothing", 0, 49, func(x *api.Sub, n int) { x.Floor, x.Acks, x.Queue = n, nil, nil }},
		{"Floor below acknowledgements", 0, 21, func(x *api.Sub, n int) { x.Floor, x.Queue = n, nil }},
		{"Floor below a queue", 0, 20, func(x *api.Sub, n int) { x.Floor, x.Acks = n, nil }},
		{"the first of Acks", 21, 24, func(x *api.Sub, n int) { x.Acks[0], x.Queue = n, nil }},
		{"the second of Acks", 23, 39, func(x *api.Sub, n int) { x.Acks[1], x.Queue = n, nil }},
		{"the last of Acks", 26, 49, func(x *api.Sub, n int) { x.Acks[2], x.Queue = n, nil }},
		{"the Seq of the first", 21, 22, func(x *api.Sub, n int) { x.Queue[0].Seq, x.Acks = n, nil }},
		{"the Seq of the third", 24, 25, func(x *api.Sub, n int) { x.Queue[2].Seq, x.Acks = n, nil }},
		{"the Seq of the last", 42, 49, func(x *api.Sub, n int) { x.Queue[5].Seq, x.Acks = n, nil }},
		{"Prio", 0, 9, func(x *api.Sub, n int) { x.Queue[0].Prio = n }},
		{"Prio of a leased one", 0, 9, func(x *api.Sub, n int) { x.Queue[2].Prio = n }},
		{"Prio of a dead one", 0, 9, func(x *api.Sub, n int) { x.Queue[5].Prio = n }},
		{"Tries of one that waits", 0, 2, func(x *api.Sub, n int) { x.Queue[0].Tries = n }},
		{"Tries of a leased one", 1, 3, func(x *api.Sub, n int) { x.Queue[2].Tries = n }},
		{"Tries of a dead one", 3, 3, func(x *api.Sub, n int) { x.Queue[4].Tries = n }},
		{"Until of one that waits, without tries", 0, 0, func(x *api.Sub, n int) { x.Queue[0].Until = n }},
		{"Until of a leased one, all tries", 101, 110, func(x *api.Sub, n int) { x.Queue[3].Until = n }},
		{"Until of a dead one", 0, 0, func(x *api.Sub, n int) { x.Queue[4].Until = n }},
	} {
		for _, n := range edges(0, 1, 2, 3, 9, 10, 20, 21, 22, 24, 25, 26, 30, 39, 40, 41, 42, 49, 50, 100, 101, 110, 1000, 1<<30, 1<<52) {
			x := sub(5)
			c.set(&x, n)
			if got := state.Good(x, 100, 50); got != (n >= c.first && n <= c.last) {
				t.Errorf("%s %d: %v", c.name, n, got)
			}
		}
	}
	// One that has tries left may wait, or be leased, with the same.
	for _, n := range edges(0, 100, 110) {
		x := sub(5)
		x.Queue[2].Until = n
		if got := state.Good(x, 100, 50); got != (n == 0 || n > 100 && n <= 110) {
			t.Errorf("Until of one tried once: %d: %v", n, got)
		}
	}
}

// What is acknowledged is not in the queue, wherever it stands there.
func TestGoodAcks(t *testing.T) {
	for seq := 21; seq < 50; seq++ {
		x := sub(5)
		x.Acks = []int{seq}
		queued := slices.ContainsFunc(x.Queue, func(m api.Message) bool { return m.Seq == seq })
		if got := state.Good(x, 100, 50); got == queued {
			t.Errorf("Acks of %d: %v", seq, got)
		}
	}
	for n := range 25 {
		x := sub(5)
		x.Acks, x.Queue = nil, nil
		for seq := range n {
			x.Acks = append(x.Acks, 21+seq)
		}
		if got := state.Good(x, 100, 50); got != (n <= 20) {
			t.Errorf("%d Acks: %v", n, got)
		}
	}
	for _, acks := range [][]int{{21, 21}, {22, 21}, {21, 23, 22}, {21, 23, 23}, {20}, {0, 30}, {-5}, {50}, {30, 50}, {30, math.MaxInt}, {math.MinInt, 30}} {
		x := sub(5)
		x.Acks, x.Queue = acks, nil
		if state.Good(x, 100, 50) {
			t.Errorf("Acks %v: true", acks)
		}
	}
}

func TestGoodQueue(t *testing.T) {
	for n := range 35 {
		x := api.Sub{ID: 1, Name: "a", Topic: "#", Lease: 1, Most: 1}
		for seq := range n {
			x.Queue = append(x.Queue, api.Message{Seq: 1 + seq})
		}
		if got := state.Good(x, 0, 100); got != (n <= 30) {
			t.Errorf("%d messages: %v", n, got)
		}
		if n > 0 && n <= 30 {
			x.Queue[n-1].Prio = 10
			if state.Good(x, 0, 100) {
				t.Errorf("the last one of %d messages may not be", n)
			}
		}
	}
	for _, seqs := range [][]int{{21, 21}, {22, 21}, {21, 23, 22}, {21, 22, 22}, {20}, {20, 21}, {0}, {-5, 21}, {50}, {49, 50}, {21, math.MaxInt}, {math.MinInt}} {
		x := sub(5)
		x.Acks, x.Queue = nil, nil
		for _, seq := range seqs {
			x.Queue = append(x.Queue, api.Message{Seq: seq})
		}
		if state.Good(x, 100, 50) {
			t.Errorf("a queue of %v: true", seqs)
		}
	}
}

// Names of signs of a to z and 0 to 9; of topics and of what is wanted layer 9 tells.
func TestGoodTexts(t *testing.T) {
	for b := range 256 {
		ok := b >= 'a' && b <= 'z' || b >= '0' && b <= '9'
		for _, s := range []string{string([]byte{byte(b)}), "x" + string([]byte{byte(b)}), string([]byte{byte(b)}) + "x", "or" + string([]byte{byte(b)}) + "ders"} {
			if x := sub(5); state.Good(named(x, s), 100, 50) != ok {
				t.Errorf("Name %q: not %v", s, ok)
			}
		}
	}
	for _, s := range []string{"", "ä", "a/b", "+", "#", "k=v", "\uff41", "\u0661", "a\u0430", "\U0001d51e", "a b", "A"} {
		if state.Good(named(sub(5), s), 100, 50) {
			t.Errorf("Name %q: true", s)
		}
	}
	for _, c := range []struct {
		name string
		good []string
		bad  []string
		set  func(x *api.Sub, s string)
	}{
		{"Topic", []string{"a", "+", "#", "a/+/#", strings.Repeat("+/", 14) + "#"}, []string{"", "/", "a/", "#/a", "A", "a b", "*", strings.Repeat("+/", 15) + "#"}, func(x *api.Sub, s string) { x.Topic = s }},
		{"Want", []string{"", "a=1", "a=1,b=2"}, []string{"a", "a=", "b=2,a=1", "a=1,a=1", "A=1", "a=1,", " "}, func(x *api.Sub, s string) { x.Want = s }},
		{"Attr of one that waits", []string{"", "a=1", "a=1,b=2"}, []string{"a", "a=", "b=2,a=1", "a=1,a=1", "A=1", "a=1,", " "}, func(x *api.Sub, s string) { x.Queue[1].Attr = s }},
		{"Attr of a dead one", []string{"", "a=1", "a=1,b=2"}, []string{"a", "a=", "b=2,a=1", "a=1,a=1", "A=1", "a=1,", " "}, func(x *api.Sub, s string) { x.Queue[5].Attr = s }},
		{"Note", []string{"", "\x00\xff", "ä\n", "A note, of any signs."}, nil, func(x *api.Sub, s string) { x.Note = s }},
		{"Body", []string{"", "\x00\xff", "ä\n", "A body, of any signs."}, nil, func(x *api.Sub, s string) { x.Queue[0].Body = s }},
		{"Why of one that waits", []string{""}, []string{"nack", "time", "x", " "}, func(x *api.Sub, s string) { x.Queue[1].Why = s }},
		{"Why of a leased one", []string{""}, []string{"nack", "time", "x", " "}, func(x *api.Sub, s string) { x.Queue[2].Why = s }},
		{"Why of a dead one", []string{"nack", "time"}, []string{"", "Nack", "tim", "times", "nack ", "nack\x00", "x"}, func(x *api.Sub, s string) { x.Queue[4].Why = s }},
	} {
		for _, s := range append(slices.Clone(c.good), c.bad...) {
			x := sub(5)
			c.set(&x, s)
			if got := state.Good(x, 100, 50); got != slices.Contains(c.good, s) {
				t.Errorf("%s %q: %v", c.name, s, got)
			}
		}
	}
}

// named is a subscription of another name.
func named(x api.Sub, name string) api.Sub {
	x.Name = name
	return x
}

// Of texts there are so many bytes, not signs.
func TestGoodLengths(t *testing.T) {
	for n := range 100 {
		for _, c := range []struct {
			name        string
			first, last int
			set         func(x *api.Sub)
		}{
			{"Name", 1, 20, func(x *api.Sub) { x.Name = strings.Repeat("z", n) }},
			{"Topic", 1, 30, func(x *api.Sub) { x.Topic = strings.Repeat("z", n) }},
			{"Want", 0, 28, func(x *api.Sub) { x.Want = "z=" + strings.Repeat("z", n) }},
			{"Attr", 0, 28, func(x *api.Sub) { x.Queue[5].Attr = "z=" + strings.Repeat("z", n) }},
			{"Note", 0, 30, func(x *api.Sub) { x.Note = strings.Repeat(" ", n) }},
			{"Note of two bytes each", 0, 15, func(x *api.Sub) { x.Note = strings.Repeat("ä", n) }},
			{"Body", 0, 60, func(x *api.Sub) { x.Queue[0].Body = strings.Repeat("\x00", n) }},
			{"Body of a leased one", 0, 60, func(x *api.Sub) { x.Queue[3].Body = strings.Repeat("b", n) }},
			{"Body of a dead one", 0, 60, func(x *api.Sub) { x.Queue[5].Body = strings.Repeat("b", n) }},
			{"Body of two bytes each", 0, 30, func(x *api.Sub) { x.Queue[0].Body = strings.Repeat("ä", n) }},
		} {
			x := sub(5)
			c.set(&x)
			want := n >= c.first && n <= c.last && !(n == 0 && (c.name == "Want" || c.name == "Attr"))
			if got := state.Good(x, 100, 50); got != want {
				t.Errorf("%s of %d bytes: %v", c.name, n, got)
			}
		}
	}
}

// A message as the chapter has it, of all small ones, at some clocks.
func TestGoodMessages(t *testing.T) {
	yes := 0
	for _, clock := range []int{-5, -1, 0, 1, 3} {
		for most := 1; most <= 3; most++ {
			for lease := 1; lease <= 3; lease++ {
				for tries := -1; tries <= 4; tries++ {
					for until := -6; until <= 8; until++ {
						for _, why := range []string{"", "nack", "time", "other"} {
							for _, dead := range []bool{false, true} {
								x := api.Sub{ID: 1, Name: "a", Topic: "a", Lease: lease, Most: most, Queue: []api.Message{{Seq: 1, Tries: tries, Until: until, Why: why, Dead: dead}}}
								died := dead && until == 0 && (why == "nack" || why == "time") && tries == most
								leased := !dead && why == "" && until > 0 && tries >= 1 && tries <= most && until > clock && until <= clock+lease
								waits := !dead && why == "" && until == 0 && tries >= 0 && tries < most
								if got := state.Good(x, clock, 2); got != (died || leased || waits) {
									t.Fatalf("%v at %d: %v", x, clock, got)
								}
								if died || leased || waits {
									yes++
								}
							}
						}
					}
				}
			}
		}
	}
	if yes < 300 {
		t.Errorf("only %d may be", yes)
	}
}

// A clock, and a next number, at the ends: what is above, or below, is so, however many bits it takes.
func TestGoodEnds(t *testing.T) {
	for _, c := range []struct {
		clock, until int
		want         bool
	}{
		{math.MaxInt - 3, math.MaxInt, true},
		{math.MaxInt - 10, math.MaxInt, true},
		{math.MaxInt - 11, math.MaxInt, false},
		{math.MaxInt - 1, math.MaxInt, true},
		{math.MaxInt, math.MaxInt, false},
		{math.MaxInt, 1, false},
		{math.MaxInt - 3, 1, false},
		{math.MinInt, 1, false},
		{math.MinInt, math.MaxInt, false},
		{math.MinInt + 5, 10, false},
		{-1, math.MaxInt, false},
		{-9, 1, true},
		{-9, 2, false},
		{-10, 1, false},
		{0, 10, true},
		{0, 11, false},
		{1 << 52, 1<<52 + 10, true},
		{1 << 52, 1<<52 + 11, false},
	} {
		x := api.Sub{ID: 1, Name: "a", Topic: "a", Lease: 10, Most: 1, Queue: []api.Message{{Seq: 1, Tries: 1, Until: c.until}}}
		if got := state.Good(x, c.clock, 2); got != c.want {
			t.Errorf("leased at %d until %d: %v", c.clock, c.until, got)
		}
	}
	x := api.Sub{ID: 1, Name: "a", Topic: "a", Lease: 10, Most: 1}
	for _, c := range []struct {
		floor, next int
		want        bool
	}{
		{0, 0, false}, {0, 1, true}, {0, -1, false}, {0, math.MinInt, false}, {0, math.MinInt + 1, false}, {0, math.MaxInt, true},
		{-1, 1, false}, {1, 1, false}, {1, 2, true}, {math.MaxInt, math.MaxInt, false}, {math.MaxInt - 1, math.MaxInt, true}, {math.MaxInt, math.MinInt, false}, {math.MinInt, math.MaxInt, false},
	} {
		x.Floor = c.floor
		if got := state.Good(x, 0, c.next); got != c.want {
			t.Errorf("Floor %d, ahead of %d: %v", c.floor, c.next, got)
		}
	}
}

func TestRight(t *testing.T) {
	for _, s := range []api.State{{Next: 1}, {Next: 1, Subs: []api.Sub{}}, full(), full(1), full(30), full(2, 5, 9), full(1, 2, 3, 29, 30), {Clock: 1 << 52, Next: 1 << 30, Last: 1 << 30}} {
		if !state.Right(s) {
			t.Errorf("a state may not be: %v", s)
		}
	}
	for _, s := range []api.State{{}, full(31), full(0), full(-1), full(5, 5), full(5, 2), full(2, 9, 5), full(2, 5, 31), full(0, 1), full(math.MinInt), full(math.MaxInt)} {
		if state.Right(s) {
			t.Errorf("a state may be: %v", s)
		}
	}
	for _, c := range []struct {
		name        string
		first, last int
		set         func(s *api.State, n int)
	}{
		{"Clock", 0, 1 << 52, func(s *api.State, n int) { s.Clock, s.Subs = n, nil }},
		{"Clock of leased ones", 100, 100, func(s *api.State, n int) { s.Clock = n }},
		{"Next", 1, 1 << 30, func(s *api.State, n int) { s.Next, s.Subs = n, nil }},
		{"Next of a queue", 50, 1 << 30, func(s *api.State, n int) { s.Next = n }},
		{"Last", 0, 1 << 30, func(s *api.State, n int) { s.Last, s.Subs = n, nil }},
		{"Last of an ID", 9, 1 << 30, func(s *api.State, n int) { s.Last = n }},
		{"the first ID", 1, 4, func(s *api.State, n int) { s.Subs[0].ID = n }},
		{"the second ID", 3, 8, func(s *api.State, n int) { s.Subs[1].ID = n }},
		{"the last ID", 6, 30, func(s *api.State, n int) { s.Subs[2].ID = n }},
	} {
		for _, n := range edges(0, 1, 2, 3, 5, 6, 8, 9, 30, 31, 50, 91, 100, 101, 1<<30, 1<<52) {
			s := full(2, 5, 9)
			c.set(&s, n)
			if got := state.Right(s); got != (n >= c.first && n <= c.last) {
				t.Errorf("%s %d: %v", c.name, n, got)
			}
		}
	}
}

// At most 20 subscriptions, each one Good.
func TestRightSubs(t *testing.T) {
	for n := range 25 {
		s := full()
		for id := range n {
			s.Subs = append(s.Subs, sub(id+1))
		}
		if got := state.Right(s); got != (n <= 20) {
			t.Errorf("%d subscriptions: %v", n, got)
		}
		if n > 20 {
			continue
		}
		for i := range n {
			s.Subs[i].Most = 10
			if state.Right(s) {
				t.Errorf("of %d subscriptions the one at %d may not be", n, i)
			}
			s.Subs[i].Most = 3
		}
	}
}
