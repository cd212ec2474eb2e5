package state_test

import (
	"math"
	"math/rand"
	"reflect"
	"slices"
	"testing"

	"roadstead/api"
	"roadstead/state"
)

// sub is a subscription that may be at the clock 100, ahead of 50: it has acknowledgements, and a message of each sort.
func sub(id int) api.Sub {
	return api.Sub{
		ID: id, Name: "orders7", Topic: "a/+/#", Want: "k=v", Lease: 10, Most: 3, Floor: 20, Acks: []int{22, 25, 40}, Note: "A note.",
		Queue: []api.Message{
			{Seq: 21, Body: "waits", Attr: "k=v", Prio: 9},
			{Seq: 23, Body: "waits again", Attr: "k=v", Tries: 2},
			{Seq: 24, Body: "leased", Attr: "a=1,k=v", Tries: 1, Until: 101},
			{Seq: 26, Tries: 3, Until: 110, Prio: 4},
			{Seq: 41, Body: "dead", Tries: 3, Dead: true, Why: "nack"},
			{Seq: 49, Tries: 3, Dead: true, Why: "time"},
		},
	}
}

// full is a state that may be, with subscriptions of some IDs.
func full(ids ...int) api.State {
	s := api.State{Clock: 100, Next: 50, Last: 30}
	for _, id := range ids {
		s.Subs = append(s.Subs, sub(id))
	}
	return s
}

// marked is a state of subscriptions of some IDs, in any order; each has its place in the list as its floor.
func marked(ids ...int) api.State {
	s := api.State{Clock: 3, Next: 2, Last: 1}
	for i, id := range ids {
		s.Subs = append(s.Subs, api.Sub{ID: id, Floor: i})
	}
	return s
}

// equal says whether two things are the same; lists that are nil and empty ones are.
func equal(a, b any) bool {
	return reflect.DeepEqual(plain(reflect.ValueOf(a)).Interface(), plain(reflect.ValueOf(b)).Interface())
}

// plain is a copy of a thing, in which lists without things are nil.
func plain(v reflect.Value) reflect.Value {
	c := reflect.New(v.Type()).Elem()
	switch v.Kind() {
	case reflect.Struct:
		for i := range v.NumField() {
			c.Field(i).Set(plain(v.Field(i)))
		}
	case reflect.Slice:
		for i := range v.Len() {
			c = reflect.Append(c, plain(v.Index(i)))
		}
	default:
		c.Set(v)
	}
	return c
}

// lists are the lists of numbers up to most, of so many or fewer.
func lists(most, n int) [][]int {
	all := [][]int{nil}
	for from := 0; n > 0; n-- {
		end := len(all)
		for _, l := range all[from:end] {
			for i := range most + 1 {
				all = append(all, append(slices.Clone(l), i))
			}
		}
		from = end
	}
	return all
}

func TestFind(t *testing.T) {
	for _, ids := range lists(3, 5) {
		s := marked(ids...)
		for _, id := range []int{-1, 0, 1, 2, 3, 4, math.MinInt, math.MaxInt} {
			want := api.Sub{}
			has := slices.Contains(ids, id)
			if has {
				want = api.Sub{ID: id, Floor: slices.Index(ids, id)}
			}
			if x, ok := state.Find(s, id); ok != has || !equal(x, want) {
				t.Fatalf("Find of %d in %v: %v, %v", id, ids, x, ok)
			}
		}
	}
	for _, id := range []int{math.MinInt, -5, 0, 1 << 30, math.MaxInt} {
		if x, ok := state.Find(marked(7, id, 9), id); !ok || x.ID != id || x.Floor != 1 {
			t.Errorf("Find of %d: %v, %v", id, x, ok)
		}
	}
	if x, ok := state.Find(full(2, 5, 9), 5); !ok || !equal(x, sub(5)) {
		t.Errorf("Find: %v, %v", x, ok)
	}
	if x, ok := state.Find(full(2, 5, 9), 6); ok || !equal(x, api.Sub{}) {
		t.Errorf("Find of none: %v, %v", x, ok)
	}
}

// put are IDs with one in place of those that are the same, ahead of the first above; of the others the places stay.
func put(ids []int, id int) api.State {
	s := marked(ids...)
	s.Subs = slices.DeleteFunc(s.Subs, func(x api.Sub) bool { return x.ID == id })
	for i, x := range s.Subs {
		if x.ID > id {
			s.Subs = slices.Concat(s.Subs[:i], []api.Sub{{ID: id, Floor: 99}}, s.Subs[i:])
			return s
		}
	}
	s.Subs = append(s.Subs, api.Sub{ID: id, Floor: 99})
	return s
}

// Of each list of IDs, those that do not rise, or stand more than once, too.
func TestPut(t *testing.T) {
	for _, ids := range lists(4, 5) {
		for id := -1; id <= 5; id++ {
			got := state.Put(marked(ids...), api.Sub{ID: id, Floor: 99})
			if !equal(got, put(ids, id)) {
				t.Fatalf("Put of %d to %v: %v", id, ids, got.Subs)
			}
			if x, ok := state.Find(got, id); !ok || x.Floor != 99 {
				t.Fatalf("Put of %d to %v: %v, %v is found", id, ids, x, ok)
			}
		}
	}
	for _, id := range []int{math.MinInt, math.MaxInt} {
		if got := state.Put(marked(3, 8), api.Sub{ID: id, Floor: 99}); !equal(got, put([]int{3, 8}, id)) {
			t.Errorf("Put of %d: %v", id, got)
		}
	}
	s := state.Put(state.Put(state.Put(full(), sub(9)), sub(2)), sub(5))
	if !equal(s, full(2, 5, 9)) || !state.Right(s) {
		t.Errorf("Put: %v", s)
	}
	if s = state.Put(full(2, 5, 9), api.Sub{ID: 5}); !equal(s.Subs, []api.Sub{sub(2), {ID: 5}, sub(9)}) {
		t.Errorf("Put in place of another one: %v", s)
	}
	if s = state.Put(api.State{}, api.Sub{}); !equal(s, api.State{Subs: []api.Sub{{}}}) {
		t.Errorf("Put of nothing to nothing: %v", s)
	}
}

func TestWithout(t *testing.T) {
	for _, ids := range lists(3, 5) {
		for _, id := range []int{-1, 0, 1, 2, 3, 4, math.MinInt, math.MaxInt} {
			want := marked(ids...)
			want.Subs = slices.DeleteFunc(want.Subs, func(x api.Sub) bool { return x.ID == id })
			if got := state.Without(marked(ids...), id); !equal(got, want) {
				t.Fatalf("Without %d of %v: %v", id, ids, got)
			}
		}
	}
	if s := state.Without(full(2, 5, 9), 5); !equal(s, full(2, 9)) {
		t.Errorf("Without: %v", s)
	}
	if s := state.Without(full(2, 5, 9), 6); !equal(s, full(2, 5, 9)) {
		t.Errorf("Without one that is not there: %v", s)
	}
}

func TestSettle(t *testing.T) {
	for _, c := range []struct {
		name  string
		floor int
		acks  []int
		seqs  []int
		next  int
		want  int
		left  []int
	}{
		{"nothing in the queue", 3, nil, nil, 10, 9, nil},
		{"nothing in the queue, the floor as high as may be", 9, nil, nil, 10, 9, nil},
		{"nothing in the queue, all acknowledged", 3, []int{4, 5, 9}, nil, 10, 9, nil},
		{"the first right above the floor", 3, []int{5, 6}, []int{4, 7}, 10, 3, []int{5, 6}},
		{"the first above acknowledgements", 3, []int{4, 5, 7}, []int{6, 8}, 10, 5, []int{7}},
		{"the first behind a gap", 3, []int{9}, []int{8}, 10, 7, []int{9}},
		{"the first behind all of them", 3, []int{4, 5}, []int{9}, 10, 8, nil},
		{"the floor is higher", 20, []int{4, 19, 20, 21}, []int{8}, 10, 20, []int{21}},
		{"the floor is higher than the next", 20, []int{20, 21}, nil, 10, 20, []int{21}},
		{"the first of the queue, not the least one", 1, []int{2, 6, 8}, []int{7, 3}, 10, 6, []int{8}},
		{"acknowledgements that do not rise", 1, []int{8, 2, 9, 6, 7, 2, 8}, []int{7, 3}, 10, 6, []int{8, 9, 7, 8}},
		{"one that is in the queue, too", 1, []int{5}, []int{5}, 10, 4, []int{5}},
		{"below nought", -9, []int{-8, -3, 0}, []int{-4}, 10, -5, []int{-3, 0}},
		{"a first one of nought", -9, []int{-1, 0}, []int{0}, 10, -1, []int{0}},
		{"a next of nought", -9, []int{-1, 0}, nil, 0, -1, []int{0}},
		{"a first one that is the least of all", 3, []int{4, math.MaxInt}, []int{math.MinInt}, 10, math.MaxInt, nil},
		{"a next that is the least of all", 3, []int{4}, nil, math.MinInt, math.MaxInt, nil},
		{"a next right above that", 3, []int{4}, nil, math.MinInt + 1, 3, []int{4}},
		{"a floor that is the least of all", math.MinInt, []int{math.MinInt, 4}, nil, math.MinInt + 1, math.MinInt, []int{4}},
		{"a next that is the greatest of all", 3, []int{math.MaxInt - 1, math.MaxInt}, nil, math.MaxInt, math.MaxInt - 1, []int{math.MaxInt}},
		{"next is not asked for", 3, []int{5}, []int{4}, math.MinInt, 3, []int{5}},
	} {
		x := api.Sub{ID: 2, Name: "n", Topic: "t", Want: "w", Lease: 3, Most: 4, Floor: c.floor, Acks: c.acks, Note: "o"}
		for _, seq := range c.seqs {
			x.Queue = append(x.Queue, api.Message{Seq: seq, Body: "b", Tries: 1})
		}
		want := x
		want.Floor, want.Acks = c.want, c.left
		x.Acks = slices.Clone(c.acks)
		if got := state.Settle(x, c.next); !equal(got, want) {
			t.Errorf("%s: %v, not %v", c.name, got, want)
		}
	}
}

// A subscription that may be is still one, if nothing is to be moved it is as it was; and it settles but once.
func TestSettleGood(t *testing.T) {
	draw := rand.New(rand.NewSource(11))
	moved := 0
	for range 20000 {
		x := api.Sub{ID: 1, Name: "n", Topic: "a", Lease: 1, Most: 1, Floor: draw.Intn(5)}
		for seq := x.Floor + 1; seq < 30; seq++ {
			switch draw.Intn(4) {
			case 0:
				x.Queue = append(x.Queue, api.Message{Seq: seq})
			case 1:
				if len(x.Acks) < 20 {
					x.Acks = append(x.Acks, seq)
				}
			}
		}
		got := state.Settle(x, 30)
		if !state.Good(x, 0, 30) || !state.Good(got, 0, 30) || !equal(got.Queue, x.Queue) || got.Floor < x.Floor || !equal(state.Settle(got, 30), got) {
			t.Fatalf("%v is settled as %v", x, got)
		}
		if got.Floor > x.Floor {
			moved++
		}
	}
	if moved < 2000 {
		t.Errorf("only %d floors are moved", moved)
	}
}

// Of each field of all there is: another value is another state.
func TestSame(t *testing.T) {
	if !state.Same(full(2, 5), full(2, 5)) || !state.Same(api.State{}, api.State{}) || !state.Same(full(), full()) {
		t.Error("the same ones are not the same")
	}
	n := 0
	others(reflect.ValueOf(full(2, 5)), func(v reflect.Value) {
		s := v.Interface().(api.State)
		if state.Same(full(2, 5), s) || state.Same(s, full(2, 5)) || !state.Same(s, s) {
			t.Errorf("the same as another one: %v", s)
		}
		n++
	})
	// Three fields; two subscriptions, each of eight fields, three acknowledgements, six messages of eight fields; five lists, each of them shorter, longer, and swapped.
	if want := 3 + 2*(8+3+6*8) + 5*3; n != want {
		t.Errorf("%d states are others, not %d", n, want)
	}
}

// others tells copies of a thing, each with one field, or one list, that is another one.
func others(v reflect.Value, tell func(reflect.Value)) {
	switch v.Kind() {
	case reflect.Struct:
		for i := range v.NumField() {
			others(v.Field(i), func(x reflect.Value) {
				c := plain(v)
				c.Field(i).Set(x)
				tell(c)
			})
		}
	case reflect.Slice:
		for i := range v.Len() {
			others(v.Index(i), func(x reflect.Value) {
				c := plain(v)
				c.Index(i).Set(x)
				tell(c)
			})
		}
		tell(plain(v).Slice(0, v.Len()-1))
		tell(reflect.Append(plain(v), v.Index(v.Len()-1)))
		c := plain(v)
		c.Index(0).Set(v.Index(1))
		c.Index(1).Set(v.Index(0))
		tell(c)
	default:
		tell(another(v))
	}
}

// another is a value that is not that one.
func another(v reflect.Value) reflect.Value {
	switch x := v.Interface().(type) {
	case int:
		return reflect.ValueOf(x + 1)
	case string:
		return reflect.ValueOf(x + " ")
	default:
		return reflect.ValueOf(!x.(bool))
	}
}

// A list that is nil and an empty one are the same; what lies behind a list's length is not looked at.
func TestSameEmpty(t *testing.T) {
	bare := api.State{Next: 1, Subs: []api.Sub{{ID: 1}}}
	empty := api.State{Next: 1, Subs: []api.Sub{{ID: 1, Acks: []int{}, Queue: []api.Message{}}}}
	behind := api.State{Next: 1, Subs: []api.Sub{{ID: 1, Acks: []int{7}[:0], Queue: []api.Message{{Seq: 8}}[:0]}, {ID: 2}}[:1]}
	none := api.State{Next: 1, Subs: []api.Sub{}}
	if !state.Same(bare, empty) || !state.Same(empty, bare) || !state.Same(bare, behind) || !state.Same(behind, empty) || !state.Same(api.State{Next: 1}, none) || !state.Same(none, api.State{Next: 1}) {
		t.Error("an empty list is not the same as none")
	}
	if state.Same(bare, none) || state.Same(none, bare) {
		t.Error("a subscription is the same as none")
	}
	for _, x := range []api.Sub{{ID: 1, Acks: []int{0}}, {ID: 1, Queue: []api.Message{{}}}} {
		s := api.State{Next: 1, Subs: []api.Sub{x}}
		if state.Same(bare, s) || state.Same(s, empty) {
			t.Errorf("noughts are the same as none: %v", x)
		}
	}
}

// spoil overwrites all lists of a subscription, and what lies behind them.
func spoil(x api.Sub) {
	acks, queue := x.Acks[:cap(x.Acks)], x.Queue[:cap(x.Queue)]
	for i := range acks {
		acks[i] = -7
	}
	for i := range queue {
		queue[i] = api.Message{Seq: -7, Body: "spoilt"}
	}
}

// spoilAll does so with those of a state.
func spoilAll(s api.State) {
	subs := s.Subs[:cap(s.Subs)]
	for i := range subs {
		spoil(subs[i])
		subs[i] = api.Sub{ID: -7, Name: "spoilt"}
	}
}

// roomy is a state whose lists have something behind their length, in their memory.
func roomy() api.State {
	s := full(2, 5, 9, 11)
	for i := range s.Subs {
		x := &s.Subs[i]
		x.Acks = append(x.Acks, 1000)[:len(x.Acks)]
		x.Queue = append(x.Queue, api.Message{Seq: 1000})[:len(x.Queue)]
	}
	s.Subs = s.Subs[:3]
	return s
}

// behind says whether what lies behind the lists' lengths in roomy is as it was.
func behind(s api.State) bool {
	subs := s.Subs[:4]
	ok := subs[3].ID == 11
	for _, x := range subs {
		n, k := len(x.Acks), len(x.Queue)
		ok = ok && x.Acks[:n+1][n] == 1000 && x.Queue[:k+1][k].Seq == 1000
	}
	return ok
}

// What is handed in is neither changed nor kept; what comes out is new memory, and has nothing of what lies behind a length.
func TestMemory(t *testing.T) {
	for name, call := range map[string]func(s api.State, x api.Sub) any{
		"Find":     func(s api.State, x api.Sub) any { y, _ := state.Find(s, 5); return y },
		"Put":      func(s api.State, x api.Sub) any { return state.Put(s, x) },
		"Put last": func(s api.State, x api.Sub) any { x.ID = 20; return state.Put(s, x) },
		"Put first": func(s api.State, x api.Sub) any {
			x.ID = 1
			return state.Put(s, x)
		},
		"Without":   func(s api.State, x api.Sub) any { return state.Without(s, 5) },
		"Without 2": func(s api.State, x api.Sub) any { return state.Without(s, 7) },
		"Settle":    func(s api.State, x api.Sub) any { return state.Settle(x, 100) },
		"Settle all": func(s api.State, x api.Sub) any {
			x.Queue = x.Queue[:0]
			return state.Settle(x, 100)
		},
		"Right": func(s api.State, x api.Sub) any { return state.Right(s) },
		"Good":  func(s api.State, x api.Sub) any { return state.Good(x, 100, 50) },
		"Same":  func(s api.State, x api.Sub) any { return state.Same(s, full(2, 5, 9)) },
	} {
		s := roomy()
		x := roomy().Subs[1]
		x.Queue = x.Queue[1:]
		want := plain(reflect.ValueOf(call(s, x))).Interface()
		got := call(s, x)
		other := call(s, x)
		if !equal(got, want) || !equal(s, full(2, 5, 9)) || !behind(s) || !equal(x.Acks, sub(5).Acks) || !equal(x.Queue, sub(5).Queue[1:]) || x.Acks[:4][3] != 1000 || x.Queue[:6][5].Seq != 1000 {
			t.Errorf("%s: what is handed in is changed", name)
		}
		for _, y := range []any{other, s, x} {
			switch z := y.(type) {
			case api.State:
				spoilAll(z)
			case api.Sub:
				spoil(z)
			}
		}
		if !equal(got, want) {
			t.Errorf("%s: what comes out is kept: %v", name, got)
		}
		again := roomy()
		x = again.Subs[1]
		fresh := call(again, x)
		switch z := fresh.(type) {
		case api.State:
			spoilAll(z)
		case api.Sub:
			spoil(z)
		}
		if !equal(again, full(2, 5, 9)) || !behind(again) {
			t.Errorf("%s: what comes out is of what was handed in", name)
		}
	}
}
