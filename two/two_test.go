package two_test

import (
	"bytes"
	"fmt"
	"math"
	"math/rand"
	"slices"
	"strings"
	"testing"

	"roadstead/api"
	"roadstead/state"
	"roadstead/two"
)

// top is the greatest number of a form, 2^53.
const top = "\x80\x80\x80\x80\x80\x80\x80\x10"

// sub is the subscription 7, that has all that one may have, with a message of each sort.
func sub() api.Sub {
	return api.Sub{
		ID: 7, Name: "orders", Topic: "a/#", Want: "k=w", Lease: 300, Most: 3, Floor: 20, Acks: []int{22, 25, 325}, Note: "A note.",
		Queue: []api.Message{
			{Seq: 21, Body: "waits", Attr: "k=v"},
			{Seq: 23, Body: "waits again", Tries: 2, Prio: 9},
			{Seq: 24, Attr: "a=1,k=v", Tries: 1, Until: 300},
			{Seq: 26, Body: "dead", Tries: 3, Dead: true, Why: "nack"},
			{Seq: 1000, Body: "late", Tries: 3, Dead: true, Why: "time", Prio: 4},
		},
	}
}

// key is a row's key, as the document writes it.
func key(table string, id, seq int) string {
	return fmt.Sprintf("2%s%010d%010d", table, id, seq)
}

// keyed is a row of the subscription 7.
func keyed(table string, seq int, value string) api.Row {
	return api.Row{Key: key(table, 7, seq), Value: []byte(value)}
}

// Where the rows of sub stand in rows.
const (
	atAcks, atBody, atNote, atQueue, atSub, atExtra = 0, 1, 6, 7, 12, 13
)

// rows are those of sub, sign by sign.
func rows() []api.Row {
	return []api.Row{
		keyed("a", 0, "\x03\x02\x03\xac\x02"),
		keyed("b", 21, "\x05waits"), keyed("b", 23, "\x0bwaits again"), keyed("b", 24, "\x00"), keyed("b", 26, "\x04dead"), keyed("b", 1000, "\x04late"),
		keyed("n", 0, "\x07A note."),
		keyed("q", 21, "\x03k=v\x00\x00\x00"),
		keyed("q", 23, "\x00\x02\x00\x00"),
		keyed("q", 24, "\x07a=1,k=v\x01\xac\x02\x00"),
		keyed("q", 26, "\x00\x03\x00\x01"),
		keyed("q", 1000, "\x00\x03\x00\x01"),
		keyed("s", 0, "\x06orders\x03a/#\x03k=w\xac\x02\x03\x14"),
		keyed("x", 23, "\x09\x00"), keyed("x", 26, "\x00\x01"), keyed("x", 1000, "\x04\x02"),
	}
}

// bare is the row that each subscription has, of one that has nothing.
func bare() api.Row {
	return keyed("s", 0, "\x00\x00\x00\x00\x00\x00")
}

// equal says whether two subscriptions are the same.
func equal(a, b api.Sub) bool {
	return state.Same(api.State{Subs: []api.Sub{a}}, api.State{Subs: []api.Sub{b}})
}

// equalRows says whether rows are the same.
func equalRows(a, b []api.Row) bool {
	return slices.EqualFunc(a, b, func(x, y api.Row) bool { return x.Key == y.Key && bytes.Equal(x.Value, y.Value) })
}

// encodes says whether a subscription has some rows.
func encodes(t *testing.T, what string, x api.Sub, want ...api.Row) {
	t.Helper()
	if l := two.Encode(x); !equalRows(l, want) {
		t.Errorf("%q: %q", what, l)
	}
}

// The document's first example, and what stands in that row.
func TestEncodeBare(t *testing.T) {
	encodes(t, "noughts", api.Sub{ID: 7}, bare())
	encodes(t, "a subscription", api.Sub{ID: 7, Name: "n", Topic: "#", Lease: 1, Most: 2, Floor: 3}, keyed("s", 0, "\x01n\x01#\x00\x01\x02\x03"))
	encodes(t, "empty lists", api.Sub{ID: 7, Topic: "#", Acks: []int{}, Queue: []api.Message{}}, keyed("s", 0, "\x00\x01#\x00\x00\x00\x00"))
	encodes(t, "what is wanted", api.Sub{ID: 7, Want: "?"}, keyed("s", 0, "\x00\x00\x01?\x00\x00\x00"))
}

func TestEncode(t *testing.T) {
	encodes(t, "all", sub(), rows()...)
	encodes(t, "a note of one byte", api.Sub{ID: 7, Note: "\x00"}, keyed("n", 0, "\x01\x00"), bare())
	encodes(t, "a message", api.Sub{ID: 7, Queue: []api.Message{{}}}, keyed("b", 0, "\x00"), keyed("q", 0, "\x00\x00\x00\x00"), bare())
	encodes(t, "a message with a prio", api.Sub{ID: 7, Queue: []api.Message{{Seq: 9, Body: "b", Prio: 1}}},
		keyed("b", 9, "\x01b"), keyed("q", 9, "\x00\x00\x00\x00"), bare(), keyed("x", 9, "\x01\x00"))
	encodes(t, "a dead one", api.Sub{ID: 7, Queue: []api.Message{{Seq: 9, Attr: "a", Dead: true, Why: "nack"}}},
		keyed("b", 9, "\x00"), keyed("q", 9, "\x01a\x00\x00\x01"), bare(), keyed("x", 9, "\x00\x01"))
}

// Acknowledgements are told by how many they are, and how far each is above the one ahead, the first above the floor.
func TestEncodeAcks(t *testing.T) {
	floored := func(floor string) api.Row { return keyed("s", 0, "\x00\x00\x00\x00\x00"+floor) }
	for _, c := range []struct {
		name  string
		floor int
		acks  []int
		want  []api.Row
	}{
		{"one", 0, []int{5}, []api.Row{keyed("a", 0, "\x01\x05"), bare()}},
		{"one right above the floor", 20, []int{21}, []api.Row{keyed("a", 0, "\x01\x01"), floored("\x14")}},
		{"the floor itself", 20, []int{20}, []api.Row{keyed("a", 0, "\x01\x00"), floored("\x14")}},
		{"one below the floor", 20, []int{5}, []api.Row{keyed("a", 0, "\x01\x00"), floored("\x14")}},
		{"some below the floor", 20, []int{5, 7, 30}, []api.Row{keyed("a", 0, "\x03\x00\x02\x17"), floored("\x14")}},
		{"wide gaps", 1, []int{129, 429}, []api.Row{keyed("a", 0, "\x02\x80\x01\xac\x02"), floored("\x01")}},
		{"the widest gap", 1, []int{1<<53 + 1, 1 << 54}, []api.Row{keyed("a", 0, "\x02"+top+"\xff\xff\xff\xff\xff\xff\xff\x0f"), floored("\x01")}},
		{"wider gaps", 0, []int{1<<53 + 1, math.MaxInt}, []api.Row{keyed("a", 0, "\x02"+top+top), bare()}},
		{"gaps that no int tells", math.MinInt, []int{math.MaxInt}, []api.Row{keyed("a", 0, "\x01"+top), bare()}},
		{"from end to end", 0, []int{math.MinInt, math.MaxInt}, []api.Row{keyed("a", 0, "\x02\x00"+top), bare()}},
		{"far below the floor", math.MaxInt, []int{math.MinInt, -1}, []api.Row{keyed("a", 0, "\x02\x00"+top), floored(top)}},
		{"below nought", -9, []int{-8, -2}, []api.Row{keyed("a", 0, "\x02\x01\x06"), bare()}},
	} {
		encodes(t, c.name, api.Sub{ID: 7, Floor: c.floor, Acks: c.acks}, c.want...)
	}
	many := api.Sub{ID: 7}
	for i := range 200 {
		many.Acks = append(many.Acks, 2*i+2)
	}
	encodes(t, "many", many, keyed("a", 0, "\xc8\x01"+strings.Repeat("\x02", 200)), bare())
}

// Of one that is dead any other reason counts as time, of one that is not dead all do as none.
func TestEncodeDeaths(t *testing.T) {
	for _, why := range []string{"", "nack", "time", "Nack", "nac", "nacks", "nack\x00", " nack", "times", "other"} {
		for _, prio := range []string{"\x00", "\x01"} {
			kind := "\x02"
			if why == "nack" {
				kind = "\x01"
			}
			m := api.Message{Seq: 9, Dead: true, Why: why, Prio: int(prio[0])}
			encodes(t, "dead of "+why, api.Sub{ID: 7, Queue: []api.Message{m}},
				keyed("b", 9, "\x00"), keyed("q", 9, "\x00\x00\x00\x01"), bare(), keyed("x", 9, prio+kind))
			m.Dead = false
			want := []api.Row{keyed("b", 9, "\x00"), keyed("q", 9, "\x00\x00\x00\x00"), bare()}
			if m.Prio > 0 {
				want = append(want, keyed("x", 9, prio+"\x00"))
			}
			encodes(t, "not dead, of "+why, api.Sub{ID: 7, Queue: []api.Message{m}}, want...)
		}
	}
}

// Numbers are clipped as layers 1 and 10 do, texts are told at any length.
func TestEncodeEnds(t *testing.T) {
	const id = 9999999999
	encodes(t, "numbers outside", api.Sub{ID: math.MaxInt, Lease: -1, Most: math.MaxInt, Floor: 1<<53 + 1, Queue: []api.Message{
		{Seq: -1, Tries: math.MinInt, Until: math.MaxInt, Prio: -1}, {Seq: id + 1, Prio: 1 << 60},
	}},
		api.Row{Key: key("b", id, 0), Value: []byte("\x00")}, api.Row{Key: key("b", id, id), Value: []byte("\x00")},
		api.Row{Key: key("q", id, 0), Value: []byte("\x00\x00" + top + "\x00")}, api.Row{Key: key("q", id, id), Value: []byte("\x00\x00\x00\x00")},
		api.Row{Key: key("s", id, 0), Value: []byte("\x00\x00\x00\x00" + top + top)},
		api.Row{Key: key("x", id, 0), Value: []byte("\x00\x00")}, api.Row{Key: key("x", id, id), Value: []byte(top + "\x00")})
	long := strings.Repeat("l", 300)
	text := "\xac\x02" + long
	encodes(t, "long texts", api.Sub{ID: -5, Name: long, Topic: long, Want: long, Note: long, Queue: []api.Message{{Body: long, Attr: long}}},
		api.Row{Key: key("b", 0, 0), Value: []byte(text)}, api.Row{Key: key("n", 0, 0), Value: []byte(text)},
		api.Row{Key: key("q", 0, 0), Value: []byte(text + "\x00\x00\x00")},
		api.Row{Key: key("s", 0, 0), Value: []byte(text + text + text + "\x00\x00\x00")})
}

// Where nothing is promised, there is an end.
func TestEncodeWild(t *testing.T) {
	r := rand.New(rand.NewSource(13))
	for range 2000 {
		x := sub()
		for i := range x.Acks {
			x.Acks[i] = []int{r.Intn(9) - 4, math.MinInt, math.MaxInt}[r.Intn(3)]
		}
		for i := range x.Queue {
			x.Queue[i].Seq = r.Intn(9) - 4
		}
		x.ID, x.Lease, x.Most, x.Floor = r.Int()-r.Int(), -r.Int(), r.Int(), r.Int()-r.Int()
		two.Decode(two.Encode(x))
	}
}

// What is handed in is neither changed nor kept, nor is what lies behind its length; what comes out is shared by nothing.
func TestEncodeMemory(t *testing.T) {
	x := sub()
	x.Acks = append(x.Acks, 999)[:3]
	x.Queue = append(x.Queue, api.Message{Seq: 999})[:5]
	first, second := two.Encode(x), two.Encode(x)
	if !equal(x, sub()) || x.Acks[:4][3] != 999 || x.Queue[:6][5].Seq != 999 {
		t.Errorf("what was handed in is another one: %+v", x)
	}
	for i, row := range first {
		b := row.Value[:cap(row.Value)]
		for j := range b {
			b[j] = 0xee
		}
		if !equalRows(first[i+1:], rows()[i+1:]) {
			t.Errorf("the row %d shares memory with one behind it", i)
		}
	}
	_ = append(first, api.Row{Key: "x"})
	clear(first)
	x.Acks[0], x.Queue[0].Seq = 1, 1
	if !equalRows(second, rows()) {
		t.Errorf("what came out is shared: %q", second)
	}
}
