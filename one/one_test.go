package one_test

import (
	"fmt"
	"math"
	"math/rand"
	"reflect"
	"slices"
	"strings"
	"testing"

	"roadstead/api"
	"roadstead/one"
)

// sub is a subscription that has all that one may have, with a message of each sort.
func sub(id int) api.Sub {
	return api.Sub{
		ID: id, Name: "orders", Topic: "a/#", Want: "k=v", Lease: 300, Most: 3, Floor: 20, Acks: []int{22, 25, 128}, Note: "A note.",
		Queue: []api.Message{
			{Seq: 21, Body: "waits", Attr: "k=v"},
			{Seq: 23, Body: "waits again", Tries: 2, Prio: 9},
			{Seq: 24, Attr: "a=1,k=v", Tries: 1, Until: 300},
			{Seq: 26, Body: "dead", Tries: 3, Dead: true, Why: "nack"},
			{Seq: 1000, Body: "dead", Tries: 3, Dead: true, Why: "time", Prio: 4},
		},
	}
}

// key is a row's key, as the document writes it.
func key(table string, id, seq int) string {
	return fmt.Sprintf("1%s%010d%010d", table, id, seq)
}

// keyed is a row of that subscription.
func keyed(table string, seq int, value string) api.Row {
	return api.Row{Key: key(table, 7, seq), Value: []byte(value)}
}

// rows are those of the subscription 7, sign by sign.
func rows() []api.Row {
	return []api.Row{
		keyed("a", 22, ""), keyed("a", 25, ""), keyed("a", 128, ""),
		keyed("n", 0, "\x07A note."),
		keyed("q", 21, "\x05waits\x03k=v\x00\x00\x00"),
		keyed("q", 23, "\x0bwaits again\x00\x02\x00\x00"),
		keyed("q", 24, "\x00\x07a=1,k=v\x01\xac\x02\x00"),
		keyed("q", 26, "\x04dead\x00\x03\x00\x01"),
		keyed("q", 1000, "\x04dead\x00\x03\x00\x01"),
		keyed("s", 0, "\x06orders\x03a/#\xac\x02\x03\x14"),
		keyed("w", 0, "\x03k=v"),
		keyed("x", 23, "\x09\x00"), keyed("x", 26, "\x00\x01"), keyed("x", 1000, "\x04\x02"),
	}
}

// equal says whether two things are the same; lists that are nil and empty ones are.
func equal(a, b any) bool {
	return reflect.DeepEqual(plain(reflect.ValueOf(a)).Interface(), plain(reflect.ValueOf(b)).Interface())
}

// plain is a copy of a thing, in which lists without things are nil.
func plain(v reflect.Value) reflect.Value {
	c := reflect.New(v.Type()).Elem()
	switch v.Kind() {
	case reflect.Struct:
		for i := range v.NumField() {
			c.Field(i).Set(plain(v.Field(i)))
		}
	case reflect.Slice:
		for i := range v.Len() {
			c = reflect.Append(c, plain(v.Index(i)))
		}
	default:
		c.Set(v)
	}
	return c
}

// The document's first example, and what stands in that row.
func TestEncodeBare(t *testing.T) {
	for _, c := range []struct {
		x    api.Sub
		want string
	}{
		{api.Sub{ID: 7}, "\x00\x00\x00\x00\x00"},
		{api.Sub{ID: 7, Name: "n", Topic: "#", Lease: 1, Most: 2, Floor: 3}, "\x01n\x01#\x01\x02\x03"},
		{api.Sub{ID: 7, Topic: "#", Acks: []int{}, Queue: []api.Message{}}, "\x00\x01#\x00\x00\x00"},
	} {
		if l := one.Encode(c.x); !equal(l, []api.Row{keyed("s", 0, c.want)}) {
			t.Errorf("Encode of %+v: %q", c.x, l)
		}
	}
}

func TestEncode(t *testing.T) {
	if l := one.Encode(sub(7)); !equal(l, rows()) {
		t.Errorf("Encode: %q", l)
	}
	// Each of the tables that few have, by itself.
	s := keyed("s", 0, "\x00\x00\x00\x00\x00")
	for _, c := range []struct {
		name string
		x    api.Sub
		want []api.Row
	}{
		{"an acknowledgement", api.Sub{ID: 7, Acks: []int{0}}, []api.Row{keyed("a", 0, ""), s}},
		{"an acknowledgement below the floor", api.Sub{ID: 7, Acks: []int{5}}, []api.Row{keyed("a", 5, ""), s}},
		{"a note of one byte", api.Sub{ID: 7, Note: "\x00"}, []api.Row{keyed("n", 0, "\x01\x00"), s}},
		{"what is wanted", api.Sub{ID: 7, Want: "?"}, []api.Row{s, keyed("w", 0, "\x01?")}},
		{"a message", api.Sub{ID: 7, Queue: []api.Message{{}}}, []api.Row{keyed("q", 0, "\x00\x00\x00\x00\x00"), s}},
		{"a message with a prio", api.Sub{ID: 7, Queue: []api.Message{{Seq: 9, Prio: 1}}}, []api.Row{keyed("q", 9, "\x00\x00\x00\x00\x00"), s, keyed("x", 9, "\x01\x00")}},
		{"a dead one", api.Sub{ID: 7, Queue: []api.Message{{Seq: 9, Dead: true, Why: "nack"}}}, []api.Row{keyed("q", 9, "\x00\x00\x00\x00\x01"), s, keyed("x", 9, "\x00\x01")}},
	} {
		if l := one.Encode(c.x); !equal(l, c.want) {
			t.Errorf("Encode of %s: %q", c.name, l)
		}
	}
}

// Of one that is dead any other reason counts as time, of one that is not dead all do as none.
func TestEncodeDeaths(t *testing.T) {
	for _, why := range []string{"", "nack", "time", "Nack", "nac", "nacks", "nack\x00", " nack", "times", "other"} {
		for _, prio := range []int{0, 1} {
			kind := "\x02"
			if why == "nack" {
				kind = "\x01"
			}
			l := one.Encode(api.Sub{ID: 7, Queue: []api.Message{{Seq: 9, Dead: true, Why: why, Prio: prio}}})
			if len(l) != 3 || !equal(l[2], keyed("x", 9, string([]byte{byte(prio)})+kind)) {
				t.Errorf("dead of %q: %q", why, l)
			}
			l = one.Encode(api.Sub{ID: 7, Queue: []api.Message{{Seq: 9, Why: why, Prio: prio}}})
			if prio == 0 && len(l) != 2 || prio == 1 && (len(l) != 3 || !equal(l[2], keyed("x", 9, "\x01\x00"))) {
				t.Errorf("not dead, of %q: %q", why, l)
			}
		}
	}
}

// Numbers are clipped as layers 1 and 10 do, texts are told at any length.
func TestEncodeEnds(t *testing.T) {
	const top = "\x80\x80\x80\x80\x80\x80\x80\x10" // 2^53
	x := api.Sub{ID: math.MaxInt, Lease: -1, Most: math.MaxInt, Floor: 1<<53 + 1, Acks: []int{math.MinInt, 1<<53 + 1}, Queue: []api.Message{{Seq: -1, Tries: math.MinInt, Until: math.MaxInt, Prio: -1}, {Seq: 1e10, Prio: 1 << 60}}}
	id := 9999999999
	want := []api.Row{
		{Key: key("a", id, 0)}, {Key: key("a", id, 9999999999)},
		{Key: key("q", id, 0), Value: []byte("\x00\x00\x00" + top + "\x00")}, {Key: key("q", id, 9999999999), Value: []byte("\x00\x00\x00\x00\x00")},
		{Key: key("s", id, 0), Value: []byte("\x00\x00\x00" + top + top)},
		{Key: key("x", id, 0), Value: []byte("\x00\x00")}, {Key: key("x", id, 9999999999), Value: []byte(top + "\x00")},
	}
	if l := one.Encode(x); !equal(l, want) {
		t.Errorf("Encode of numbers outside: %q", l)
	}
	long := strings.Repeat("l", 300)
	text := "\xac\x02" + long
	l := one.Encode(api.Sub{ID: -5, Name: long, Topic: long, Want: long, Note: long, Queue: []api.Message{{Body: long, Attr: long}}})
	want = []api.Row{
		{Key: key("n", 0, 0), Value: []byte(text)}, {Key: key("q", 0, 0), Value: []byte(text + text + "\x00\x00\x00")},
		{Key: key("s", 0, 0), Value: []byte(text + text + "\x00\x00\x00")}, {Key: key("w", 0, 0), Value: []byte(text)},
	}
	if !equal(l, want) {
		t.Errorf("Encode of long texts: %q", l)
	}
}

// Where nothing is promised, there is an end.
func TestEncodeWild(t *testing.T) {
	r := rand.New(rand.NewSource(12))
	for range 2000 {
		x := sub(r.Int() - r.Int())
		for i := range x.Acks {
			x.Acks[i] = r.Intn(9) - 4
		}
		for i := range x.Queue {
			x.Queue[i].Seq = r.Intn(9) - 4
		}
		x.Lease, x.Most, x.Floor = -r.Int(), r.Int(), -r.Int()
		one.Decode(one.Encode(x))
	}
}

// What is handed in is neither changed nor kept, nor is what lies behind its length; what comes out is shared by nothing.
func TestEncodeMemory(t *testing.T) {
	x := sub(7)
	x.Acks = append(x.Acks, 999)[:3]
	x.Queue = append(x.Queue, api.Message{Seq: 999})[:5]
	first, second := one.Encode(x), one.Encode(x)
	if !equal(x, sub(7)) || x.Acks[:4][3] != 999 || x.Queue[:6][5].Seq != 999 {
		t.Errorf("what was handed in is another one: %+v", x)
	}
	for i, row := range first {
		for _, b := range [][]byte{row.Value, row.Value[:cap(row.Value)]} {
			for j := range b {
				b[j] = 0xee
			}
		}
		for j := range first {
			if j > i && !equal(first[j], rows()[j]) {
				t.Errorf("the row %d shares memory with the row %d", j, i)
			}
		}
	}
	_ = append(first, api.Row{Key: "x"})
	clear(first)
	x.Acks[0], x.Queue[0].Seq = 1, 1
	if !equal(second, rows()) {
		t.Errorf("what came out is shared: %q", second)
	}
	if !slices.IsSortedFunc(second, func(a, b api.Row) int { return strings.Compare(a.Key, b.Key) }) {
		t.Error("keys do not rise")
	}
}
