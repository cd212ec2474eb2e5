package one_test

import (
	"slices"
	"strings"
	"testing"

	"roadstead/api"
	"roadstead/one"
)

// reads says whether rows are read as a subscription.
func reads(t *testing.T, what string, l []api.Row, want api.Sub) {
	t.Helper()
	if x, e := one.Decode(l); e != api.OK || !equal(x, want) {
		t.Errorf("%s: %d, %+v", what, e, x)
	}
}

// refuses says whether rows are refused.
func refuses(t *testing.T, what string, l []api.Row) {
	t.Helper()
	if x, e := one.Decode(l); e != api.ErrForm || !equal(x, api.Sub{}) {
		t.Errorf("%s: %d, %+v", what, e, x)
	}
}

func TestDecode(t *testing.T) {
	reads(t, "all", rows(), sub(7))
	s := keyed("s", 0, "\x01n\x01#\x01\x02\x03")
	bare := func(set func(x *api.Sub)) api.Sub {
		x := api.Sub{ID: 7, Name: "n", Topic: "#", Lease: 1, Most: 2, Floor: 3}
		if set != nil {
			set(&x)
		}
		return x
	}
	reads(t, "one row", []api.Row{s}, bare(nil))
	reads(t, "noughts", []api.Row{{Key: key("s", 0, 0), Value: []byte("\x00\x00\x00\x00\x00")}}, api.Sub{})
	reads(t, "the greatest ID", []api.Row{{Key: key("s", 9999999999, 0), Value: []byte("\x00\x00\x00\x00\x00")}}, api.Sub{ID: 9999999999})
	reads(t, "acknowledgements, below the floor, and the greatest one", []api.Row{keyed("a", 0, ""), keyed("a", 2, ""), keyed("a", 3, ""), keyed("a", 9999999999, ""), s},
		bare(func(x *api.Sub) { x.Acks = []int{0, 2, 3, 9999999999} }))
	reads(t, "messages, the least and the greatest one", []api.Row{keyed("q", 0, "\x00\x00\x00\x00\x00"), keyed("q", 9999999999, "\x00\x00\x05\x06\x00"), s, keyed("x", 9999999999, "\x07\x00")},
		bare(func(x *api.Sub) { x.Queue = []api.Message{{}, {Seq: 9999999999, Tries: 5, Until: 6, Prio: 7}} }))
	reads(t, "a message that is acknowledged, too", []api.Row{keyed("a", 5, ""), keyed("q", 5, "\x00\x00\x00\x00\x00"), s},
		bare(func(x *api.Sub) { x.Acks, x.Queue = []int{5}, []api.Message{{Seq: 5}} }))
	reads(t, "dead ones", []api.Row{keyed("q", 5, "\x00\x00\x00\x09\x01"), keyed("q", 6, "\x00\x00\x00\x00\x01"), s, keyed("x", 5, "\x00\x01"), keyed("x", 6, "\x00\x02")},
		bare(func(x *api.Sub) {
			x.Queue = []api.Message{{Seq: 5, Until: 9, Dead: true, Why: "nack"}, {Seq: 6, Dead: true, Why: "time"}}
		}))
}

// Each number may be 0 to 2^53, whatever a state may have.
func TestDecodeNumbers(t *testing.T) {
	for _, c := range []struct {
		text string
		n    int
		ok   bool
	}{
		{"\x00", 0, true}, {"\x01", 1, true}, {"\x7f", 127, true}, {"\xac\x02", 300, true},
		{"\xff\xff\xff\xff\xff\xff\xff\x0f", 1<<53 - 1, true}, {"\x80\x80\x80\x80\x80\x80\x80\x10", 1 << 53, true},
		{"\x81\x80\x80\x80\x80\x80\x80\x10", 0, false}, {"\x80\x00", 0, false}, {"\xac\x82\x00", 0, false}, {"\x80", 0, false}, {"", 0, false},
		{"\x80\x80\x80\x80\x80\x80\x80\x80\x01", 0, false},
	} {
		for _, f := range []struct {
			name          string
			at            int
			before, after string
			set           func(x *api.Sub)
		}{
			{"Lease", 9, "\x06orders\x03a/#", "\x03\x14", func(x *api.Sub) { x.Lease = c.n }},
			{"Most", 9, "\x06orders\x03a/#\xac\x02", "\x14", func(x *api.Sub) { x.Most = c.n }},
			{"Floor", 9, "\x06orders\x03a/#\xac\x02\x03", "", func(x *api.Sub) { x.Floor = c.n }},
			{"Tries", 4, "\x05waits\x03k=v", "\x00\x00", func(x *api.Sub) { x.Queue[0].Tries = c.n }},
			{"Until", 4, "\x05waits\x03k=v\x00", "\x00", func(x *api.Sub) { x.Queue[0].Until = c.n }},
			{"Until of a dead one", 7, "\x04dead\x00\x03", "\x01", func(x *api.Sub) { x.Queue[3].Until = c.n }},
			{"Prio of a dead one", 12, "", "\x01", func(x *api.Sub) { x.Queue[3].Prio = c.n }},
			{"Prio", 11, "", "\x00", func(x *api.Sub) { x.Queue[1].Prio = c.n }},
		} {
			l, x := rows(), sub(7)
			l[f.at].Value = []byte(f.before + c.text + f.after)
			f.set(&x)
			if f.name == "Prio" && c.n == 0 || !c.ok { // one that is not dead, and has no prio, has no such row
				refuses(t, f.name+" "+c.text, l)
			} else {
				reads(t, f.name+" "+c.text, l, x)
			}
		}
	}
}

// Texts have so many bytes at most, of any sort.
func TestDecodeTexts(t *testing.T) {
	for n := range 140 {
		for _, b := range []string{"z", "\x00", "\xff"} {
			s := strings.Repeat(b, n)
			text := s
			if n < 128 {
				text = string([]byte{byte(n)}) + s
			} else {
				text = string([]byte{byte(n), 1}) + s
			}
			for _, f := range []struct {
				name          string
				at            int
				before, after string
				least, most   int
				set           func(x *api.Sub)
			}{
				{"Name", 9, "", "\x03a/#\xac\x02\x03\x14", 0, 30, func(x *api.Sub) { x.Name = s }},
				{"Topic", 9, "\x06orders", "\xac\x02\x03\x14", 0, 30, func(x *api.Sub) { x.Topic = s }},
				{"Note", 3, "", "", 1, 30, func(x *api.Sub) { x.Note = s }},
				{"Want", 10, "", "", 1, 30, func(x *api.Sub) { x.Want = s }},
				{"Body", 4, "", "\x03k=v\x00\x00\x00", 0, 60, func(x *api.Sub) { x.Queue[0].Body = s }},
				{"Attr", 4, "\x05waits", "\x00\x00\x00", 0, 30, func(x *api.Sub) { x.Queue[0].Attr = s }},
			} {
				l, x := rows(), sub(7)
				l[f.at].Value = []byte(f.before + text + f.after)
				f.set(&x)
				if n >= f.least && n <= f.most {
					reads(t, f.name, l, x)
				} else {
					refuses(t, f.name, l)
				}
			}
		}
	}
}

// The kinds of death, of those that are dead and of those that are not.
func TestDecodeDeaths(t *testing.T) {
	s := keyed("s", 0, "\x00\x00\x00\x00\x00")
	for dead := range 4 {
		for prio := range 2 {
			for kind := range 5 {
				l := []api.Row{keyed("q", 5, "\x00\x00\x00\x00"+string([]byte{byte(dead)})), s, keyed("x", 5, string([]byte{byte(prio), byte(kind)}))}
				x := api.Sub{ID: 7, Queue: []api.Message{{Seq: 5, Dead: dead == 1, Prio: prio}}}
				switch {
				case dead == 1 && kind == 1:
					x.Queue[0].Why = "nack"
					reads(t, "by nack", l, x)
				case dead == 1 && kind == 2:
					x.Queue[0].Why = "time"
					reads(t, "by time", l, x)
				case dead == 0 && kind == 0 && prio == 1:
					reads(t, "not dead", l, x)
				default:
					refuses(t, "another death", l)
				}
			}
		}
		if dead > 0 {
			refuses(t, "dead, of no kind", []api.Row{keyed("q", 5, "\x00\x00\x00\x00"+string([]byte{byte(dead)})), s})
		}
	}
	refuses(t, "a long nought of dead", []api.Row{keyed("q", 5, "\x00\x00\x00\x00\x80\x00"), s})
	refuses(t, "dead of 2^53", []api.Row{keyed("q", 5, "\x00\x00\x00\x00\x80\x80\x80\x80\x80\x80\x80\x10"), s})
}

func TestDecodeRefuses(t *testing.T) {
	refuses(t, "nothing", nil)
	refuses(t, "an empty list", []api.Row{})
	refuses(t, "a row of nothing", []api.Row{{}})
	s := keyed("s", 0, "\x00\x00\x00\x00\x00")
	q := keyed("q", 5, "\x00\x00\x00\x00\x00")
	for _, c := range []struct {
		name string
		l    []api.Row
	}{
		{"twice the same", []api.Row{s, s}},
		{"acknowledgements that do not rise", []api.Row{keyed("a", 3, ""), keyed("a", 2, ""), s}},
		{"acknowledgements that are the same", []api.Row{keyed("a", 3, ""), keyed("a", 3, ""), s}},
		{"messages that do not rise", []api.Row{keyed("q", 6, string(q.Value)), q, s}},
		{"messages that are the same", []api.Row{q, q, s}},
		{"tables that do not rise", []api.Row{s, keyed("a", 3, "")}},
		{"what few have, ahead of what all have", []api.Row{q, keyed("x", 5, "\x01\x00"), s}},
		{"what few have, ahead of its message", []api.Row{keyed("x", 5, "\x01\x00"), q, s}},
		{"no row that each has", []api.Row{q}},
		{"an acknowledgement with a byte", []api.Row{keyed("a", 3, "\x00"), s}},
		{"a note of no bytes", []api.Row{keyed("n", 0, "\x00"), s}},
		{"a note without its number", []api.Row{keyed("n", 0, ""), s}},
		{"a note with a Seq", []api.Row{keyed("n", 1, "\x01n"), s}},
		{"two notes", []api.Row{keyed("n", 0, "\x01n"), keyed("n", 1, "\x01n"), s}},
		{"two subscriptions' rows with a Seq", []api.Row{s, keyed("s", 1, "\x00\x00\x00\x00\x00")}},
		{"a row that each has, with a Seq", []api.Row{keyed("s", 1, "\x00\x00\x00\x00\x00")}},
		{"nothing that is wanted", []api.Row{s, keyed("w", 0, "\x00")}},
		{"what is wanted, with a Seq", []api.Row{s, keyed("w", 1, "\x01w")}},
		{"what few have, of none", []api.Row{q, s, keyed("x", 4, "\x01\x00")}},
		{"what few have, of one above", []api.Row{q, s, keyed("x", 6, "\x01\x00")}},
		{"what few have, of no prio", []api.Row{q, s, keyed("x", 5, "\x00\x00")}},
		{"another table", []api.Row{keyed("b", 0, ""), s}},
		{"another table behind", []api.Row{s, keyed("z", 0, "")}},
		{"a sign that is no table", []api.Row{keyed("S", 0, "\x00\x00\x00\x00\x00")}},
		{"another subscription's message", []api.Row{q, {Key: key("s", 8, 0), Value: s.Value}}},
		{"another subscription's acknowledgement", []api.Row{{Key: key("a", 6, 1)}, s}},
		{"another subscription behind", []api.Row{s, {Key: key("s", 8, 0), Value: s.Value}}},
		{"another one's note", []api.Row{{Key: key("n", 8, 0), Value: []byte("\x01n")}, s}},
		{"what another one wants", []api.Row{s, {Key: key("w", 8, 0), Value: []byte("\x01w")}}},
		{"of what few have, another one's", []api.Row{q, s, {Key: key("x", 8, 5), Value: []byte("\x01\x00")}}},
		{"schema 0", []api.Row{{Key: "0" + s.Key[1:], Value: s.Value}}},
		{"schema 2", []api.Row{{Key: "2" + s.Key[1:], Value: s.Value}}},
		{"one row of schema 2 among them", []api.Row{s, {Key: "2" + key("w", 7, 0)[1:], Value: []byte("\x01w")}}},
		{"a key that is longer", []api.Row{{Key: s.Key + "0", Value: s.Value}}},
		{"a key that is shorter", []api.Row{{Key: s.Key[:21], Value: s.Value}}},
		{"a key with a sign that is no digit", []api.Row{{Key: "1s000000000700000000 0", Value: s.Value}}},
		{"a key with a plus", []api.Row{{Key: "1s+0000000070000000000", Value: s.Value}}},
		{"an empty key ahead", []api.Row{{}, s}},
	} {
		refuses(t, c.name, c.l)
	}
}

// Without one of its rows, with one of them twice, with two in another order, it is none, or another one; with a byte cut off, or one more, it is none.
func TestDecodeRows(t *testing.T) {
	for i := range rows() {
		l := rows()
		refuses(t, "a byte more", slices.Concat(l[:i], []api.Row{{Key: l[i].Key, Value: append(slices.Clone(l[i].Value), 0)}}, l[i+1:]))
		for n := range l[i].Value {
			refuses(t, "bytes less", slices.Concat(l[:i], []api.Row{{Key: l[i].Key, Value: l[i].Value[:n]}}, l[i+1:]))
		}
		refuses(t, "twice", slices.Concat(l[:i+1], l[i:]))
		if i > 0 {
			l[i-1], l[i] = l[i], l[i-1]
			refuses(t, "in another order", l)
		}
	}
}

// What is handed in is neither changed nor kept, nor is what lies behind its length; what comes out is shared by nothing.
func TestDecodeMemory(t *testing.T) {
	l := append(rows(), keyed("z", 0, "behind"))[:14]
	for i := range l {
		l[i].Value = append(l[i].Value, "\x01\x02\x03"...)[:len(l[i].Value)]
	}
	x, e := one.Decode(l)
	y, _ := one.Decode(l)
	if e != api.OK || !equal(l, rows()) || l[:15][14].Key != key("z", 7, 0) {
		t.Errorf("what was handed in is another one: %d, %q", e, l)
	}
	for _, row := range l {
		if b := row.Value[:len(row.Value)+3]; string(b[len(b)-3:]) != "\x01\x02\x03" {
			t.Errorf("what lies behind %s is another one", row.Key)
		}
		clear(row.Value)
	}
	clear(l)
	_, _ = append(x.Acks, 5), append(x.Queue, api.Message{Seq: 5})
	clear(x.Acks)
	clear(x.Queue)
	if !equal(y, sub(7)) {
		t.Errorf("what came out is shared: %+v", y)
	}
}
