package two_test

import (
	"math"
	"slices"
	"strings"
	"testing"

	"roadstead/api"
	"roadstead/two"
)

// reads says whether rows are read as a subscription.
func reads(t *testing.T, what string, want api.Sub, l ...api.Row) {
	t.Helper()
	if x, e := two.Decode(l); e != api.OK || !equal(x, want) {
		t.Errorf("%q: %d, %+v", what, e, x)
	}
}

// refuses says whether rows are refused.
func refuses(t *testing.T, what string, l ...api.Row) {
	t.Helper()
	if x, e := two.Decode(l); e != api.ErrForm || !equal(x, api.Sub{}) {
		t.Errorf("%q: %d, %+v", what, e, x)
	}
}

func TestDecode(t *testing.T) {
	reads(t, "all", sub(), rows()...)
	reads(t, "one row", api.Sub{ID: 7, Name: "n", Topic: "#", Want: "w", Lease: 1, Most: 2, Floor: 3}, keyed("s", 0, "\x01n\x01#\x01w\x01\x02\x03"))
	reads(t, "noughts", api.Sub{}, api.Row{Key: key("s", 0, 0), Value: bare().Value})
	reads(t, "the greatest ID", api.Sub{ID: 9999999999}, api.Row{Key: key("s", 9999999999, 0), Value: bare().Value})
	reads(t, "messages, the least and the greatest one", api.Sub{ID: 7, Queue: []api.Message{{}, {Seq: 9999999999, Body: "b", Tries: 5, Until: 6, Prio: 7}}},
		keyed("b", 0, "\x00"), keyed("b", 9999999999, "\x01b"), keyed("q", 0, "\x00\x00\x00\x00"), keyed("q", 9999999999, "\x00\x05\x06\x00"), bare(), keyed("x", 9999999999, "\x07\x00"))
	reads(t, "a message that is acknowledged, too", api.Sub{ID: 7, Acks: []int{5}, Queue: []api.Message{{Seq: 5}}},
		keyed("a", 0, "\x01\x05"), keyed("b", 5, "\x00"), keyed("q", 5, "\x00\x00\x00\x00"), bare())
	reads(t, "dead ones", api.Sub{ID: 7, Queue: []api.Message{{Seq: 5, Until: 9, Dead: true, Why: "nack"}, {Seq: 6, Dead: true, Why: "time"}}},
		keyed("b", 5, "\x00"), keyed("b", 6, "\x00"), keyed("q", 5, "\x00\x00\x09\x01"), keyed("q", 6, "\x00\x00\x00\x01"), bare(), keyed("x", 5, "\x00\x01"), keyed("x", 6, "\x00\x02"))
}

// Each number may be 0 to 2^53, whatever a state may have.
func TestDecodeNumbers(t *testing.T) {
	for _, c := range []struct {
		text string
		n    int
		ok   bool
	}{
		{"\x00", 0, true}, {"\x01", 1, true}, {"\x7f", 127, true}, {"\xac\x02", 300, true},
		{"\xff\xff\xff\xff\xff\xff\xff\x0f", 1<<53 - 1, true}, {top, 1 << 53, true},
		{"\x81\x80\x80\x80\x80\x80\x80\x10", 0, false}, {"\x80\x00", 0, false}, {"\xac\x82\x00", 0, false}, {"\x80", 0, false}, {"", 0, false},
		{"\x80\x80\x80\x80\x80\x80\x80\x80\x01", 0, false},
	} {
		for _, f := range []struct {
			name          string
			at            int
			before, after string
			set           func(x *api.Sub)
		}{
			{"the first gap", atAcks, "\x03", "\x03\xac\x02", func(x *api.Sub) { x.Acks = []int{20 + c.n, 23 + c.n, 323 + c.n} }},
			{"the last gap", atAcks, "\x03\x02\x03", "", func(x *api.Sub) { x.Acks[2] = 25 + c.n }},
			{"Lease", atSub, "\x06orders\x03a/#\x03k=w", "\x03\x14", func(x *api.Sub) { x.Lease = c.n }},
			{"Most", atSub, "\x06orders\x03a/#\x03k=w\xac\x02", "\x14", func(x *api.Sub) { x.Most = c.n }},
			{"Floor", atSub, "\x06orders\x03a/#\x03k=w\xac\x02\x03", "", func(x *api.Sub) { x.Floor, x.Acks = c.n, []int{c.n + 2, c.n + 5, c.n + 305} }},
			{"Tries", atQueue, "\x03k=v", "\x00\x00", func(x *api.Sub) { x.Queue[0].Tries = c.n }},
			{"Until", atQueue, "\x03k=v\x00", "\x00", func(x *api.Sub) { x.Queue[0].Until = c.n }},
			{"Until of a dead one", atQueue + 3, "\x00\x03", "\x01", func(x *api.Sub) { x.Queue[3].Until = c.n }},
			{"Prio", atExtra, "", "\x00", func(x *api.Sub) { x.Queue[1].Prio = c.n }},
			{"Prio of a dead one", atExtra + 1, "", "\x01", func(x *api.Sub) { x.Queue[3].Prio = c.n }},
		} {
			l, x := rows(), sub()
			l[f.at].Value = []byte(f.before + c.text + f.after)
			f.set(&x)
			if f.name == "Prio" && c.n == 0 || !c.ok { // one that is not dead, and has no prio, has no such row
				refuses(t, f.name+" "+c.text, l...)
			} else {
				reads(t, f.name+" "+c.text, x, l...)
			}
		}
	}
}

// Acknowledgements are as far above each other as is said, and there are as many as is said.
func TestDecodeAcks(t *testing.T) {
	floored := func(floor string) api.Row { return keyed("s", 0, "\x00\x00\x00\x00\x00"+floor) }
	for _, c := range []struct {
		name, acks, floor string
		want              []int
	}{
		{"one", "\x01\x05", "\x00", []int{5}},
		{"one above a floor", "\x01\x05", "\x14", []int{25}},
		{"the floor itself", "\x01\x00", "\x14", []int{20}},
		{"twice the same", "\x03\x01\x00\x02", "\x14", []int{21, 21, 23}},
		{"one above 2^53", "\x01" + top, "\x01", []int{1<<53 + 1}},
		{"some above 2^53", "\x03\x01" + top + "\x01", top, []int{1<<53 + 1, 1<<54 + 1, 1<<54 + 2}},
		{"none", "\x00", "\x00", nil},
		{"no bytes", "", "\x00", nil},
		{"no gaps", "\x01", "\x00", nil},
		{"one less", "\x02\x01", "\x00", nil},
		{"one more", "\x01\x01\x01", "\x00", nil},
		{"many less", top + "\x01\x01", "\x00", nil},
		{"a long number of them", "\x81\x00\x05", "\x00", nil},
		{"a gap cut off", "\x01\x80", "\x00", nil},
		{"a gap cut off, among as many", "\x02\x01\x80", "\x00", nil},
		{"a gap that is above 2^53", "\x01\x81\x80\x80\x80\x80\x80\x80\x10", "\x00", nil},
		{"a number of them that is none", "\x80", "\x00", nil},
		{"a long nought of them", "\x80\x00", "\x00", nil},
	} {
		l := []api.Row{keyed("a", 0, c.acks), floored(c.floor)}
		if c.want == nil {
			refuses(t, c.name, l...)
		} else if x, e := two.Decode(l); e != api.OK || !slices.Equal(x.Acks, c.want) {
			t.Errorf("%s: %d, %d", c.name, e, x.Acks)
		}
	}
	refuses(t, "acknowledgements with a Seq", keyed("a", 1, "\x01\x05"), bare())
	refuses(t, "acknowledgements twice", keyed("a", 0, "\x01\x05"), keyed("a", 1, "\x01\x05"), bare())
	// An acknowledgement is an int: what none holds is none.
	gaps := "\x80\x08" + strings.Repeat(top, 1023)
	last := "\xff\xff\xff\xff\xff\xff\xff\x0f"
	x, e := two.Decode([]api.Row{keyed("a", 0, gaps+last), bare()})
	if e != api.OK || len(x.Acks) != 1024 || x.Acks[1023] != math.MaxInt {
		t.Errorf("up to the largest int: %d", e)
	}
	refuses(t, "above the largest int", keyed("a", 0, gaps+top), bare())
	refuses(t, "above the largest int, by the floor", keyed("a", 0, gaps+last), floored("\x01"))
}

// However many acknowledgements are said to be there, there is an end.
func TestDecodeEnds(t *testing.T) {
	for _, gaps := range []string{"", "\x01", "\xff", "\x80\x00", strings.Repeat("\x01", 1000), strings.Repeat("\xff", 1000)} {
		refuses(t, "more than there are", keyed("a", 0, top+gaps), bare())
	}
}

// Texts have so many bytes at most, of any sort.
func TestDecodeTexts(t *testing.T) {
	for n := range 140 {
		for _, b := range []string{"z", "\x00", "\xff"} {
			s := strings.Repeat(b, n)
			text := string([]byte{byte(n)}) + s
			if n >= 128 {
				text = string([]byte{byte(n), 1}) + s
			}
			for _, f := range []struct {
				name          string
				at            int
				before, after string
				least, most   int
				set           func(x *api.Sub)
			}{
				{"Body", atBody, "", "", 0, 60, func(x *api.Sub) { x.Queue[0].Body = s }},
				{"Note", atNote, "", "", 1, 30, func(x *api.Sub) { x.Note = s }},
				{"Attr", atQueue, "", "\x00\x00\x00", 0, 30, func(x *api.Sub) { x.Queue[0].Attr = s }},
				{"Name", atSub, "", "\x03a/#\x03k=w\xac\x02\x03\x14", 0, 30, func(x *api.Sub) { x.Name = s }},
				{"Topic", atSub, "\x06orders", "\x03k=w\xac\x02\x03\x14", 0, 30, func(x *api.Sub) { x.Topic = s }},
				{"Want", atSub, "\x06orders\x03a/#", "\xac\x02\x03\x14", 0, 30, func(x *api.Sub) { x.Want = s }},
			} {
				l, x := rows(), sub()
				l[f.at].Value = []byte(f.before + text + f.after)
				f.set(&x)
				if n >= f.least && n <= f.most {
					reads(t, f.name, x, l...)
				} else {
					refuses(t, f.name, l...)
				}
			}
		}
	}
}

// The kinds of death, of those that are dead and of those that are not.
func TestDecodeDeaths(t *testing.T) {
	b := keyed("b", 5, "\x00")
	for dead := range 4 {
		q := keyed("q", 5, "\x00\x00\x00"+string([]byte{byte(dead)}))
		for prio := range 2 {
			for kind := range 5 {
				l := []api.Row{b, q, bare(), keyed("x", 5, string([]byte{byte(prio), byte(kind)}))}
				x := api.Sub{ID: 7, Queue: []api.Message{{Seq: 5, Dead: dead == 1, Prio: prio}}}
				switch {
				case dead == 1 && kind == 1:
					x.Queue[0].Why = "nack"
					reads(t, "by nack", x, l...)
				case dead == 1 && kind == 2:
					x.Queue[0].Why = "time"
					reads(t, "by time", x, l...)
				case dead == 0 && kind == 0 && prio == 1:
					reads(t, "not dead", x, l...)
				default:
					refuses(t, "another death", l...)
				}
			}
		}
		if dead > 0 {
			refuses(t, "dead, of no kind", b, q, bare())
		}
	}
	refuses(t, "a long nought of dead", b, keyed("q", 5, "\x00\x00\x00\x80\x00"), bare())
	refuses(t, "dead of 2^53", b, keyed("q", 5, "\x00\x00\x00"+top), bare())
}

func TestDecodeRefuses(t *testing.T) {
	refuses(t, "nothing")
	refuses(t, "a row of nothing", api.Row{})
	s := bare()
	b, q := keyed("b", 5, "\x00"), keyed("q", 5, "\x00\x00\x00\x00")
	b6, q6 := keyed("b", 6, "\x00"), keyed("q", 6, "\x00\x00\x00\x00")
	other := func(id int, row api.Row) api.Row {
		return api.Row{Key: row.Key[:2] + key("s", id, 0)[2:12] + row.Key[12:], Value: row.Value}
	}
	for _, c := range []struct {
		name string
		l    []api.Row
	}{
		{"twice the same", []api.Row{s, s}},
		{"bodies that do not rise", []api.Row{b6, b, q, q6, s}},
		{"messages that do not rise", []api.Row{b6, b, q6, q, s}},
		{"messages that are the same", []api.Row{b, b, q, q, s}},
		{"tables that do not rise", []api.Row{s, keyed("a", 0, "\x01\x03")}},
		{"what few have, ahead of what all have", []api.Row{b, q, keyed("x", 5, "\x01\x00"), s}},
		{"what few have, ahead of its message", []api.Row{keyed("x", 5, "\x01\x00"), b, q, s}},
		{"no row that each has", []api.Row{b, q}},
		{"acknowledgements alone", []api.Row{keyed("a", 0, "\x01\x03")}},
		{"a body of no message", []api.Row{b, s}},
		{"a body of none, beside a message", []api.Row{b, b6, q, s}},
		{"a message of no body", []api.Row{q, s}},
		{"a message of another body", []api.Row{b6, q, s}},
		{"a message of no body, beside one", []api.Row{b, q, q6, s}},
		{"a body of no number", []api.Row{keyed("b", 5, ""), q, s}},
		{"a note of no bytes", []api.Row{keyed("n", 0, "\x00"), s}},
		{"a note without its number", []api.Row{keyed("n", 0, ""), s}},
		{"a note with a Seq", []api.Row{keyed("n", 1, "\x01n"), s}},
		{"two notes", []api.Row{keyed("n", 0, "\x01n"), keyed("n", 1, "\x01n"), s}},
		{"two rows that each has", []api.Row{s, keyed("s", 1, string(s.Value))}},
		{"a row that each has, with a Seq", []api.Row{keyed("s", 1, string(s.Value))}},
		{"what few have, of none", []api.Row{b, q, s, keyed("x", 4, "\x01\x00")}},
		{"what few have, of one above", []api.Row{b, q, s, keyed("x", 6, "\x01\x00")}},
		{"what few have, of no message at all", []api.Row{s, keyed("x", 0, "\x01\x00")}},
		{"what few have, of no prio", []api.Row{b, q, s, keyed("x", 5, "\x00\x00")}},
		{"another table", []api.Row{keyed("c", 0, ""), s}},
		{"what is wanted, as in schema 1", []api.Row{s, keyed("w", 0, "\x01w")}},
		{"another table behind", []api.Row{s, keyed("z", 0, "")}},
		{"a sign that is no table", []api.Row{keyed("S", 0, string(s.Value))}},
		{"another subscription's message", []api.Row{b, q, other(8, s)}},
		{"another one's body", []api.Row{other(8, b), q, s}},
		{"another one's queue", []api.Row{b, other(8, q), s}},
		{"another one's acknowledgements", []api.Row{other(6, keyed("a", 0, "\x01\x03")), s}},
		{"another one's note", []api.Row{other(8, keyed("n", 0, "\x01n")), s}},
		{"of what few have, another one's", []api.Row{b, q, s, other(8, keyed("x", 5, "\x01\x00"))}},
		{"another one behind", []api.Row{s, other(8, s)}},
		{"schema 0", []api.Row{{Key: "0" + s.Key[1:], Value: s.Value}}},
		{"schema 1", []api.Row{{Key: "1" + s.Key[1:], Value: s.Value}}},
		{"schema 3", []api.Row{{Key: "3" + s.Key[1:], Value: s.Value}}},
		{"one row of schema 3 among them", []api.Row{b, q, s, {Key: "3" + key("x", 7, 5)[1:], Value: []byte("\x01\x00")}}},
		{"one row of schema 1 among them", []api.Row{{Key: "1" + key("a", 7, 0)[1:], Value: []byte("\x01\x03")}, s}},
		{"a key that is longer", []api.Row{{Key: s.Key + "0", Value: s.Value}}},
		{"a key that is shorter", []api.Row{{Key: s.Key[:21], Value: s.Value}}},
		{"a key with a sign that is no digit", []api.Row{{Key: "2s000000000700000000 0", Value: s.Value}}},
		{"a key with a plus", []api.Row{{Key: "2s+0000000070000000000", Value: s.Value}}},
		{"an empty key ahead", []api.Row{{}, s}},
	} {
		refuses(t, c.name, c.l...)
	}
}

// With one of its rows twice, with two in another order, with a byte cut off, or one more, it is none; without one of them, too, if that is not of what few have.
func TestDecodeRows(t *testing.T) {
	for i, row := range rows() {
		l := rows()
		put := func(value []byte) []api.Row {
			return slices.Concat(l[:i], []api.Row{{Key: row.Key, Value: value}}, l[i+1:])
		}
		refuses(t, "a byte more", put(append(slices.Clone(row.Value), 0))...)
		for n := range row.Value {
			refuses(t, "bytes less", put(row.Value[:n])...)
		}
		refuses(t, "twice", slices.Concat(l[:i+1], l[i:])...)
		if i > 0 {
			refuses(t, "in another order", slices.Concat(l[:i-1], []api.Row{l[i], l[i-1]}, l[i+1:])...)
		}
		left, x := slices.Delete(l, i, i+1), sub()
		switch i {
		case atAcks:
			x.Acks = nil
			reads(t, "without acknowledgements", x, left...)
		case atNote:
			x.Note = ""
			reads(t, "without a note", x, left...)
		case atExtra:
			x.Queue[1].Prio = 0
			reads(t, "without a prio", x, left...)
		default:
			refuses(t, "without a row", left...)
		}
	}
}

// What is handed in is neither changed nor kept, nor is what lies behind its length; what comes out is shared by nothing.
func TestDecodeMemory(t *testing.T) {
	n := len(rows())
	l := append(rows(), keyed("z", 0, "behind"))[:n]
	for i := range l {
		l[i].Value = append(l[i].Value, "\x01\x02\x03"...)[:len(l[i].Value)]
	}
	x, e := two.Decode(l)
	y, _ := two.Decode(l)
	if e != api.OK || !equalRows(l, rows()) || l[:n+1][n].Key != key("z", 7, 0) {
		t.Errorf("what was handed in is another one: %d, %q", e, l)
	}
	for _, row := range l {
		if b := row.Value[:len(row.Value)+3]; string(b[len(b)-3:]) != "\x01\x02\x03" {
			t.Errorf("what lies behind %s is another one", row.Key)
		}
		clear(row.Value)
	}
	clear(l)
	_, _ = append(x.Acks, 5), append(x.Queue, api.Message{Seq: 5})
	clear(x.Acks)
	clear(x.Queue)
	if !equal(y, sub()) {
		t.Errorf("what came out is shared: %+v", y)
	}
}
