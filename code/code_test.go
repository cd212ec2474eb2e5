package code_test

import (
	"bytes"
	"math"
	"strings"
	"testing"

	"roadstead/api"
	"roadstead/code"
)

// top are the bytes of MaxNum, over those of the number above it.
const (
	top  = "\x80\x80\x80\x80\x80\x80\x80\x10"
	over = "\x81\x80\x80\x80\x80\x80\x80\x10"
)

func TestNum(t *testing.T) {
	for _, c := range []struct {
		n    int
		want string
	}{
		{0, "\x00"},
		{1, "\x01"},
		{127, "\x7f"},
		{128, "\x80\x01"},
		{255, "\xff\x01"},
		{300, "\xac\x02"},
		{1<<14 - 1, "\xff\x7f"},
		{1 << 14, "\x80\x80\x01"},
		{1<<49 - 1, "\xff\xff\xff\xff\xff\xff\x7f"},
		{1 << 49, "\x80\x80\x80\x80\x80\x80\x80\x01"},
		{api.MaxNum - 1, "\xff\xff\xff\xff\xff\xff\xff\x0f"},
		{api.MaxNum, top},
		{api.MaxNum + 1, top},
		{math.MaxInt, top},
		{-1, "\x00"},
		{-300, "\x00"},
		{math.MinInt, "\x00"},
	} {
		if got := string(code.Num(c.n)); got != c.want {
			t.Errorf("Num(%d): %x, not %x", c.n, got, c.want)
		}
	}
}

func TestText(t *testing.T) {
	for _, c := range []struct{ s, want string }{
		{"", "\x00"},
		{"a", "\x01a"},
		{"\x00\xff", "\x02\x00\xff"},
		{strings.Repeat("b", 127), "\x7f" + strings.Repeat("b", 127)},
		{strings.Repeat("b", 300), "\xac\x02" + strings.Repeat("b", 300)},
	} {
		if got := string(code.Text(c.s)); got != c.want {
			t.Errorf("Text(%q): %q, not %q", c.s, got, c.want)
		}
	}
}

func TestRows(t *testing.T) {
	for _, c := range []struct {
		l    []api.Row
		want string
	}{
		{nil, "\x00"},
		{[]api.Row{}, "\x00"},
		{[]api.Row{{Key: "a", Value: []byte("1")}}, "\x01\x01a\x011"},
		{[]api.Row{{}}, "\x01\x00\x00"},
		{[]api.Row{{Key: "b", Value: []byte("23")}, {Key: "a"}, {Key: "b"}}, "\x03\x01b\x0223\x01a\x00\x01b\x00"},
	} {
		if got := string(code.Rows(c.l)); got != c.want {
			t.Errorf("Rows(%v): %q, not %q", c.l, got, c.want)
		}
	}
}

func TestChanges(t *testing.T) {
	for _, c := range []struct {
		l    []api.Change
		want string
	}{
		{nil, "\x00"},
		{[]api.Change{}, "\x00"},
		{[]api.Change{{Key: "a", Value: []byte("1")}}, "\x01\x01a\x00\x011"},
		{[]api.Change{{Key: "a", Gone: true}}, "\x01\x01a\x01"},
		{[]api.Change{{}}, "\x01\x00\x00\x00"},
		// What is gone has no value, whatever stands in the field.
		{[]api.Change{{Key: "b", Value: []byte("1"), Gone: true}, {Key: "a"}}, "\x02\x01b\x01\x01a\x00\x00"},
	} {
		if got := string(code.Changes(c.l)); got != c.want {
			t.Errorf("Changes(%v): %q, not %q", c.l, got, c.want)
		}
	}
}

// Lists of any length are told, also those that no reader takes.
func TestLongLists(t *testing.T) {
	rows := make([]api.Row, api.MaxRows+1)
	if got, want := string(code.Rows(rows)), "\x89\x27"+strings.Repeat("\x00\x00", api.MaxRows+1); got != want {
		t.Errorf("Rows of 5001: %d bytes, not %d", len(got), len(want))
	}
	long := strings.Repeat("x", 200)
	if got, want := string(code.Rows([]api.Row{{Key: long, Value: []byte(long)}})), "\x01\xc8\x01"+long+"\xc8\x01"+long; got != want {
		t.Errorf("Rows of a long one: %q", got)
	}
	if got, want := string(code.Changes([]api.Change{{Key: long, Value: []byte(long)}})), "\x01\xc8\x01"+long+"\x00\xc8\x01"+long; got != want {
		t.Errorf("Changes of a long one: %q", got)
	}
}

// What is handed in is neither changed nor kept, nor is what lies behind its length.
func TestWritersKeepNothing(t *testing.T) {
	value := []byte("12345678")
	rows := []api.Row{{Key: "a", Value: value[:1]}, {Key: "behind"}}[:1]
	changes := []api.Change{{Key: "a", Value: value[:1]}, {Key: "behind"}}[:1]
	r, c := code.Rows(rows), code.Changes(changes)
	if string(value) != "12345678" || rows[:2][1].Key != "behind" || changes[:2][1].Key != "behind" {
		t.Error("what was handed in is another one")
	}
	r2, c2 := code.Rows(rows), code.Changes(changes)
	copy(value, "xxxxxxxx")
	rows[0].Key, changes[0].Key = "x", "x"
	clear(r2)
	clear(c2)
	if string(r) != "\x01\x01a\x011" || string(c) != "\x01\x01a\x00\x011" {
		t.Errorf("what came out is shared: %q, %q", r, c)
	}
	n, s := code.Num(300), code.Text("a")
	clear(code.Num(300))
	clear(code.Text("a"))
	if !bytes.Equal(n, []byte{0xac, 2}) || string(s) != "\x01a" {
		t.Errorf("what came out is shared: %q, %q", n, s)
	}
}
