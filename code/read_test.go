package code_test

import (
	"math"
	"slices"
	"strings"
	"testing"

	"roadstead/api"
	"roadstead/code"
)

func TestGetNum(t *testing.T) {
	const seven = "\xff\xff\xff\xff\xff\xff\xff"
	for _, c := range []struct {
		b       string
		at      int
		n, next int
		e       api.Errno
	}{
		{"\x00", 0, 0, 1, api.OK},
		{"\x01", 0, 1, 1, api.OK},
		{"\x7f", 0, 127, 1, api.OK},
		{"\x80\x01", 0, 128, 2, api.OK},
		{"\xac\x02", 0, 300, 2, api.OK},
		{"\xac\x02\xff", 0, 300, 2, api.OK},
		{"\xff\xac\x02\x00", 1, 300, 3, api.OK},
		{"\xac\x02", 1, 2, 2, api.OK},
		{"\x00\x00", 1, 0, 2, api.OK},
		{seven + "\x0f", 0, api.MaxNum - 1, 8, api.OK},
		{top, 0, api.MaxNum, 8, api.OK},
		{"\x05" + top + "\x05", 1, api.MaxNum, 9, api.OK},
		// It ends ahead of its end, or the place is none.
		{"", 0, 0, 0, api.ErrShort},
		{"\x80", 0, 0, 0, api.ErrShort},
		{"\xac\x82", 0, 0, 0, api.ErrShort},
		{seven, 0, 0, 0, api.ErrShort},
		{"\x01" + seven, 1, 0, 0, api.ErrShort},
		{"\x01", 1, 0, 0, api.ErrShort},
		{"\x01", 2, 0, 0, api.ErrShort},
		{"\x01", -1, 0, 0, api.ErrShort},
		{"\x01", math.MaxInt, 0, 0, api.ErrShort},
		{"\x01", math.MinInt, 0, 0, api.ErrShort},
		// A last byte 00 that is not the first.
		{"\x80\x00", 0, 0, 0, api.ErrForm},
		{"\xac\x00", 0, 0, 0, api.ErrForm},
		{"\x01\xff\x80\x00", 1, 0, 0, api.ErrForm},
		{seven + "\x00", 0, 0, 0, api.ErrForm},
		// Above MaxNum.
		{over, 0, 0, 0, api.ErrForm},
		{"\x80\x80\x80\x80\x80\x80\x80\x11", 0, 0, 0, api.ErrForm},
		{"\x80\x80\x80\x80\x80\x80\x80\x20", 0, 0, 0, api.ErrForm},
		{seven + "\x7f", 0, 0, 0, api.ErrForm},
		// Eight bytes, none of which is the last.
		{seven + "\x80", 0, 0, 0, api.ErrForm},
		{"\x80\x80\x80\x80\x80\x80\x80\x80", 0, 0, 0, api.ErrForm},
		{seven + "\xff\x01", 0, 0, 0, api.ErrForm},
		{"\x80\x80\x80\x80\x80\x80\x80\x80\x00", 0, 0, 0, api.ErrForm},
		{"\x01" + seven + "\xff", 1, 0, 0, api.ErrForm},
	} {
		n, next, e := code.GetNum([]byte(c.b), c.at)
		if n != c.n || next != c.next || e != c.e {
			t.Errorf("GetNum(%x, %d): %d, %d, %d, not %d, %d, %d", c.b, c.at, n, next, e, c.n, c.next, c.e)
		}
	}
}

func TestGetText(t *testing.T) {
	for _, c := range []struct {
		b        string
		at, most int
		s        string
		next     int
		e        api.Errno
	}{
		{"\x00", 0, 0, "", 1, api.OK},
		{"\x00", 0, 5, "", 1, api.OK},
		{"\x01a", 0, 1, "a", 2, api.OK},
		{"\x02ab", 0, 30, "ab", 3, api.OK},
		{"\x02abc", 0, 30, "ab", 3, api.OK},
		{"xx\x02\x00\xff\x07", 2, 2, "\x00\xff", 5, api.OK},
		{"\x00", 0, math.MaxInt, "", 1, api.OK},
		// GetNum's error is ahead of all others.
		{"", 0, 5, "", 0, api.ErrShort},
		{"\x01a", 2, 5, "", 0, api.ErrShort},
		{"\x01a", 3, 5, "", 0, api.ErrShort},
		{"\x01a", -1, 5, "", 0, api.ErrShort},
		{"\x81", 0, 0, "", 0, api.ErrShort},
		{"\x81\x00a", 0, 0, "", 0, api.ErrForm},
		{over, 0, 0, "", 0, api.ErrForm},
		// Above most, whether the bytes are there or not.
		{"\x02ab", 0, 1, "", 0, api.ErrLong},
		{"\x02", 0, 1, "", 0, api.ErrLong},
		{"\x01a", 0, 0, "", 0, api.ErrLong},
		{"\x00", 0, -1, "", 0, api.ErrLong},
		{"\x00", 0, math.MinInt, "", 0, api.ErrLong},
		{top, 0, api.MaxNum - 1, "", 0, api.ErrLong},
		// Not so many bytes.
		{"\x01", 0, 1, "", 0, api.ErrShort},
		{"\x02a", 0, 2, "", 0, api.ErrShort},
		{"xxxx\x02a", 4, 2, "", 0, api.ErrShort},
		{top + "a", 0, math.MaxInt, "", 0, api.ErrShort},
	} {
		s, next, e := code.GetText([]byte(c.b), c.at, c.most)
		if s != c.s || next != c.next || e != c.e {
			t.Errorf("GetText(%q, %d, %d): %q, %d, %d, not %q, %d, %d", c.b, c.at, c.most, s, next, e, c.s, c.next, c.e)
		}
	}
}

// Bytes that are refused, as rows and as changes: the first error from the front on.
func TestRefused(t *testing.T) {
	key, long := "\x1e"+strings.Repeat("k", api.MaxKey), "\x1f"+strings.Repeat("k", api.MaxKey+1)
	value := "\x97\x01" + strings.Repeat("v", api.MaxValue+1)
	for _, c := range []struct {
		what, rows, changes string
		e                   api.Errno
	}{
		{"no bytes", "", "", api.ErrShort},
		{"half a count", "\x81", "\x81", api.ErrShort},
		{"a count with a last byte 00", "\x81\x00", "\x81\x00", api.ErrForm},
		{"a count above MaxNum", over, over, api.ErrForm},
		{"a count of MaxNum", top, top, api.ErrLong},
		{"a count of 5001, with nothing behind", "\x89\x27", "\x89\x27", api.ErrLong},
		{"a count of 5000, with nothing behind", "\x88\x27", "\x88\x27", api.ErrShort},
		{"no key", "\x01", "\x01", api.ErrShort},
		{"half a key's number", "\x01\x80", "\x01\x80", api.ErrShort},
		{"a key's number with a last byte 00", "\x01\x80\x00", "\x01\x80\x00", api.ErrForm},
		{"half a key", "\x01\x02a", "\x01\x02a", api.ErrShort},
		{"a key of 31 bytes", "\x01" + long + "\x00", "\x01" + long + "\x01", api.ErrLong},
		{"a key of 31 bytes that are not there", "\x01\x1f", "\x01\x1f", api.ErrLong},
		{"nothing behind the key", "\x01\x01a", "\x01\x01a", api.ErrShort},
		{"no value", "\x01\x01a", "\x01\x01a\x00", api.ErrShort},
		{"half a value's number", "\x01\x01a\x80", "\x01\x01a\x00\x80", api.ErrShort},
		{"a value's number with a last byte 00", "\x01\x01a\x80\x00", "\x01\x01a\x00\x80\x00", api.ErrForm},
		{"half a value", "\x01\x01a\x02b", "\x01\x01a\x00\x02b", api.ErrShort},
		{"a value of 151 bytes", "\x01" + key + value, "\x01" + key + "\x00" + value, api.ErrLong},
		{"a value of 151 bytes that are not there", "\x01\x01a\x97\x01", "\x01\x01a\x00\x97\x01", api.ErrLong},
		{"one of two", "\x02\x01a\x011", "\x02\x01a\x00\x011", api.ErrShort},
		{"the second is wrong", "\x02\x01a\x011\x1f", "\x02\x01a\x01\x1f", api.ErrLong},
		{"the first is wrong ahead of the second", "\x02\x01a\x97\x01\x80\x00", "\x02\x01a\x00\x97\x01\x80\x00", api.ErrLong},
		{"a byte behind none", "\x00\x00", "\x00\x00", api.ErrForm},
		{"a byte behind one", "\x01\x01a\x011\x00", "\x01\x01a\x00\x011\x00", api.ErrForm},
		{"another one behind one", "\x01\x01a\x011\x01b\x012", "\x01\x01a\x01\x01b\x01", api.ErrForm},
	} {
		if l, e := code.ReadRows([]byte(c.rows)); l != nil || e != c.e {
			t.Errorf("%s: ReadRows(%q): %v, %d, not %d", c.what, c.rows, l, e, c.e)
		}
		if l, e := code.ReadChanges([]byte(c.changes)); l != nil || e != c.e {
			t.Errorf("%s: ReadChanges(%q): %v, %d, not %d", c.what, c.changes, l, e, c.e)
		}
	}
}

// The byte of a change: what is above 1 is refused, whatever stands behind it.
func TestByteOfChange(t *testing.T) {
	for v := 2; v < 256; v++ {
		for _, rest := range []string{"", "\x011", "\x97\x01"} {
			b := "\x01\x01a" + string([]byte{byte(v)}) + rest
			if l, e := code.ReadChanges([]byte(b)); l != nil || e != api.ErrForm {
				t.Errorf("ReadChanges(%q): %v, %d", b, l, e)
			}
		}
	}
	want := []api.Change{{Key: "a", Gone: true}, {Key: "b", Value: []byte("1")}}
	if l, e := code.ReadChanges([]byte("\x02\x01a\x01\x01b\x00\x011")); e != api.OK || !sameChanges(l, want) {
		t.Errorf("gone, and given: %v, %d", l, e)
	}
}

// Rows are read as they were, in whatever order, up to the longest ones, and the most.
func TestThereAndBack(t *testing.T) {
	key, value := strings.Repeat("k", api.MaxKey), []byte(strings.Repeat("v", api.MaxValue))
	most := make([]api.Row, api.MaxRows)
	for i := range most {
		most[i] = api.Row{Key: string(code.Num(i)), Value: code.Num(i * i)}
	}
	for _, l := range [][]api.Row{
		nil,
		{{}},
		{{Key: "a", Value: []byte("1")}},
		{{Key: "b", Value: []byte("2")}, {Key: "a"}, {Key: "b", Value: []byte("\x00\xff")}},
		{{Key: key, Value: value}, {Key: key[1:], Value: value[1:]}},
		most,
	} {
		rows, e := code.ReadRows(code.Rows(l))
		if e != api.OK || !sameRows(rows, l) {
			t.Errorf("%d rows: %d, %d of them", len(l), e, len(rows))
		}
		var c []api.Change
		for i, x := range l {
			if i%3 == 2 {
				c = append(c, api.Change{Key: x.Key, Gone: true})
				continue
			}
			c = append(c, api.Change{Key: x.Key, Value: x.Value})
		}
		changes, e := code.ReadChanges(code.Changes(c))
		if e != api.OK || !sameChanges(changes, c) {
			t.Errorf("%d changes: %d, %d of them", len(c), e, len(changes))
		}
	}
}

// One thing more than the most, a key or a value of one byte more, is told, but not read.
func TestTooLong(t *testing.T) {
	key, value := strings.Repeat("k", api.MaxKey+1), []byte(strings.Repeat("v", api.MaxValue+1))
	for _, l := range [][]api.Row{make([]api.Row, api.MaxRows+1), {{Key: key}}, {{Value: value}}} {
		if got, e := code.ReadRows(code.Rows(l)); got != nil || e != api.ErrLong {
			t.Errorf("%d rows: %d", len(l), e)
		}
	}
	for _, l := range [][]api.Change{make([]api.Change, api.MaxRows+1), {{Key: key}}, {{Key: key, Gone: true}}, {{Value: value}}} {
		if got, e := code.ReadChanges(code.Changes(l)); got != nil || e != api.ErrLong {
			t.Errorf("%d changes: %d", len(l), e)
		}
	}
}

// Every number is read as it was, at any place; every cut of it is too short.
func TestNumsThereAndBack(t *testing.T) {
	var nums []int
	for bit := 0; bit <= 53; bit++ {
		for d := -2; d <= 2; d++ {
			nums = append(nums, min(max(1<<bit+d, 0), api.MaxNum))
		}
	}
	for n := range 70000 {
		nums = append(nums, n)
	}
	for _, n := range nums {
		b := code.Num(n)
		for at := range 3 {
			all := []byte("\x80\x80"[:at] + string(b) + "\xff")
			if got, next, e := code.GetNum(all, at); got != n || next != at+len(b) || e != api.OK {
				t.Fatalf("GetNum(%x, %d): %d, %d, %d, not %d", all, at, got, next, e, n)
			}
		}
		for k := range b {
			if got, next, e := code.GetNum(b[:k], 0); got != 0 || next != 0 || e != api.ErrShort {
				t.Fatalf("GetNum(%x, 0): %d, %d, %d", b[:k], got, next, e)
			}
		}
	}
}

// Whatever bytes are read, they are told again by the same bytes, or refused with nothing.
func TestSameBytesOrRefused(t *testing.T) {
	read := 0
	for _, b := range manyBytes() {
		if n, next, e := code.GetNum(b, 0); e == api.OK && string(code.Num(n)) != string(b[:next]) || e != api.OK && n+next != 0 {
			t.Fatalf("GetNum(%x): %d, %d, %d", b, n, next, e)
		}
		if s, next, e := code.GetText(b, 0, 3); e == api.OK && string(code.Text(s)) != string(b[:next]) || e != api.OK && s != "" || e != api.OK && next != 0 {
			t.Fatalf("GetText(%x): %q, %d, %d", b, s, next, e)
		}
		rows, e := code.ReadRows(b)
		if e == api.OK && string(code.Rows(rows)) != string(b) || e != api.OK && rows != nil {
			t.Fatalf("ReadRows(%x): %v, %d", b, rows, e)
		}
		changes, f := code.ReadChanges(b)
		if f == api.OK && string(code.Changes(changes)) != string(b) || f != api.OK && changes != nil {
			t.Fatalf("ReadChanges(%x): %v, %d", b, changes, f)
		}
		if e == api.OK || f == api.OK {
			read++
		}
	}
	if read < 100 {
		t.Errorf("only %d of all were read", read)
	}
}

// manyBytes are all of up to two bytes, and all longer ones, up to seven, of a few that matter.
func manyBytes() [][]byte {
	all := [][]byte{{}}
	for v := range 256 {
		all = append(all, []byte{byte(v)})
		for w := range 256 {
			all = append(all, []byte{byte(v), byte(w)})
		}
	}
	some := []string{""}
	for range 7 {
		var next []string
		for _, s := range some {
			for _, c := range []string{"\x00", "\x01", "\x02", "\x80", "\x81", "a"} {
				next = append(next, s+c)
			}
		}
		for _, s := range next {
			all = append(all, []byte(s))
		}
		some = next
	}
	return all
}

// Any cut of the bytes of a list is refused; with any byte another one they are another list, or refused.
func TestCutAndSpoilt(t *testing.T) {
	rows := code.Rows([]api.Row{{Key: "key", Value: []byte(strings.Repeat("v", 130))}, {Key: "l", Value: []byte("1")}})
	changes := code.Changes([]api.Change{{Key: "key", Value: []byte(strings.Repeat("v", 130))}, {Key: "l", Gone: true}})
	for k := range rows {
		if l, e := code.ReadRows(rows[:k]); l != nil || e != api.ErrShort {
			t.Errorf("%d bytes of rows: %v, %d", k, l, e)
		}
	}
	for k := range changes {
		if l, e := code.ReadChanges(changes[:k]); l != nil || e != api.ErrShort {
			t.Errorf("%d bytes of changes: %v, %d", k, l, e)
		}
	}
	for k := range rows {
		for v := range 256 {
			b := []byte(string(rows[:k]) + string([]byte{byte(v)}) + string(rows[k+1:]))
			if l, e := code.ReadRows(b); e == api.OK && string(code.Rows(l)) != string(b) {
				t.Fatalf("ReadRows(%x): %v", b, l)
			}
			b = []byte(string(changes[:k]) + string([]byte{byte(v)}) + string(changes[k+1:]))
			if l, e := code.ReadChanges(b); e == api.OK && string(code.Changes(l)) != string(b) {
				t.Fatalf("ReadChanges(%x): %v", b, l)
			}
		}
	}
}

// What lies behind the length of what is read counts for nothing, and nothing of it is changed or kept.
func TestReadersKeepNothing(t *testing.T) {
	b := []byte("\x02\x01a\x00\x011\x01b\x00\x012")
	whole := string(b)
	if _, e := code.ReadChanges(b[:len(b)-1]); e != api.ErrShort {
		t.Errorf("ReadChanges behind the length: %d", e)
	}
	if _, e := code.ReadRows([]byte("\x01\x01a\x011")[:4]); e != api.ErrShort {
		t.Errorf("ReadRows behind the length: %d", e)
	}
	if _, _, e := code.GetText(b[:1], 0, 9); e != api.ErrShort {
		t.Errorf("GetText behind the length: %d", e)
	}
	if _, _, e := code.GetNum([]byte("\x80\x01")[:1], 0); e != api.ErrShort {
		t.Errorf("GetNum behind the length: %d", e)
	}
	l, e := code.ReadChanges(b)
	again, _ := code.ReadChanges(b)
	s, _, _ := code.GetText(b, 1, 9)
	if string(b) != whole || e != api.OK {
		t.Fatalf("%q, %d", b, e)
	}
	clear(b)
	_ = append(l[0].Value, "xxxxxxxx"...)
	again[0].Value[0], again[1].Key = 'x', "x"
	want := []api.Change{{Key: "a", Value: []byte("1")}, {Key: "b", Value: []byte("2")}}
	if !sameChanges(l, want) || s != "a" {
		t.Errorf("what came out is shared: %v, %q", l, s)
	}
}

// sameRows and sameChanges take a value that is nil and one that is empty as the same.
func sameRows(a, b []api.Row) bool {
	return slices.EqualFunc(a, b, func(x, y api.Row) bool {
		return x.Key == y.Key && string(x.Value) == string(y.Value)
	})
}

func sameChanges(a, b []api.Change) bool {
	return slices.EqualFunc(a, b, func(x, y api.Change) bool {
		return x.Key == y.Key && x.Gone == y.Gone && string(x.Value) == string(y.Value)
	})
}
