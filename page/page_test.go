package page_test

import (
	"math"
	"slices"
	"strings"
	"testing"

	"roadstead/api"
	"roadstead/page"
)

// row is one of that key and value.
func row(key, value string) api.Row {
	return api.Row{Key: key, Value: []byte(value)}
}

// sized is a row whose key has k bytes, and whose value v.
func sized(k, v int) api.Row {
	return row(strings.Repeat("k", k), strings.Repeat("v", v))
}

// many are n of the same row.
func many(n int, r api.Row) []api.Row {
	return slices.Repeat([]api.Row{r}, n)
}

func TestFit(t *testing.T) {
	full := sized(30, 150) // 184 bytes, with its slot
	for _, c := range []struct {
		what string
		l    []api.Row
		want int
	}{
		{"nil", nil, 0},
		{"no rows", []api.Row{}, 0},
		{"one of nothing", many(1, row("", "")), 1},
		{"one without a value", []api.Row{{Key: "a"}}, 1},
		{"three that do not rise", []api.Row{row("b", "1"), row("a", "2"), row("b", "3")}, 3},
		{"249 bytes", many(83, row("", "")), 83},
		{"252 bytes", many(84, row("", "")), 83},
		{"250 bytes, of one byte more", append(many(82, row("", "")), row("a", "")), 83},
		{"251 bytes, of two bytes more", append(many(82, row("", "")), row("a", "1")), 82},
		{"the longest", many(1, full), 1},
		{"the longest, twice", many(2, full), 1},
		{"the longest, and 66 bytes: 250", []api.Row{full, sized(30, 33)}, 2},
		{"the longest, and 67 bytes: 251", []api.Row{full, sized(30, 34)}, 1},
		{"66 bytes, and the longest: 250", []api.Row{sized(0, 63), full}, 2},
		{"67 bytes, and the longest: 251", []api.Row{sized(0, 64), full}, 1},
		{"a value of 127 bytes: 130 and 120", []api.Row{sized(0, 127), sized(0, 117)}, 2},
		{"a value of 127 bytes: 130 and 121", []api.Row{sized(0, 127), sized(0, 118)}, 1},
		{"a value of 128 bytes: 132 and 118", []api.Row{sized(0, 128), sized(0, 115)}, 2},
		{"a value of 128 bytes: 132 and 119", []api.Row{sized(0, 128), sized(0, 116)}, 1},
		{"three of 250", []api.Row{sized(30, 100), sized(30, 30), sized(20, 31)}, 3},
		{"three of 251", []api.Row{sized(30, 100), sized(30, 30), sized(20, 32)}, 2},
		{"a key too long", []api.Row{sized(31, 0)}, 0},
		{"a key far too long", []api.Row{sized(5000, 0)}, 0},
		{"a value too long", []api.Row{sized(0, 151)}, 0},
		{"a value far too long", []api.Row{sized(0, 5000)}, 0},
		{"both too long", []api.Row{sized(31, 151)}, 0},
		{"a key too long behind others", []api.Row{sized(30, 0), sized(30, 1), sized(31, 0), sized(1, 1)}, 2},
		{"a value too long behind another", []api.Row{sized(1, 1), sized(0, 151), sized(1, 1)}, 1},
		{"less behind one that has no room", []api.Row{full, full, row("", "")}, 1},
		{"as many as may be", many(api.MaxRows, sized(5, 5)), 19},
	} {
		if n := page.Fit(c.l); n != c.want {
			t.Errorf("%s: Fit: %d, not %d", c.what, n, c.want)
		}
	}
}

// What lies behind the list's length, or behind a value's, is no part of it.
func TestFitWithinLength(t *testing.T) {
	l := many(50, row("a", "1"))
	for n := range 50 {
		if got := page.Fit(l[:n]); got != n {
			t.Errorf("Fit of %d rows: %d", n, got)
		}
	}
	long := make([]byte, 200)
	if n := page.Fit([]api.Row{{Value: long[:150]}, {Value: long[:90]}, {Value: long[:0]}}); n != 3 {
		t.Errorf("Fit: %d, not 3", n)
	}
}

func TestFind(t *testing.T) {
	rising := []api.Row{row("b", ""), row("bb", ""), row("d", ""), row("\x80", "")}
	for _, c := range []struct {
		what string
		l    []api.Row
		key  string
		want int
	}{
		{"nil", nil, "a", -1},
		{"no rows", []api.Row{}, "a", -1},
		{"no rows, no key", nil, "", -1},
		{"below all", rising, "a", -1},
		{"no key", rising, "", -1},
		{"the first", rising, "b", 0},
		{"behind the first", rising, "ba", 0},
		{"one that begins as the first", rising, "bb", 1},
		{"between", rising, "c", 1},
		{"the third", rising, "d", 2},
		{"behind the third", rising, "d\x00", 2},
		{"below the last, as bytes", rising, "\x7f", 2},
		{"the last", rising, "\x80", 3},
		{"behind the last", rising, "\x80\x00", 3},
		{"behind all", rising, "\xff", 3},
		{"letters of two bytes", rising, "\u00e9", 3},
		{"a row without a key", []api.Row{row("", ""), row("a", "")}, "", 0},
		{"two without a key", many(2, row("", "")), "", 1},
		{"a long key", rising, strings.Repeat("d", 1000), 2},
		{"the same key thrice", []api.Row{row("a", "1"), row("b", "2"), row("b", "3"), row("b", "4"), row("c", "5")}, "b", 3},
		{"the first above, others not", []api.Row{row("c", ""), row("a", ""), row("b", "")}, "b", -1},
		{"one above, others behind it not", []api.Row{row("a", ""), row("b", ""), row("x", ""), row("a", ""), row("b", "")}, "c", 1},
		{"falling, none above", []api.Row{row("c", ""), row("b", ""), row("a", "")}, "c", 2},
		{"falling, all above", []api.Row{row("c", ""), row("b", ""), row("a", "")}, "0", -1},
		{"the values do not count", []api.Row{row("a", "z"), row("b", "")}, "a", 0},
	} {
		if n := page.Find(c.l, c.key); n != c.want {
			t.Errorf("%s: Find(%q): %d, not %d", c.what, c.key, n, c.want)
		}
	}
}

// Of all lists of four rows of four keys, and all keys: all rows up to the place are not above the key, and the one behind it is.
func TestFindAny(t *testing.T) {
	keys := []string{"", "a", "b", "ba"}
	for n := range 256 {
		var l []api.Row
		for k := range 4 {
			l = append(l, row(keys[n>>(2*k)&3], ""))
		}
		for _, key := range append(keys, "a\x00", "c") {
			want := -1
			for want+1 < len(l) && l[want+1].Key <= key {
				want++
			}
			if at := page.Find(l, key); at != want {
				t.Errorf("Find(%v, %q): %d, not %d", l, key, at, want)
			}
			for k := range l {
				if at := page.Find(l[:k], key); at != min(want, k-1) {
					t.Errorf("Find(%v, %q): %d, not %d", l[:k], key, at, min(want, k-1))
				}
			}
		}
	}
}

func TestEncode(t *testing.T) {
	for _, c := range []struct {
		what  string
		level int
		l     []api.Row
		head  string
		tail  string
		sum   string
	}{
		{"nothing", 0, nil, "", "", "\xf1\x59\x63\xa6"},
		{"nothing, level 4", 4, []api.Row{}, "\x04", "", "\x7d\xb8\x84\xa9"},
		{"one row", 0, []api.Row{row("a", "1")}, "\x00\x01\xf8", "\x01a\x011", "\xd9\x43\x7a\x3b"},
		{"one of nothing", 1, []api.Row{{}}, "\x01\x01\xfa", "\x00\x00", "\xb4\xeb\xa5\xd1"},
		{"two rows", 3, []api.Row{row("a", "1"), row("bc", "")}, "\x03\x02\xf8\xf4", "\x02bc\x00\x01a\x011", "\x8e\x16\x64\x41"},
		{"two that fall", 2, []api.Row{row("b", "\x00"), row("a", "\xff\x80")}, "\x02\x02\xf8\xf3", "\x01a\x02\xff\x80\x01b\x01\x00", "\xf2\x99\x7f\xff"},
		{"a value of 128", 0, []api.Row{sized(0, 128)}, "\x00\x01\x79", "\x00\x80\x01" + strings.Repeat("v", 128), "\x94\x09\x2f\xbb"},
		{"the longest, and what is left", 0, []api.Row{sized(30, 150), sized(30, 33)}, "\x00\x02\x45\x04", "\x1e" + strings.Repeat("k", 30) + "\x21" + strings.Repeat("v", 33) + "\x1e" + strings.Repeat("k", 30) + "\x96\x01" + strings.Repeat("v", 150), "\xe9\xb1\x16\x07"},
	} {
		want := c.head + strings.Repeat("\x00", 252-len(c.head)-len(c.tail)) + c.tail + c.sum
		b, ok := page.Encode(c.level, c.l)
		if !ok || string(b) != want {
			t.Errorf("%s: Encode: %x, %v, not %x", c.what, b, ok, want)
		}
	}
}

// The most rows that there may be have a slot each, and rows of two bytes.
func TestEncodeMost(t *testing.T) {
	b, ok := page.Encode(0, many(83, row("", "")))
	if !ok || len(b) != 256 || b[0] != 0 || b[1] != 83 {
		t.Fatalf("Encode: %x, %v", b, ok)
	}
	for i := range 83 {
		if int(b[2+i]) != 250-2*i {
			t.Errorf("slot %d: %d", i, b[2+i])
		}
	}
	if slices.ContainsFunc(b[85:252], func(c byte) bool { return c != 0 }) {
		t.Errorf("Encode: %x", b)
	}
}

func TestEncodeNot(t *testing.T) {
	for _, level := range []int{math.MinInt, -256, -1, 5, 6, 255, 256, 260, 1 << 32, math.MaxInt} {
		for _, l := range [][]api.Row{nil, {row("a", "1")}, many(84, row("", ""))} {
			if b, ok := page.Encode(level, l); ok || len(b) != 0 {
				t.Errorf("Encode(%d, %d rows): %x", level, len(l), b)
			}
		}
	}
	for what, l := range map[string][]api.Row{
		"252 bytes":                  many(84, row("", "")),
		"251 bytes":                  {sized(30, 150), sized(30, 34)},
		"256 rows":                   many(256, row("", "")),
		"as many as may be":          many(api.MaxRows, row("a", "1")),
		"a key too long":             {sized(31, 0)},
		"a value too long":           {sized(0, 151)},
		"a value too long, the last": {row("a", "1"), sized(1, 151)},
		"a key of 286 bytes":         {sized(286, 0)},
	} {
		for level := range 5 {
			if b, ok := page.Encode(level, l); ok || len(b) != 0 {
				t.Errorf("Encode(%d, %s): %x", level, what, b)
			}
		}
	}
}

// There is a page of rows if they all fit, and else none.
func TestEncodeAsFit(t *testing.T) {
	for k := range 33 {
		for v := range 153 {
			for n := range 5 {
				l := many(n, sized(k, v))
				if b, ok := page.Encode(n%5, l); ok != (page.Fit(l) == n) || ok && len(b) != 256 {
					t.Errorf("Encode of %d rows of %d and %d bytes: %x, %v", n, k, v, b, ok)
				}
			}
		}
	}
}
