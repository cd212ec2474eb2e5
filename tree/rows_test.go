package tree_test

import (
	"hash/crc32"
	"slices"
	"strings"
	"testing"

	"roadstead/api"
	"roadstead/tree"
)

// reads says what rows pages have to have.
func reads(t *testing.T, what string, pages [][]byte, want []api.Row) {
	t.Helper()
	if l, e := tree.Rows(pages); !same(l, want) || e != api.OK {
		t.Errorf("%s: Rows: %d rows, %d, not %d rows", what, len(l), e, len(want))
	}
	if l, e := tree.Scan(pages, "", ""); !same(l, want) || e != api.OK {
		t.Errorf("%s: Scan: %d rows, %d, not %d rows", what, len(l), e, len(want))
	}
}

// fails says what error pages have to tell.
func fails(t *testing.T, what string, pages [][]byte, want api.Errno) {
	t.Helper()
	if l, e := tree.Rows(pages); len(l) != 0 || e != want {
		t.Errorf("%s: Rows: %d rows, %d, not %d", what, len(l), e, want)
	}
	for _, c := range [][2]string{{"", ""}, {"a", "b"}, {"b", "a"}} {
		if l, e := tree.Scan(pages, c[0], c[1]); len(l) != 0 || e != want {
			t.Errorf("%s: Scan(%q, %q): %d rows, %d, not %d", what, c[0], c[1], len(l), e, want)
		}
	}
}

func TestRowsThereAndBack(t *testing.T) {
	for _, c := range lists() {
		pages, _ := tree.Build(c.l)
		reads(t, c.name, pages, c.l)
	}
	for n := range 100 {
		pages, _ := tree.Build(uneven(n))
		reads(t, "uneven", pages, uneven(n))
	}
}

// Trees that were written by hand.
func TestRows(t *testing.T) {
	reads(t, "nothing", raw(sealed("", "")), nil)
	reads(t, "one row", raw(sealed("\x00\x01\xf8", "\x01a\x011")), []api.Row{row("a", "1")})
	v150 := strings.Repeat("v", 150)
	a, b := row("a", v150), row("b", v150)
	reads(t, "two pages", raw(sheet(0, a), sheet(0, b), sheet(1, row("a", "\x00"), row("b", "\x01"))), []api.Row{a, b})
}

// Pages that are each right, but no tree of any rows.
func TestRowsNoTree(t *testing.T) {
	v150 := strings.Repeat("v", 150)
	a, b, c := row("a", v150), row("b", v150), row("c", v150)
	pa, pb, pc := sheet(0, a), sheet(0, b), sheet(0, c)
	of := func(keys ...string) string {
		var l []api.Row
		for i, key := range keys {
			l = append(l, row(key, leb(i)))
		}
		return sheet(1, l...)
	}
	reads(t, "right", raw(pa, pb, pc, of("a", "b", "c")), []api.Row{a, b, c})
	for _, x := range []struct {
		what  string
		pages []string
	}{
		{"no pages", nil},
		{"no root", []string{pa, pb, pc}},
		{"the root alone", []string{of("a", "b", "c")}},
		{"the root ahead", []string{of("a", "b", "c"), pa, pb, pc}},
		{"a page left out", []string{pa, pb, of("a", "b", "c")}},
		{"a page too many", []string{pa, pb, pc, of("a", "b")}},
		{"a page twice", []string{pa, pb, pb, of("a", "b", "b")}},
		{"pages changed about", []string{pb, pa, pc, of("b", "a", "c")}},
		{"pages changed about, below the right root", []string{pb, pa, pc, of("a", "b", "c")}},
		{"another key above", []string{pa, pb, pc, of("a", "bb", "c")}},
		{"a lower key above", []string{pa, pb, pc, of("", "b", "c")}},
		{"another number above", []string{pa, pb, pc, sheet(1, row("a", "\x00"), row("b", "\x02"), row("c", "\x01"))}},
		{"a number with a byte more", []string{pa, pb, pc, sheet(1, row("a", "\x80\x00"), row("b", "\x01"), row("c", "\x02"))}},
		{"a number too few above", []string{pa, pb, pc, of("a", "b")}},
		{"two roots", []string{pa, pb, pc, of("a", "b", "c"), of("a", "b", "c")}},
		{"a level too many", []string{pa, pb, pc, of("a", "b", "c"), sheet(2, row("a", "\x03"))}},
		{"one page, and one above", []string{pa, of("a")}},
		{"no rows, and a page above", []string{sheet(0), sheet(1)}},
		{"no rows, twice", []string{sheet(0), sheet(0)}},
		{"no rows, of a level 1", []string{sheet(1)}},
		{"a level 1 of no pages", []string{sheet(1, row("a", "1"))}},
		{"a level left out", []string{pa, pb, pc, sheet(2, row("a", "\x00"), row("b", "\x01"), row("c", "\x02"))}},
		{"a page without rows", []string{pa, sheet(0), pc, of("a", "b", "c")}},
		{"pages that have more room", []string{sheet(0, row("a", "")), sheet(0, row("b", "")), of("a", "b")}},
		{"the first page has more room", []string{sheet(0, row("a", "")), sheet(0, row("b", ""), row("c", v150)), of("a", "b")}},
		{"a page above has more room", []string{pa, pb, sheet(1, row("a", "\x00")), sheet(1, row("b", "\x01")), sheet(2, row("a", "\x02"), row("b", "\x03"))}},
		{"rows that fall", []string{sheet(0, row("b", ""), row("a", ""))}},
		{"two rows of a key", []string{sheet(0, row("a", ""), row("a", ""))}},
		{"two rows of a key, on two pages", []string{pa, pa, of("a", "a")}},
	} {
		fails(t, x.what, raw(x.pages...), api.ErrForm)
	}
}

// More rows than there may be are no tree, however they lie.
func TestRowsTooMany(t *testing.T) {
	for _, n := range []int{api.MaxRows + 1, 9999} {
		pages, _ := plain(sized(n, 4, 0))
		fails(t, "too many rows", raw(pages...), api.ErrForm)
	}
	leaf := sheet(0, slices.Repeat([]api.Row{{}}, 83)...)
	many := slices.Repeat([][]byte{[]byte(leaf)}, 500)
	fails(t, "far too many rows", many, api.ErrForm)
	fails(t, "far too many rows, and no page behind them", append(many, nil), api.ErrForm)
	fails(t, "far too many rows, and another sum behind them", append(many, make([]byte, 256)), api.ErrSum)
	most, _ := plain(sized(api.MaxRows, 4, 0))
	fails(t, "the most, and a page more", raw(append(most[:143:143], append([]string{sheet(0)}, most[143:]...)...)...), api.ErrForm)
}

// The first page that has an error tells it, wherever it lies, and whatever else is wrong.
func TestRowsFirstError(t *testing.T) {
	right, _ := plain(sized(60, 30, 150))
	short, sum, form := "x", strings.Repeat("\x00", 256), sealed("\x05", "")
	for i := range right {
		for _, c := range []struct {
			bad  string
			want api.Errno
		}{{short, api.ErrForm}, {"", api.ErrForm}, {sum, api.ErrSum}, {form, api.ErrForm}} {
			l := slices.Clone(right)
			l[i] = c.bad
			fails(t, "one bad page", raw(l...), c.want)
			if i == 0 {
				continue
			}
			l[0] = sum
			fails(t, "a sum first", raw(l...), api.ErrSum)
			l[0] = form
			fails(t, "a form first", raw(l...), api.ErrForm)
			l[0] = short
			fails(t, "a short one first", raw(l...), api.ErrForm)
			l[0] = right[1]
			fails(t, "no tree, and a bad page", raw(l...), c.want)
		}
	}
	fails(t, "a sum alone", raw(sum), api.ErrSum)
	fails(t, "a sum behind a page", raw(sheet(0), sum), api.ErrSum)
}

// Whatever bytes are read, they are told again by the same bytes, or refused: bytes spoilt are seen, and bytes sealed again are a tree of their rows.
func TestRowsSpoilt(t *testing.T) {
	pages, _ := tree.Build([]api.Row{row("a", strings.Repeat("v", 150)), row("b", strings.Repeat("v", 150)), row("c", "")})
	read := 0
	for i := range pages {
		for at := range 256 {
			for v := 1; v < 256; v += 1 + at%7 {
				l := slices.Clone(pages)
				l[i] = slices.Clone(pages[i])
				l[i][at] ^= byte(v)
				fails(t, "spoilt", l, api.ErrSum)
				n := crc32.ChecksumIEEE(l[i][:252])
				l[i] = append(l[i][:252], byte(n), byte(n>>8), byte(n>>16), byte(n>>24))
				if rows, e := tree.Rows(l); e == api.OK {
					read++
					if again, ok := tree.Build(rows); !ok || !slices.Equal(texts(again), texts(l)) {
						t.Fatalf("page %d, byte %d, ^%d: Rows of no tree", i, at, v)
					}
				} else if len(rows) != 0 || e != api.ErrForm {
					t.Fatalf("page %d, byte %d, ^%d: Rows: %d rows, %d", i, at, v, len(rows), e)
				}
			}
		}
	}
	if read < 1000 {
		t.Errorf("only %d of all were read", read)
	}
}

func TestScan(t *testing.T) {
	for _, c := range lists() {
		pages, _ := tree.Build(c.l)
		keys := []string{"", "\x00", "a", "5", "99999", "\xff\xff", strings.Repeat("k", 200)}
		for i := 0; i < len(c.l); i += 1 + len(c.l)/4 {
			keys = append(keys, c.l[i].Key, c.l[i].Key+"\x00", c.l[i].Key[:len(c.l[i].Key)/2])
		}
		if n := len(c.l); n > 0 {
			keys = append(keys, c.l[n-1].Key)
		}
		if len(c.l) > 1000 { // each Scan builds the tree again
			keys = keys[len(keys)-3:]
		}
		for _, from := range keys {
			for _, to := range keys {
				var want []api.Row
				for _, r := range c.l {
					if !(r.Key < from) && (len(to) == 0 || r.Key < to) {
						want = append(want, r)
					}
				}
				if l, e := tree.Scan(pages, from, to); !same(l, want) || e != api.OK {
					t.Errorf("%s: Scan(%q, %q): %d rows, %d, not %d", c.name, from, to, len(l), e, len(want))
				}
			}
		}
	}
}

// Ends are told by their keys alone, be there rows of them or not.
func TestScanEnds(t *testing.T) {
	pages, _ := tree.Build([]api.Row{row("", "0"), row("b", "1"), row("bb", "2"), row("d", "3"), row("\xff", "4")})
	for _, c := range []struct{ from, to, want string }{
		{"", "", "01234"},
		{"", "b", "0"},
		{"", "\x00", "0"},
		{"\x00", "", "1234"},
		{"b", "", "1234"},
		{"b", "d", "12"},
		{"b", "b", ""},
		{"b", "b\x00", "1"},
		{"b\x00", "bb", ""},
		{"b\x00", "bc", "2"},
		{"a", "c", "12"},
		{"c", "a", ""},
		{"d", "b", ""},
		{"d", "", "34"},
		{"d", "\xff", "3"},
		{"d", "\xff\x00", "34"},
		{"e", "f", ""},
		{"\xff", "", "4"},
		{"\xff\x00", "", ""},
		{"\xff", "\xff", ""},
		{"", "z", "0123"},
	} {
		l, e := tree.Scan(pages, c.from, c.to)
		got := ""
		for _, r := range l {
			got += string(r.Value)
		}
		if got != c.want || e != api.OK {
			t.Errorf("Scan(%q, %q): %q, %d, not %q", c.from, c.to, got, e, c.want)
		}
	}
	if l, e := tree.Scan(raw(sealed("", "")), "", ""); len(l) != 0 || e != api.OK {
		t.Errorf("Scan of nothing: %v, %d", l, e)
	}
}

// Rows that come out are new memory, with nothing behind their length; no page is changed.
func TestRowsKeepNothing(t *testing.T) {
	want := uneven(100)
	pages, _ := tree.Build(want)
	bytes := texts(pages)
	l, _ := tree.Rows(pages)
	again, _ := tree.Rows(pages)
	some, _ := tree.Scan(pages, want[10].Key, want[20].Key)
	other, _ := tree.Scan(pages, want[10].Key, want[30].Key)
	for _, rows := range [][]api.Row{l, some} {
		for _, r := range rows[len(rows):cap(rows)] {
			if r.Key != "" || r.Value != nil {
				t.Fatal("rows lie behind the length")
			}
		}
	}
	_ = append(again, row("x", "x"))
	_ = append(other, row("x", "x"))
	for _, rows := range [][]api.Row{again, other} {
		for i := range rows {
			rows[i].Key = "x"
			clear(rows[i].Value)
		}
	}
	if !slices.Equal(texts(pages), bytes) {
		t.Error("a page is changed")
	}
	for _, p := range pages {
		clear(p)
	}
	if !same(l, want) || !same(some, want[10:20]) {
		t.Error("rows share memory with pages, or with another call's")
	}
	right := raw(sheet(0, row("a", "1")), "no page")
	reads(t, "a page behind the length", right[:1], []api.Row{row("a", "1")})
}
