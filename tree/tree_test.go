package tree_test

import (
	"hash/crc32"
	"slices"
	"strconv"
	"strings"
	"testing"

	"roadstead/api"
	"roadstead/tree"
)

// row is one of that key and value.
func row(key, value string) api.Row {
	return api.Row{Key: key, Value: []byte(value)}
}

// sealed are 252 bytes of a page, filled up with noughts ahead of the tail, and their check.
func sealed(head, tail string) string {
	b := head + strings.Repeat("\x00", 252-len(head)-len(tail)) + tail
	n := crc32.ChecksumIEEE([]byte(b))
	return b + string([]byte{byte(n), byte(n >> 8), byte(n >> 16), byte(n >> 24)})
}

// leb is a number, seven bits a byte, the lowest first.
func leb(n int) string {
	if n < 128 {
		return string([]byte{byte(n)})
	}
	return string([]byte{byte(n) | 128}) + leb(n>>7)
}

// laid is a row's bytes.
func laid(r api.Row) string {
	return leb(len(r.Key)) + r.Key + leb(len(r.Value)) + string(r.Value)
}

// sheet is a page of rows that have room, whatever else is wrong with them.
func sheet(level int, l ...api.Row) string {
	head, tail := string([]byte{byte(level), byte(len(l))}), ""
	for _, r := range l {
		tail = laid(r) + tail
		head += string([]byte{byte(252 - len(tail))})
	}
	return sealed(head, tail)
}

// plain is a tree, level by level, made as simply as may be, and how many pages each level has. Rows must have room.
func plain(l []api.Row) ([]string, []int) {
	var pages []string
	var counts []int
	for level := 0; ; level++ {
		first := len(pages)
		var above, some []api.Row
		used := 0
		end := func() {
			if len(some) > 0 {
				above = append(above, row(some[0].Key, leb(len(pages))))
			}
			pages = append(pages, sheet(level, some...))
			some, used = nil, 0
		}
		for _, r := range l {
			if n := 1 + len(laid(r)); used+n > 250 {
				end()
			}
			some = append(some, r)
			used += 1 + len(laid(r))
		}
		end()
		counts = append(counts, len(pages)-first)
		if len(pages)-first == 1 {
			return pages, counts
		}
		l = above
	}
}

// texts are pages as strings.
func texts(pages [][]byte) []string {
	var l []string
	for _, p := range pages {
		l = append(l, string(p))
	}
	return l
}

// raw are strings as pages.
func raw(pages ...string) [][]byte {
	var l [][]byte
	for _, p := range pages {
		l = append(l, []byte(p))
	}
	return l
}

// same says whether rows have the same keys and values.
func same(a, b []api.Row) bool {
	return slices.EqualFunc(a, b, func(x, y api.Row) bool { return x.Key == y.Key && string(x.Value) == string(y.Value) })
}

// sized are n rows with rising keys of k bytes, which begin with four digits, and values of v bytes.
func sized(n, k, v int) []api.Row {
	var l []api.Row
	for i := range n {
		key := strconv.Itoa(10000 + i)[1:] + strings.Repeat("k", max(k-4, 0))
		l = append(l, row(key, strings.Repeat("v", v)))
	}
	return l
}

// uneven are n rows with rising keys, and values, of all lengths.
func uneven(n int) []api.Row {
	var l []api.Row
	for i := range n {
		key := strconv.Itoa(10000 + i)[1:] + strings.Repeat("\xff", i*7%27)
		l = append(l, row(key, strings.Repeat("\x00", i*i*31%151)))
	}
	return l
}

// lists are rows of which there is a tree, and how many levels it has.
func lists() []struct {
	name   string
	l      []api.Row
	levels int
} {
	return []struct {
		name   string
		l      []api.Row
		levels int
	}{
		{"nil", nil, 1},
		{"no rows", []api.Row{}, 1},
		{"one of nothing", []api.Row{{}}, 1},
		{"one", []api.Row{row("a", "1")}, 1},
		{"two", []api.Row{row("", "\x00"), row("\x00", "")}, 1},
		{"bytes", []api.Row{row("\n", "\xff"), row("z", ""), row("\x80", "1"), row("\xc3\xa9", "2"), row("\xff", "3")}, 1},
		{"one page, filled", sized(50, 1, 0)[:35], 1},
		{"one page, and a row", sized(50, 1, 0)[:36], 2},
		{"the longest", sized(1, 30, 150), 1},
		{"the longest, twice", sized(2, 30, 150), 2},
		{"250 bytes", []api.Row{sized(1, 30, 150)[0], row("1"+strings.Repeat("k", 29), strings.Repeat("v", 33))}, 1},
		{"251 bytes", []api.Row{sized(1, 30, 150)[0], row("1"+strings.Repeat("k", 29), strings.Repeat("v", 34))}, 2},
		{"7 pages, one above", sized(7, 30, 150), 2},
		{"8 pages, two above", sized(8, 30, 150), 3},
		{"49 pages", sized(49, 30, 150), 3},
		{"50 pages", sized(50, 30, 150), 4},
		{"343 pages", sized(343, 30, 150), 4},
		{"344 pages", sized(344, 30, 150), 5},
		{"2401 pages: the most, where keys are long", sized(2401, 30, 150), 5},
		{"127 pages, with numbers of one byte and of two", sized(130, 5, 150), 3},
		{"as many rows as may be", sized(api.MaxRows, 4, 0), 3},
		{"as many rows as may be, with more", sized(api.MaxRows, 12, 30), 4},
		{"uneven", uneven(3000), 5},
		{"a few uneven", uneven(40), 3},
	}
}

func TestRising(t *testing.T) {
	for _, c := range []struct {
		keys string
		want bool
	}{
		{"", true},
		{"a", true},
		{"a b", true},
		{"a a", false},
		{"b a", false},
		{"a b c", true},
		{"a b b", false},
		{"a c b", false},
		{"a a b", false},
		{"b a c", false},
		{"a b c d d", false},
		{"a aa ab b ba", true},
		{"aa a", false},
		{"b aa", false},
		{"A a", true},
		{"a A", false},
		{"10 9", true},
		{"9 10", false},
		{"z \x7f \x80 \xc3\xa9 \xff", true},
		{"\x80 \x7f", false},
		{"\xff \xc3\xa9", false},
		{"a a\x00 a\x00\x00 a\x01", true},
		{"a\x00 a", false},
	} {
		var l []api.Row
		for _, key := range strings.Fields(c.keys) {
			l = append(l, row(key, "v"))
		}
		if got := tree.Rising(l); got != c.want {
			t.Errorf("Rising of %q: %v", c.keys, got)
		}
	}
	if !tree.Rising([]api.Row{}) || !tree.Rising([]api.Row{{}}) || !tree.Rising([]api.Row{row("", "z"), row("\x00", "a")}) {
		t.Error("Rising: a key without bytes is below all others")
	}
	if tree.Rising([]api.Row{{}, {}}) || tree.Rising([]api.Row{row("a", ""), {}}) || tree.Rising([]api.Row{row("a", "1"), row("a", "2")}) {
		t.Error("Rising: the values do not count")
	}
	long := sized(9999, 40, 0)
	if !tree.Rising(long) {
		t.Error("Rising: more rows, or longer keys, than a tree has")
	}
	if !tree.Rising(append(long, row("a", ""), row("b", ""), row("a", ""))[:10001]) {
		t.Error("Rising: what lies behind the length counts")
	}
}

// Trees that were written by hand.
func TestBuild(t *testing.T) {
	k29, v150 := strings.Repeat("k", 29), strings.Repeat("v", 150)
	for _, c := range []struct {
		what string
		l    []api.Row
		want []string
	}{
		{"nothing", nil, []string{strings.Repeat("\x00", 252) + "\xf1\x59\x63\xa6"}},
		{"one row", []api.Row{row("a", "1")}, []string{sealed("\x00\x01\xf8", "\x01a\x011")}},
		{"one of nothing", []api.Row{{}}, []string{sealed("\x00\x01\xfa", "\x00\x00")}},
		{"two rows", []api.Row{row("a", "1"), row("bc", "")}, []string{sealed("\x00\x02\xf8\xf4", "\x02bc\x00\x01a\x011")}},
		{"two pages", []api.Row{row("a"+k29, v150), row("b"+k29, v150)}, []string{
			sealed("\x00\x01\x45", "\x1ea"+k29+"\x96\x01"+v150),
			sealed("\x00\x01\x45", "\x1eb"+k29+"\x96\x01"+v150),
			sealed("\x01\x02\xdb\xba", "\x1eb"+k29+"\x01\x01\x1ea"+k29+"\x01\x00"),
		}},
		{"as many in a page as have room, then those that are left", []api.Row{row("", v150), row("a", v150[:90]), row("b", v150), row("c", v150), row("d", "")}, []string{
			sealed("\x00\x02\x63\x06", "\x01a\x5a"+v150[:90]+"\x00\x96\x01"+v150),
			sealed("\x00\x01\x62", "\x01b\x96\x01"+v150),
			sealed("\x00\x02\x62\x5f", "\x01d\x00\x01c\x96\x01"+v150),
			sealed("\x01\x03\xf9\xf5\xf1", "\x01c\x01\x02\x01b\x01\x01\x00\x01\x00"),
		}},
	} {
		got, ok := tree.Build(c.l)
		if !ok || !slices.Equal(texts(got), c.want) {
			t.Errorf("%s: Build: %x, %v, not %x", c.what, got, ok, c.want)
		}
	}
}

// Levels lie one behind the other; a number may be one of more bytes than one.
func TestBuildLevels(t *testing.T) {
	for _, c := range lists() {
		want, counts := plain(c.l)
		got, ok := tree.Build(c.l)
		if !ok || !slices.Equal(texts(got), want) {
			t.Errorf("%s: Build: %d pages, %v, not %d", c.name, len(got), ok, len(want))
			continue
		}
		if len(counts) != c.levels || int(got[len(got)-1][0]) != c.levels-1 {
			t.Errorf("%s: %v pages, level by level; the root's level %d; not %d levels", c.name, counts, got[len(got)-1][0], c.levels)
		}
	}
	for n := range 120 {
		l := uneven(200)[n : n+n/2]
		if want, _ := plain(l); !isTree(l, want) {
			t.Errorf("Build of %d rows", len(l))
		}
		if want, _ := plain(sized(n, n%27, 151-n)); !isTree(sized(n, n%27, 151-n), want) {
			t.Errorf("Build of %d rows of %d and %d bytes", n, n%27, 151-n)
		}
	}
}

// isTree says whether Build makes these pages.
func isTree(l []api.Row, want []string) bool {
	got, ok := tree.Build(l)
	return ok && slices.Equal(texts(got), want)
}

func TestBuildNot(t *testing.T) {
	long := sized(100, 30, 100)
	with := func(at int, r api.Row) []api.Row {
		l := slices.Clone(long)
		l[at] = r
		return l
	}
	key := func(at, n int) api.Row {
		return row(long[at].Key[:4]+strings.Repeat("k", n-4), "v")
	}
	value := func(at, n int) api.Row {
		return row(long[at].Key, strings.Repeat("v", n))
	}
	for _, c := range []struct {
		what string
		l    []api.Row
	}{
		{"two of a key", []api.Row{row("a", "1"), row("a", "1")}},
		{"two without a key", []api.Row{{}, {}}},
		{"falling", []api.Row{row("b", ""), row("a", "")}},
		{"the last one falls", []api.Row{row("a", ""), row("c", ""), row("b", "")}},
		{"falling on another page", with(60, row("0000", ""))},
		{"the last one as the one ahead", with(99, long[98])},
		{"the first one above", with(0, row("z", ""))},
		{"one more than the most", sized(api.MaxRows+1, 4, 0)},
		{"far more than the most", sized(9999, 4, 0)},
		{"a key of 31", []api.Row{row(strings.Repeat("k", 31), "")}},
		{"a value of 151", []api.Row{row("a", strings.Repeat("v", 151))}},
		{"a key far too long", []api.Row{row(strings.Repeat("k", 1000), "")}},
		{"a value far too long", []api.Row{row("a", strings.Repeat("v", 1000))}},
		{"the first key of 31", with(0, key(0, 31))},
		{"a key of 31", with(50, key(50, 31))},
		{"the last key of 31", with(99, key(99, 31))},
		{"the first value of 151", with(0, value(0, 151))},
		{"a value of 151", with(51, value(51, 151))},
		{"the last value of 151", with(99, value(99, 151))},
		{"a level 5", sized(2402, 30, 150)},
		{"a level 5, as many rows as may be", sized(api.MaxRows, 30, 150)},
	} {
		if got, ok := tree.Build(c.l); ok || len(got) != 0 {
			t.Errorf("%s: Build: %d pages, %v", c.what, len(got), ok)
		}
	}
	for _, l := range [][]api.Row{long, with(50, key(50, 30)), with(51, value(51, 150)), with(99, value(99, 150))} {
		if got, ok := tree.Build(l); !ok || len(got) == 0 {
			t.Error("Build: none of what is as long as may be")
		}
	}
}

// Nothing handed in is changed, kept, or read behind its length; nothing that comes out is shared.
func TestBuildKeepsNothing(t *testing.T) {
	l := uneven(201)
	l[200].Key = ""
	want, _ := plain(uneven(200))
	got, ok := tree.Build(l[:200])
	again, _ := tree.Build(l[:200])
	if !ok || !slices.Equal(texts(got), want) || !same(l[:200], uneven(200)) || l[200].Key != "" {
		t.Fatal("Build: not the tree, or rows are others")
	}
	for i := range l {
		l[i].Key = "x"
		clear(l[i].Value)
	}
	for i := range again {
		_ = append(again[i], 1, 2, 3)
		for k := range again[i] {
			again[i][k] = 0xee
		}
		if i+1 < len(again) && string(again[i+1]) != want[i+1] {
			t.Fatalf("Build: page %d shares memory with the one ahead", i+1)
		}
	}
	if !slices.Equal(texts(got), want) {
		t.Error("Build: pages share memory with rows, or with another call's")
	}
	long := make([]byte, 200)
	if p, ok := tree.Build([]api.Row{{Key: "a", Value: long[:150]}, {Key: "b", Value: long[:0]}}); !ok || len(p) != 1 {
		t.Error("Build: what lies behind a value's length counts")
	}
}
