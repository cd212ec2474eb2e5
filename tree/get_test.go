package tree_test

import (
	"slices"
	"strings"
	"testing"

	"roadstead/api"
	"roadstead/tree"
)

// gets says what a key's value has to be.
func gets(t *testing.T, what string, pages [][]byte, key, want string) {
	t.Helper()
	if v, ok, e := tree.Get(pages, key); string(v) != want || !ok || e != api.OK {
		t.Errorf("%s: Get(%q): %q, %v, %d, not %q", what, key, v, ok, e, want)
	}
}

// lacks says that a key has to have no value.
func lacks(t *testing.T, what string, pages [][]byte, key string) {
	t.Helper()
	if v, ok, e := tree.Get(pages, key); len(v) != 0 || ok || e != api.OK {
		t.Errorf("%s: Get(%q): %q, %v, %d", what, key, v, ok, e)
	}
}

// refuses says what error a search has to tell.
func refuses(t *testing.T, what string, pages [][]byte, key string, want api.Errno) {
	t.Helper()
	if v, ok, e := tree.Get(pages, key); len(v) != 0 || ok || e != want {
		t.Errorf("%s: Get(%q): %q, %v, %d, not %d", what, key, v, ok, e, want)
	}
}

// What was built is found, every row of it, and nothing between.
func TestGet(t *testing.T) {
	for _, c := range lists() {
		pages, _ := tree.Build(c.l)
		has := map[string]bool{}
		for _, r := range c.l {
			has[r.Key] = true
		}
		step := 1 + len(c.l)/500
		for i := 0; i < len(c.l); i += step {
			r := c.l[i]
			gets(t, c.name, pages, r.Key, string(r.Value))
			for _, key := range []string{r.Key + "\x00", r.Key[:len(r.Key)/2], r.Key + strings.Repeat("k", 100)} {
				if !has[key] {
					lacks(t, c.name, pages, key)
				}
			}
		}
		for _, key := range []string{"", "\x00\x00", "/", "zzz", strings.Repeat("\xff", 31), strings.Repeat("\xff", 1000)} {
			if !has[key] {
				lacks(t, c.name, pages, key)
			}
		}
		if n := len(c.l); n > 0 {
			gets(t, c.name, pages, c.l[n-1].Key, string(c.l[n-1].Value))
		}
	}
}

func TestGetNoPages(t *testing.T) {
	refuses(t, "nil", nil, "a", api.ErrForm)
	refuses(t, "no pages", [][]byte{}, "", api.ErrForm)
}

// The search begins with the last page, whatever is ahead of it.
func TestGetRoot(t *testing.T) {
	leaf := sheet(0, row("a", "1"))
	gets(t, "a leaf behind others", raw("", "x", sheet(3), leaf), "a", "1")
	lacks(t, "a leaf without rows", raw(leaf, sheet(0)), "a")
	gets(t, "rows that do not rise", raw(sheet(0, row("c", "3"), row("b", "2"), row("a", "1"))), "b", "2")
	gets(t, "rows that do not rise", raw(sheet(0, row("c", "3"), row("b", "2"), row("a", "1"))), "a", "1")
	refuses(t, "nothing", raw(leaf, ""), "a", api.ErrForm)
	refuses(t, "nil", [][]byte{[]byte(leaf), nil}, "a", api.ErrForm)
	refuses(t, "a byte too few", raw(leaf, leaf[:255]), "a", api.ErrForm)
	refuses(t, "a byte too many", raw(leaf, leaf+"\x00"), "a", api.ErrForm)
	refuses(t, "noughts", raw(leaf, strings.Repeat("\x00", 256)), "a", api.ErrSum)
	refuses(t, "another byte", raw(leaf, "\x01"+leaf[1:]), "a", api.ErrSum)
	refuses(t, "a level 5", raw(leaf, sheet(5, row("a", "\x00"))), "a", api.ErrForm)
	refuses(t, "a slot of no row", raw(leaf, sealed("\x00\x01\xfb", "\x00\x00")), "a", api.ErrForm)
}

// The root may be of any level: down from it each page is of one level less, wherever it lies.
func TestGetDown(t *testing.T) {
	pages := raw(
		sheet(0, row("a", "1")),
		"no page",
		sheet(1, row("a", "\x00")),
		sheet(2, row("a", "\x02")),
		strings.Repeat("\x00", 256),
		sheet(3, row("a", "\x03")),
		sheet(4, row("a", "\x05")),
	)
	for _, n := range []int{1, 3, 4, 6, 7} {
		gets(t, "down", pages[:n], "a", "1")
		lacks(t, "down", pages[:n], "b")
		lacks(t, "down", pages[:n], "")
	}
	refuses(t, "no page", pages[:2], "a", api.ErrForm)
	refuses(t, "noughts", pages[:5], "a", api.ErrSum)
}

// Which row of a page leads on: the last that is not above the key, where all ahead of it are so; the first, if it is above.
func TestGetWay(t *testing.T) {
	leaves := []string{
		sheet(0, row("", "0"), row("a", "0"), row("b", "0"), row("c", "0"), row("d", "0")),
		sheet(0, row("", "1"), row("a", "1"), row("b", "1"), row("c", "1"), row("d", "1")),
		sheet(0, row("", "2"), row("a", "2"), row("b", "2"), row("c", "2"), row("d", "2")),
	}
	for _, c := range []struct {
		what string
		root []api.Row
		want string // by the keys "", a, b, c, d
	}{
		{"rising", []api.Row{row("a", "\x00"), row("b", "\x01"), row("d", "\x02")}, "00112"},
		{"the numbers fall", []api.Row{row("a", "\x02"), row("b", "\x01"), row("d", "\x00")}, "22110"},
		{"the first of all", []api.Row{row("", "\x01"), row("c", "\x02")}, "11122"},
		{"the first is above", []api.Row{row("c", "\x01"), row("d", "\x00")}, "11110"},
		{"one alone", []api.Row{row("c", "\x02")}, "22222"},
		{"two of a key", []api.Row{row("b", "\x00"), row("b", "\x01"), row("c", "\x02")}, "00122"},
		{"falling", []api.Row{row("c", "\x00"), row("b", "\x01"), row("a", "\x02")}, "00022"},
		{"one above between", []api.Row{row("a", "\x00"), row("d", "\x01"), row("b", "\x02")}, "00002"},
	} {
		pages := raw(append(slices.Clone(leaves), sheet(1, c.root...))...)
		for i, key := range []string{"", "a", "b", "c", "d"} {
			gets(t, c.what, pages, key, c.want[i:i+1])
		}
	}
}

// A value has to be the number of a page ahead, and nothing else.
func TestGetNumber(t *testing.T) {
	leaf := sheet(0, row("a", "1"))
	for level := range 3 {
		pages := []string{leaf, sheet(1, row("a", "\x00")), sheet(2, row("a", "\x01"))}[:level+1]
		at := string([]byte{byte(len(pages))})
		on := string([]byte{byte(level)})
		for what, v := range map[string]string{
			"no bytes":              "",
			"itself":                at,
			"behind it":             string([]byte{at[0] + 1}),
			"far behind it":         "\xff\xff\xff\x7f",
			"the greatest":          leb(api.MaxNum),
			"above the greatest":    leb(api.MaxNum + 1),
			"bytes without end":     "\x80\x80\x80\x80\x80\x80\x80\x80\x80",
			"all bits":              "\xff\xff\xff\xff\xff\xff\xff\xff\xff\x01",
			"cut off":               "\x80",
			"a nought more":         string([]byte{byte(level) | 128}) + "\x00",
			"a byte more":           on + "\x00",
			"a number more":         on + on,
			"a sign":                "0",
			"a number as ten signs": "0000000000",
		} {
			refuses(t, what, raw(append(slices.Clone(pages), sheet(level+1, row("a", v)))...), "a", api.ErrForm)
		}
		gets(t, "right", raw(append(slices.Clone(pages), sheet(level+1, row("a", on)))...), "a", "1")
	}
	// Another row's value is of no matter.
	pages := raw(leaf, sheet(1, row("a", "\x00"), row("b", "\x01"), row("c", "")))
	gets(t, "the first", pages, "a", "1")
	refuses(t, "the second", pages, "b", api.ErrForm)
	refuses(t, "the third", pages, "c", api.ErrForm)
	gets(t, "a number of two bytes", raw(append(slices.Repeat([]string{"x"}, 300), leaf, sheet(1, row("a", "\xac\x02")))...), "a", "1")
}

// A page without rows leads nowhere; one of any level but the next is no way on.
func TestGetLevels(t *testing.T) {
	for above := 1; above <= api.MaxDepth; above++ {
		refuses(t, "no rows", raw(sheet(above-1), sheet(above)), "a", api.ErrForm)
		refuses(t, "no rows, alone", raw(sheet(above)), "a", api.ErrForm)
		for level := range api.MaxDepth + 1 {
			pages := raw(sheet(0, row("a", "1")), sheet(1, row("a", "\x00")), sheet(2, row("a", "\x01")), sheet(3, row("a", "\x02")), sheet(4, row("a", "\x03")), sheet(above, row("a", string([]byte{byte(level)}))))
			if level == above-1 {
				gets(t, "one less", pages, "a", "1")
			} else {
				refuses(t, "another level", pages, "a", api.ErrForm)
			}
			deeper := append(pages[:5:5], []byte(sheet(above, row("a", string([]byte{byte(level)})))))
			if above < api.MaxDepth {
				deeper = append(deeper, []byte(sheet(above+1, row("a", "\x05"))))
			}
			if level != above-1 {
				refuses(t, "another level below", deeper, "a", api.ErrForm)
			}
		}
		// Of a page that is none that is told, whatever its level would be.
		refuses(t, "a sum below", raw("\x01"+sheet(0)[1:], sheet(above, row("a", "\x00"))), "a", api.ErrSum)
		refuses(t, "no page below", raw("x", sheet(above, row("a", "\x00"))), "a", api.ErrForm)
		refuses(t, "no rows below", raw(sheet(above), sheet(min(above+1, api.MaxDepth), row("a", "\x00"))), "a", api.ErrForm)
	}
}

// Only the pages on the way are looked at.
func TestGetWayAlone(t *testing.T) {
	l := sized(60, 30, 150)
	pages, _ := tree.Build(l)
	for i, r := range l {
		spoilt := slices.Clone(pages)
		spoilt[i] = slices.Clone(pages[i])
		spoilt[i][100] ^= 1
		refuses(t, "spoilt", spoilt, r.Key, api.ErrSum)
		refuses(t, "spoilt", spoilt, r.Key+"x", api.ErrSum)
		for k, other := range l {
			if k != i {
				gets(t, "another one is spoilt", spoilt, other.Key, string(other.Value))
			}
		}
		spoilt[i] = nil
		refuses(t, "nil", spoilt, r.Key, api.ErrForm)
	}
}

// A value is new memory, and no page is changed.
func TestGetKeepsNothing(t *testing.T) {
	pages, _ := tree.Build(uneven(100))
	want := texts(pages)
	r := uneven(100)[33]
	v, ok, e := tree.Get(pages, r.Key)
	again, _, _ := tree.Get(pages, r.Key)
	if !ok || e != api.OK || len(v) == 0 {
		t.Fatalf("Get: %q, %v, %d", v, ok, e)
	}
	clear(again)
	again[0] = 'x'
	_ = append(again, "xxxx"...)
	if !slices.Equal(texts(pages), want) {
		t.Error("Get: a page is changed")
	}
	for _, p := range pages {
		clear(p)
	}
	if string(v) != string(r.Value) {
		t.Error("Get: the value is kept in a page, or in another call's value")
	}
	leaf := []byte(sheet(0, row("a", "1")))
	refuses(t, "behind the length", [][]byte{leaf, nil}[:1:2][:0], "a", api.ErrForm)
	refuses(t, "behind a page's length", [][]byte{leaf[:255]}, "a", api.ErrForm)
}
