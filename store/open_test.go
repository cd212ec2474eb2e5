package store_test

import (
	"math/bits"
	"slices"
	"strconv"
	"strings"
	"testing"

	"roadstead/api"
	"roadstead/dev"
	"roadstead/log"
	"roadstead/store"
)

// refuses says which error has to come of a device; nothing may be written to it.
func refuses(t *testing.T, what string, d *dev.Dev, want api.Errno) {
	t.Helper()
	was := d.Traffic()
	if s, e := store.Open(d); s != nil || e != want {
		t.Errorf("%s: Open: %v, %d, not %d", what, s, e, want)
	}
	if d.Traffic() != was || len(d.Loose()) > 0 {
		t.Errorf("%s: Open writes", what)
	}
}

// frames are the sectors of the frames of an epoch.
func frames(epoch int, all ...[]api.Change) []string {
	var s []string
	for n, l := range all {
		sectors, ok := log.Parts(epoch, n, l)
		if !ok {
			panic("no frame")
		}
		for _, b := range sectors {
			s = append(s, string(b))
		}
	}
	return s
}

// wide is a row that fills a page.
func wide(n int) api.Row {
	return row("wide"+strconv.Itoa(n), strings.Repeat("w", 150))
}

// wides are so many of these, from one on.
func wides(from, n int) []api.Row {
	var l []api.Row
	for i := range n {
		l = append(l, wide(from+i))
	}
	return l
}

// puts are the changes that make rows.
func puts(l ...api.Row) []api.Change {
	var c []api.Change
	for _, r := range l {
		c = append(c, api.Change{Key: r.Key, Value: r.Value})
	}
	return c
}

func TestOpenFresh(t *testing.T) {
	for _, n := range sizes() {
		d, s := fresh(t, n)
		holds(t, "fresh", s, 2, 0)
		_, areas, _ := parts(n)
		has(t, "the heads", d, 0, head(2, 1, 1), head(1, 0, 1))
		has(t, "the journal", d, 2, slices.Repeat([]string{blank}, n/4)...)
		has(t, "the page", d, areas[1], empty...)
		// Area by area, head by head, epoch by epoch.
		for epoch := 3; epoch < 8; epoch++ {
			want := laying(n, epoch, (epoch+1)%2, 1)
			if l := trace(d, func(d *dev.Dev) { store.Open(d) }); !slices.Equal(l, want) {
				t.Errorf("Open of %d writes %v, not %v", n, l, want)
			}
			holds(t, "again", opened(t, "again", d), epoch, 0)
			d.Crash()
		}
		has(t, "the heads", d, 0, head(6, 1, 1), head(7, 0, 1))
	}
}

// A head may stand in either sector, tell of either area, and of any epoch there is.
func TestOpenHeads(t *testing.T) {
	l := append(wides(0, 3), row("x", "1"), row("y", ""))
	for _, n := range []int{64, 65, 256} {
		for at := range 2 {
			for area := range 2 {
				for _, epoch := range []int{1, 2, 3, 255, 256, 257, 65535, 65536, 1<<24 - 1, 1 << 24, 0x01020304, api.MaxSeq - 2} {
					d := device(n, 0xee)
					craft(d, at, epoch, area, l...)
					holds(t, "crafted", opened(t, "crafted", d), epoch+1, 0, l...)
					s, pages := sheets(l...)
					_, areas, _ := parts(n)
					has(t, "the head", d, (epoch+1)%2, head(epoch+1, 1-area, pages))
					has(t, "the pages", d, areas[1-area], s...)
					has(t, "the pages that were", d, areas[area], s...)
					holds(t, "again", opened(t, "again", d), epoch+2, 0, l...)
				}
			}
		}
	}
}

// flaws are heads that may not be, of a device of 64 sectors.
func flaws() map[string]string {
	right := head(3, 0, 1)
	m := map[string]string{
		"noughts":            blank,
		"noughts, sealed":    sealed(""),
		"ones":               strings.Repeat("\xff", 64),
		"no letters":         sealed("\x00\x00" + right[2:60]),
		"small letters":      sealed("rs" + right[2:60]),
		"letters about":      sealed("SR" + right[2:60]),
		"one letter":         sealed("Rs" + right[2:60]),
		"another letter":     sealed("rS" + right[2:60]),
		"the epoch 0":        head(0, 0, 1),
		"an epoch above":     head(api.MaxSeq+1, 0, 1),
		"2^31":               head(1<<31, 0, 1),
		"2^31 and 3":         head(1<<31+3, 0, 1),
		"2^32-1":             head(1<<32-1, 0, 1),
		"the area 2":         head(3, 2, 1),
		"the area 128":       head(3, 128, 1),
		"the area 255":       head(3, 255, 1),
		"no pages":           head(3, 0, 0),
		"a page too many":    head(3, 0, 6),
		"256 pages":          head(3, 0, 256),
		"257 pages":          head(3, 0, 257),
		"65535 pages":        head(3, 0, 65535),
		"the sum about":      right[:60] + string([]byte{right[63], right[62], right[61], right[60]}),
		"no sum":             right[:60] + "\x00\x00\x00\x00",
		"an epoch from back": sealed("RS\x03\x00\x00\x00\x00\x01\x00" + strings.Repeat("\x00", 51)),
	}
	for i := 9; i < 60; i++ {
		m["a byte at "+strconv.Itoa(i)] = sealed(right[:i] + "\x01" + right[i+1:60])
	}
	return m
}

func TestOpenFlaws(t *testing.T) {
	for what, flaw := range flaws() {
		for at := range 2 {
			d := dev.New(64)
			craft(d, 0, 3, 0)
			craft(d, 1, 3, 0)
			inked(d, at, flaw)
			// The other one holds.
			holds(t, what, opened(t, what, d.Copy()), 4, 0)
			inked(d, 1-at, blank)
			refuses(t, what, d, api.ErrForm)
			inked(d, 1-at, flaw)
			refuses(t, what, d, api.ErrForm)
		}
	}
	refuses(t, "a new one", dev.New(64), api.ErrForm)
	refuses(t, "ones", device(64, 0xff), api.ErrForm)
	// Heads behind the first two sectors count for nothing.
	d := dev.New(64)
	craft(d, 2, 3, 0)
	craft(d, 63, 3, 0)
	refuses(t, "elsewhere", d, api.ErrForm)
	// As many pages as an area has may be.
	for _, n := range []int{64, 66, 4096} {
		_, areas, most := parts(n)
		for pages := most; pages <= most+1; pages++ {
			d := dev.New(n)
			inked(d, areas[1], empty...)
			inked(d, 0, head(1, 1, pages))
			want := api.ErrForm
			if pages == most {
				want = api.ErrSum // of the second page
			}
			refuses(t, "the most pages", d, want)
		}
	}
}

// With any bit another one there is no head.
func TestOpenBits(t *testing.T) {
	for i := range 64 {
		for bit := range 8 {
			d := dev.New(64)
			craft(d, 1, 5, 1, row("a", "1"))
			b, _ := d.Read(1)
			d.Spoil(1, i, b[i]^1<<bit)
			refuses(t, "a bit", d, api.ErrForm)
			if bits.OnesCount8(b[i]) == 0 && i < 60 && bit > 0 {
				break // a nought is a nought: one bit of it is enough, of the sum all count
			}
		}
	}
}

func TestOpenNewest(t *testing.T) {
	for _, c := range []struct{ first, second, want int }{
		{1, 2, 2}, {2, 1, 1}, {3, 3, 1}, {1, 1, 1}, {2, 2, 1}, {255, 256, 2}, {256, 255, 1}, {1 << 24, 255, 1}, {1, api.MaxSeq - 1, 2},
		{0, 1, 2}, {1, 0, 1}, {api.MaxSeq + 1, 7, 2}, {7, api.MaxSeq + 1, 1}, {7, 1<<32 - 1, 1},
	} {
		for area := range 2 {
			d := dev.New(64)
			craft(d, 0, c.first, area, row("first", "1"))
			craft(d, 1, c.second, 1-area, row("second", "2"))
			epoch, want := c.first, row("first", "1")
			if c.want == 2 {
				epoch, want = c.second, row("second", "2")
			}
			what := strconv.Itoa(c.first) + " and " + strconv.Itoa(c.second)
			holds(t, what, opened(t, what, d), epoch+1, 0, want)
		}
	}
}

func TestOpenJournal(t *testing.T) {
	a, b, c := []api.Change{put("a", "1"), put("b", "2")}, []api.Change{gone("a"), put("c", strings.Repeat("3", 100))}, []api.Change{put("b", "4")}
	three := strings.Repeat("3", 100)
	all := frames(7, a, b, c)
	if len(all) != 5 {
		t.Fatalf("%d sectors", len(all))
	}
	for _, x := range []struct {
		what    string
		journal []string
		want    []api.Row
	}{
		{"none", nil, []api.Row{row("a", "0")}},
		{"one", all[:1], []api.Row{row("a", "1"), row("b", "2")}},
		{"a torn one", all[:3], []api.Row{row("a", "1"), row("b", "2")}},
		{"two", all[:4], []api.Row{row("b", "2"), row("c", three)}},
		{"three", all, []api.Row{row("b", "4"), row("c", three)}},
		{"the first is not there", append([]string{blank}, all[1:]...), []api.Row{row("a", "0")}},
		{"the second is torn", append(append(slices.Clone(all[:2]), blank), all[3:]...), []api.Row{row("a", "1"), row("b", "2")}},
		{"of the epoch ahead", frames(6, a, b, c), []api.Row{row("a", "0")}},
		{"of an older one behind", append(frames(7, a), frames(6, a, b, c)[1:]...), []api.Row{row("a", "1"), row("b", "2")}},
	} {
		for area := range 2 {
			d := device(64, 0xdd)
			craft(d, 1, 7, area, row("a", "0"))
			inked(d, 2, x.journal...)
			s := opened(t, x.what, d)
			holds(t, x.what, s, 8, 0, x.want...)
			sectors, pages := sheets(x.want...)
			_, areas, _ := parts(64)
			has(t, x.what, d, 0, head(8, 1-area, pages), head(7, area, 1))
			has(t, x.what, d, 2, x.journal...)
			has(t, x.what, d, areas[1-area], sectors...)
			holds(t, x.what, opened(t, x.what, d), 9, 0, x.want...)
		}
	}
}

// What the journal has of an epoch to come counts for nothing, as long as no head tells of that.
func TestOpenJournalAhead(t *testing.T) {
	for _, epoch := range []int{8, 9, 1 << 29, api.MaxSeq} {
		d := dev.New(64)
		craft(d, 1, 7, 0, row("a", "0"))
		inked(d, 2, frames(epoch, []api.Change{put("b", "1")})...)
		holds(t, "ahead", opened(t, "ahead", d), 8, 0, row("a", "0"))
	}
}

// The journal has so many sectors, and not one more.
func TestOpenWholeJournal(t *testing.T) {
	for _, n := range []int{64, 100} {
		for more := range 2 {
			d := dev.New(n)
			craft(d, 0, 2, 1)
			var all [][]api.Change
			for i := range n/4 + more {
				all = append(all, []api.Change{put("a", strconv.Itoa(i))})
			}
			inked(d, 2, frames(2, all...)...)
			holds(t, "all of it", opened(t, "all of it", d), 3, 0, row("a", strconv.Itoa(n/4-1)))
		}
	}
}

func TestOpenPages(t *testing.T) {
	l := wides(0, 4)
	_, areas, _ := parts(64)
	for area := range 2 {
		made := func() *dev.Dev {
			d := dev.New(64)
			craft(d, 0, 2, 1-area, row("older", "1"))
			craft(d, 1, 3, area, l...)
			return d
		}
		holds(t, "whole", opened(t, "whole", made()), 4, 0, l...)
		for i := range 20 {
			d := made()
			b, _ := d.Read(areas[area] + i)
			d.Spoil(areas[area]+i, 3*i, b[3*i]^1)
			refuses(t, "spoiled", d, api.ErrSum)
		}
		for pages := 1; pages < 5; pages++ {
			d := made()
			inked(d, 1, head(3, area, pages))
			want := api.ErrForm
			if pages == 1 {
				want = api.OK // a leaf alone is a tree
			}
			if s, e := store.Open(d); e != want || e != api.OK && s != nil {
				t.Errorf("%d pages: Open: %d, not %d", pages, e, want)
			}
		}
		// An error of the pages is named ahead of those of the laying.
		d := made()
		inked(d, 1, head(api.MaxSeq, area, 4))
		inked(d, 2, frames(api.MaxSeq, puts(wides(4, 2)...))...)
		refuses(t, "no tree, and the last epoch", d, api.ErrForm)
		d.Spoil(areas[area], 0, 9)
		refuses(t, "spoiled, and the last epoch", d, api.ErrSum)
	}
}

func TestOpenFull(t *testing.T) {
	for _, epoch := range []int{3, api.MaxSeq - 1, api.MaxSeq} {
		for more := range 3 {
			d := dev.New(64)
			craft(d, 0, epoch-1, 0, row("older", "1"))
			craft(d, 1, epoch, 1, wides(0, 2)...)
			inked(d, 2, frames(epoch, puts(wides(2, 2)...), puts(wides(4, more)...))...)
			switch {
			case more > 0:
				refuses(t, "no room", d, api.ErrFull)
			case epoch == api.MaxSeq:
				refuses(t, "the last epoch", d, api.ErrOver)
			default:
				holds(t, "room", opened(t, "room", d), epoch+1, 0, wides(0, 4)...)
			}
		}
	}
	// What has no room on the way counts for nothing.
	d := dev.New(64)
	craft(d, 1, 1, 0, wides(0, 4)...)
	inked(d, 2, frames(1, puts(wide(4)), []api.Change{gone("wide0")})...)
	holds(t, "room again", opened(t, "room again", d), 2, 0, wides(1, 4)...)
}

// Of more rows than there may be there is no tree, though an area had room.
func TestOpenManyRows(t *testing.T) {
	var l []api.Row
	for i := range api.MaxRows {
		l = append(l, row(string([]byte{byte(i >> 8), byte(i)}), ""))
	}
	for more := range 2 {
		d := dev.New(4096)
		craft(d, 1, 1, 0, l...)
		inked(d, 2, frames(1, []api.Change{put(l[0].Key, "0"), put(strings.Repeat("\xff", 2+more), "1"), gone(strings.Repeat("\xff", 2))})...)
		if more == 1 {
			refuses(t, "5001 rows", d, api.ErrFull)
			continue
		}
		want := slices.Clone(l)
		want[0].Value = []byte("0")
		holds(t, "5000 rows", opened(t, "5000 rows", d), 2, 0, want...)
	}
}

func TestOpenLast(t *testing.T) {
	d := dev.New(64)
	craft(d, 1, api.MaxSeq-1, 0, row("a", "1"))
	holds(t, "the last but one", opened(t, "the last but one", d), api.MaxSeq, 0, row("a", "1"))
	has(t, "the last but one", d, 0, head(api.MaxSeq, 1, 1))
	for range 2 {
		refuses(t, "the last", d, api.ErrOver)
	}
}
