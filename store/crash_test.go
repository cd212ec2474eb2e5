package store_test

import (
	"math/rand"
	"slices"
	"strconv"
	"strings"
	"testing"

	"roadstead/api"
	"roadstead/dev"
	"roadstead/store"
)

// step is one of a store's: changes; without any all is laid anew; or it is opened.
type step struct {
	l    []api.Change
	open bool
}

// steps are some, small and large: frames of one sector and of many, layings of themselves and by want of room.
func steps() []step {
	w := func(n int) string { return strings.Repeat(strconv.Itoa(n%10), n) }
	return []step{
		{l: []api.Change{put("a", "1")}},
		{l: []api.Change{put("b", w(120)), put("c", w(90))}},
		{l: []api.Change{gone("a")}},
		{},
		{l: []api.Change{put("d", w(150)), put("b", w(150)), put("a", "2")}},
		{l: []api.Change{put("e", w(100)), gone("c")}},
		{l: []api.Change{put("a", w(60)), put("f", w(30))}},
		{open: true},
		{l: []api.Change{put("g", w(20))}},
		{l: []api.Change{gone("b"), gone("d"), put("h", w(140)), put("i", w(130)), put("j", w(110))}},
		{l: []api.Change{put("a", w(149)), gone("f"), gone("g")}},
		{},
		{l: []api.Change{put("a", "3")}},
		{l: []api.Change{gone("h"), gone("i"), gone("j"), gone("e"), gone("a")}},
		{l: []api.Change{put("z", "26")}},
	}
}

// run does steps, from a device as it stands; at each one's end, told is called.
func run(d *dev.Dev, all []step, told func(step, *store.Store)) {
	s, e := store.Open(d)
	for _, x := range all {
		if e != api.OK {
			return // the power is cut, and what is on the device can't be opened till the crash
		}
		switch {
		case x.open:
			s, e = store.Open(d)
		case x.l == nil:
			s.Checkpoint()
		default:
			s.Commit(x.l)
		}
		told(x, s)
	}
}

// gauge is how many writes and flushes did something.
func gauge(d *dev.Dev) int {
	c := d.Traffic()
	return int(real(c) + imag(c))
}

// keeps are choices of loose writes: all there are, if these are few; else some that stand for them.
func keeps(draw *rand.Rand, n int) [][]bool {
	var l [][]bool
	if n <= 5 {
		for choice := range 1 << n {
			var keep []bool
			for i := range n {
				keep = append(keep, choice>>i&1 == 1)
			}
			l = append(l, keep)
		}
		return l
	}
	for _, some := range []func(i int) bool{
		func(i int) bool { return false },
		func(i int) bool { return true },
		func(i int) bool { return i > 0 },
		func(i int) bool { return i < n-1 },
		func(i int) bool { return i == n-1 },
		func(i int) bool { return i%2 == 0 },
		func(i int) bool { return i != n/2 },
		func(i int) bool { return draw.Intn(2) == 0 },
		func(i int) bool { return draw.Intn(4) > 0 },
		func(i int) bool { return draw.Intn(8) > 0 },
	} {
		var keep []bool
		for i := range n {
			keep = append(keep, some(i))
		}
		l = append(l, keep)
	}
	return l
}

// A power cut at each write and each flush, and of what is loose then any choice kept: rows are those behind all commits that told OK ahead of it, and perhaps one more.
func TestCrash(t *testing.T) {
	draw := rand.New(rand.NewSource(4))
	base := dev.New(64)
	store.Format(base)
	base, start := base.Copy(), gauge(base)
	states := [][]api.Row{nil} // behind each commit
	var ends []int             // of each commit, how many writes and flushes there were
	whole := base.Copy()
	run(whole, steps(), func(x step, s *store.Store) {
		if x.l != nil {
			states, ends = append(states, s.Rows()), append(ends, gauge(whole)-start)
		}
	})
	if len(ends) != 12 || !same(states[12], []api.Row{row("z", "26")}) {
		t.Fatalf("%d commits, %v", len(ends), states)
	}
	one, more := 0, 0
	for cut := range gauge(whole) - start + 1 {
		d := base.Copy()
		d.Fuse(cut)
		run(d, steps(), func(step, *store.Store) {})
		behind := 0
		for _, end := range ends {
			if end <= cut {
				behind++
			}
		}
		for _, keep := range keeps(draw, len(d.Loose())) {
			c := d.Copy()
			c.Crash(keep...)
			got := opened(t, "behind a crash", c.Copy()).Rows()
			switch {
			case same(got, states[behind]):
				one++
			case behind+1 < len(states) && same(got, states[behind+1]):
				more++
			default:
				t.Fatalf("cut at %d, kept %v: %v, not %v", cut, keep, got, states[behind])
			}
			crashOpen(t, draw, c, got)
		}
	}
	if one < 500 || more == 0 {
		t.Errorf("%d crashes, %d with one more", one, more)
	}
}

// crashOpen says that the rows of a device last when the power is cut while it is opened; and that what is committed behind that lasts, too.
func crashOpen(t *testing.T, draw *rand.Rand, d *dev.Dev, want []api.Row) {
	t.Helper()
	for cut := 0; ; cut++ {
		c := d.Copy()
		was := gauge(c)
		c.Fuse(cut)
		if _, e := store.Open(c); e != api.OK {
			t.Fatalf("cut at %d while it is opened: Open: %d", cut, e)
		}
		whole := gauge(c)-was < cut
		choices := keeps(draw, len(c.Loose()))
		c.Crash(choices[draw.Intn(len(choices))]...)
		s := opened(t, "cut while it was opened", c)
		if !same(s.Rows(), want) {
			t.Fatalf("cut at %d while it was opened: %v, not %v", cut, s.Rows(), want)
		}
		commits(t, s, put("y", "25"))
		c.Crash()
		got := opened(t, "once more", c).Rows()
		if at := slices.IndexFunc(got, func(r api.Row) bool { return r.Key == "y" }); at < 0 || !same(slices.Delete(got, at, at+1), want) {
			t.Fatalf("cut at %d, and one more commit: %v", cut, got)
		}
		if whole {
			return
		}
	}
}

// Between calls nothing is loose: a crash takes nothing.
func TestCrashBetween(t *testing.T) {
	d := dev.New(64)
	store.Format(d)
	d.Crash()
	run(d, steps(), func(x step, s *store.Store) {
		if len(d.Loose()) > 0 {
			t.Errorf("loose: %v", d.Loose())
		}
		d.Crash()
		if c := opened(t, "between", d.Copy()); !same(c.Rows(), s.Rows()) {
			t.Errorf("%v, not %v", c.Rows(), s.Rows())
		}
	})
}

// A frame that was torn is never found again, though what is written behind it leads up to it.
func TestCrashTornFrame(t *testing.T) {
	d, s := fresh(t, 64)
	commits(t, s, put("a", "1"))
	long := []api.Change{put("b", strings.Repeat("2", 150))} // of four sectors
	d.Fuse(4)
	s.Commit(long)
	d.Crash(false, true, true, true)
	s = opened(t, "torn", d)
	holds(t, "torn", s, 3, 0, row("a", "1"))
	commits(t, s, put("c", "3"))
	commits(t, s, put("d", "4"))
	holds(t, "opened", opened(t, "opened", d), 4, 0, row("a", "1"), row("c", "3"), row("d", "4"))
}
