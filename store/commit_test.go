package store_test

import (
	"maps"
	"math/rand"
	"slices"
	"strconv"
	"strings"
	"testing"

	"roadstead/api"
	"roadstead/dev"
	"roadstead/store"
)

// filling are changes of k whose frame has so many bytes, at least five.
func filling(n int) []api.Change {
	var l []api.Change
	for n > 132 {
		l = append(l, put("k", strings.Repeat("w", 99)))
		n -= 103
	}
	return append(l, put("k", strings.Repeat("v", n-5)))
}

// commits makes changes, which have to be OK.
func commits(t *testing.T, s *store.Store, l ...api.Change) {
	t.Helper()
	tells(t, "Commit", s.Commit(l), api.OK)
}

func TestCommit(t *testing.T) {
	d, s := fresh(t, 64)
	was := d.Traffic()
	commits(t, s, put("b", "1"), put("a", ""))
	holds(t, "one", s, 2, 1, row("a", ""), row("b", "1"))
	commits(t, s, gone("b"), put("c", strings.Repeat("v", 100)), put("a", "2"), put("", "0"))
	holds(t, "two", s, 2, 4, row("", "0"), row("a", "2"), row("c", strings.Repeat("v", 100)))
	commits(t, s, gone("x"))
	commits(t, s, put("a", "2"))
	commits(t, s, put("d", "1"), gone("d"), put("c", "3"), put("c", "4"))
	want := []api.Row{row("", "0"), row("a", "2"), row("c", "4")}
	holds(t, "five", s, 2, 7, want...)
	for _, key := range []string{"b", "d", "x", "aa", "\x00", "c\x00", "zz"} {
		if v, ok := s.Get(key); ok || len(v) != 0 {
			t.Errorf("Get(%q): %q, %v", key, v, ok)
		}
	}
	if now := d.Traffic() - was; now != 7+5i || len(d.Loose()) > 0 {
		t.Errorf("traffic %v, loose %v", now, d.Loose())
	}
	d.Crash()
	has(t, "the heads", d, 0, head(2, 1, 1), head(1, 0, 1))
	has(t, "the journal", d, 2, frames(2,
		[]api.Change{put("b", "1"), put("a", "")},
		[]api.Change{gone("b"), put("c", strings.Repeat("v", 100)), put("a", "2"), put("", "0")},
		[]api.Change{gone("x")}, []api.Change{put("a", "2")}, []api.Change{put("d", "1"), gone("d"), put("c", "3"), put("c", "4")})...)
	has(t, "the journal", d, 9, slices.Repeat([]string{blank}, 9)...)
	holds(t, "opened", opened(t, "opened", d), 3, 0, want...)
}

// Of no change nothing comes: there is no frame of it.
func TestCommitNothing(t *testing.T) {
	d, s := fresh(t, 64)
	was := d.Traffic()
	for _, l := range [][]api.Change{nil, {}, make([]api.Change, 0, 5), []api.Change{put("a", "1")}[:0]} {
		commits(t, s, l...)
		holds(t, "nothing", s, 2, 0)
	}
	if d.Traffic() != was {
		t.Error("Commit of nothing writes")
	}
	commits(t, s, put("a", "1"))
	has(t, "the first frame", d, 2, frames(2, []api.Change{put("a", "1")})...)
}

// rejects says that a commit has to be refused, and that nothing comes of it.
func rejects(t *testing.T, what string, d *dev.Dev, s *store.Store, want api.Errno, l ...api.Change) {
	t.Helper()
	was, rows, epoch, used := d.Traffic(), s.Rows(), s.Epoch(), s.Used()
	tells(t, what, s.Commit(l), want)
	holds(t, what, s, epoch, used, rows...)
	if d.Traffic() != was || len(d.Loose()) > 0 {
		t.Errorf("%s: Commit writes", what)
	}
}

func TestCommitLong(t *testing.T) {
	d, s := fresh(t, 64)
	key, value := strings.Repeat("k", 30), strings.Repeat("v", 150)
	commits(t, s, put("a", "1"), put(key, value))
	want := []api.Row{row("a", "1"), row(key, value)}
	holds(t, "the longest", s, 2, 4, want...)
	for what, l := range map[string][]api.Change{
		"a key":                 {put(key+"k", "")},
		"a value":               {put("k", value+"v")},
		"a key that is gone":    {gone(key + "k")},
		"a value that is gone":  {{Key: "k", Value: []byte(value + "v"), Gone: true}},
		"both":                  {put(key+"k", value+"v")},
		"the last":              {put("b", "2"), gone("a"), put("k", value+"v")},
		"the first":             {put(key+"k", ""), put("b", "2")},
		"far longer":            {put(strings.Repeat("k", 10000), "")},
		"and no room":           append(puts(wides(0, 6)...), gone(key+"k")),
		"and no frame":          append(filling(9900), put("", value+"v")),
		"a long one that fades": {put("k", value+"v"), gone("k")},
	} {
		rejects(t, what, d, s, api.ErrLong, l...)
	}
	commits(t, s, gone(key), api.Change{Key: "a", Value: []byte(value), Gone: true})
	holds(t, "gone", s, 2, 5)
	holds(t, "opened", opened(t, "opened", d), 3, 0)
}

// An area of 64 sectors has five pages: four of a row each, and a root.
func TestCommitFull(t *testing.T) {
	d, s := fresh(t, 64)
	commits(t, s, puts(wides(0, 4)...)...)
	holds(t, "four", s, 2, 13, wides(0, 4)...)
	rejects(t, "five", d, s, api.ErrFull, puts(wide(4))...)
	rejects(t, "two for one", d, s, api.ErrFull, append(puts(wides(4, 2)...), gone("wide0"))...)
	// The room behind all changes counts, not that on the way.
	commits(t, s, append(puts(wide(4)), gone("wide0"))...)
	holds(t, "one for one", s, 3, 4, wides(1, 4)...)
	commits(t, s, gone("wide1"), gone("wide2"))
	commits(t, s, puts(wide(5))...)
	rejects(t, "five again", d, s, api.ErrFull, puts(wides(6, 2)...)...)
	holds(t, "opened", opened(t, "opened", d), 4, 0, wides(3, 3)...)
	// From the first commit on.
	d, s = fresh(t, 64)
	rejects(t, "five at once", d, s, api.ErrFull, append(puts(wides(0, 5)...), put("x", "1"))...)
	holds(t, "none", s, 2, 0)
}

func TestCommitManyRows(t *testing.T) {
	d, s := fresh(t, 4096)
	var l []api.Row
	for i := range api.MaxRows {
		l = append(l, row(string([]byte{byte(i >> 8), byte(i)}), ""))
	}
	for some := range slices.Chunk(l, 1900) {
		commits(t, s, puts(some...)...)
	}
	rejects(t, "5001", d, s, api.ErrFull, put("\xff", ""))
	commits(t, s, put("\xff", ""), gone(l[7].Key))
	commits(t, s, gone("\xff"))
	want := slices.Delete(slices.Clone(l), 7, 8)
	if !same(s.Rows(), want) || !same(opened(t, "many", d).Rows(), want) {
		t.Error("many rows")
	}
}

// A frame has room, if the journal has so many sectors, and if there is one.
func TestCommitFrame(t *testing.T) {
	for n, most := range map[int]int{64: 16 * 49, 100: 25 * 49, 799: 199 * 49, 800: 200 * 49, 804: 200 * 49, 4096: 200 * 49} {
		for _, size := range []int{5, 49, 50, most - 1, most} {
			d, s := fresh(t, n)
			l := filling(size)
			commits(t, s, l...)
			holds(t, "a frame", s, 2, (size+48)/49, row("k", string(l[len(l)-1].Value)))
			has(t, "a frame", d, 2, frames(2, l)...)
			holds(t, "opened", opened(t, "opened", d), 3, 0, row("k", string(l[len(l)-1].Value)))
		}
		d, s := fresh(t, n)
		commits(t, s, put("a", "1"))
		rejects(t, "one more byte", d, s, api.ErrFull, filling(most+1)...)
		rejects(t, "far more", d, s, api.ErrFull, filling(100000)...)
		rejects(t, "many changes", d, s, api.ErrFull, slices.Repeat([]api.Change{gone("a")}, 5001)...)
		commits(t, s, filling(most)...)
		holds(t, "as much as there may be", s, 2+most/49/(n/4), s.Used(), s.Rows()...)
	}
}

// When the journal has no room any more, all is laid anew ahead of the frame.
func TestCommitCheckpoint(t *testing.T) {
	for _, last := range []int{1, 2, 3} {
		d, s := fresh(t, 64)
		for i := range 14 {
			commits(t, s, put("k"+strconv.Itoa(i), "1"))
		}
		before := s.Rows()
		l := filling(last * 49)
		after := append(slices.Clone(before[:0]), row("k", string(l[len(l)-1].Value)))
		after = append(after, before...)
		c := d.Copy()
		commits(t, s, l...)
		if last <= 2 {
			holds(t, "room", s, 2, 14+last, after...)
			has(t, "room", d, 0, head(2, 1, 1), head(1, 0, 1))
			continue
		}
		holds(t, "no room", s, 3, 3, after...)
		_, areas, _ := parts(64)
		sectors, pages := sheets(before...)
		has(t, "the heads", d, 0, head(2, 1, 1), head(3, 0, pages))
		has(t, "the pages are those ahead", d, areas[0], sectors...)
		has(t, "the frame is the first of its epoch", d, 2, frames(3, l)...)
		has(t, "the frames behind are as they were", d, 5, texts(c, 5, 13)...)
		holds(t, "opened", opened(t, "opened", d), 4, 0, after...)
		commits(t, s, put("x", "1"))
		has(t, "the second frame", d, 5, frames(3, l, []api.Change{put("x", "1")})[3:]...)
	}
}

// texts are sectors as strings.
func texts(d *dev.Dev, at, n int) []string {
	var l []string
	for i := range n {
		b, _ := d.Read(at + i)
		l = append(l, string(b))
	}
	return l
}

// What is written, and in which order: of a commit, one that lays all anew first, and a checkpoint.
func TestOrder(t *testing.T) {
	base := dev.New(64)
	craft(base, 1, 3, 0, wides(0, 3)...)
	from := laying(64, 4, 1, 4)
	small, large := []api.Change{put("a", "1")}, filling(14*49)
	for what, c := range map[string]struct {
		do   func(s *store.Store)
		want []int
	}{
		"a commit":       {func(s *store.Store) { s.Commit(small) }, count(2, 1)},
		"two":            {func(s *store.Store) { s.Commit(small); s.Commit(small) }, append(count(2, 1), count(3, 1)...)},
		"a large one":    {func(s *store.Store) { s.Commit(large) }, count(2, 14)},
		"one that fits":  {func(s *store.Store) { s.Commit(large); s.Commit(filling(2 * 49)) }, append(count(2, 14), count(16, 2)...)},
		"no room":        {func(s *store.Store) { s.Commit(large); s.Commit(filling(2*49 + 1)) }, slices.Concat(count(2, 14), laying(64, 5, 0, 4), count(2, 3))},
		"a checkpoint":   {func(s *store.Store) { s.Checkpoint() }, laying(64, 5, 0, 4)},
		"of more":        {func(s *store.Store) { s.Commit(large); s.Checkpoint() }, slices.Concat(count(2, 14), laying(64, 5, 0, 4))},
		"two of them":    {func(s *store.Store) { s.Checkpoint(); s.Checkpoint() }, append(laying(64, 5, 0, 4), laying(64, 6, 1, 4)...)},
		"rows, and more": {func(s *store.Store) { s.Rows(); s.Get("a"); s.Used(); s.Epoch() }, nil},
	} {
		got := trace(base, func(d *dev.Dev) {
			s, _ := store.Open(d)
			c.do(s)
		})
		if want := append(slices.Clone(from), c.want...); !slices.Equal(got, want) {
			t.Errorf("%s: %v, not %v", what, got, want)
		}
	}
}

func TestCheckpoint(t *testing.T) {
	d, s := fresh(t, 100)
	for i := range 10 {
		want := s.Rows()
		tells(t, "Checkpoint", s.Checkpoint(), api.OK)
		holds(t, "Checkpoint", s, 3+2*i, 0, want...)
		_, areas, _ := parts(100)
		sectors, pages := sheets(want...)
		has(t, "the head", d, 1, head(3+2*i, 0, pages))
		has(t, "the pages", d, areas[0], sectors...)
		tells(t, "Checkpoint", s.Checkpoint(), api.OK)
		holds(t, "Checkpoint", s, 4+2*i, 0, want...)
		has(t, "the heads", d, 0, head(4+2*i, 1, pages), head(3+2*i, 0, pages))
		has(t, "the pages", d, areas[1], sectors...)
		if len(d.Loose()) > 0 {
			t.Errorf("loose %v", d.Loose())
		}
		l := []api.Change{put(strconv.Itoa(i), strings.Repeat("v", 10*i))}
		commits(t, s, l...)
		has(t, "the frame", d, 2, frames(4+2*i, l)...)
	}
}

func TestLastEpoch(t *testing.T) {
	d := dev.New(64)
	craft(d, 1, api.MaxSeq-2, 0, row("a", "1"))
	s := opened(t, "the last but two", d)
	commits(t, s, put("b", "2"))
	tells(t, "Checkpoint", s.Checkpoint(), api.OK)
	commits(t, s, filling(14*49)...)
	was, want := d.Traffic(), s.Rows()
	holds(t, "the last", s, api.MaxSeq, 14, want...)
	for range 2 {
		tells(t, "Checkpoint", s.Checkpoint(), api.ErrOver)
	}
	rejects(t, "no room", d, s, api.ErrOver, filling(3*49)...)
	rejects(t, "no room at all", d, s, api.ErrFull, filling(16*49+1)...)
	rejects(t, "too many pages", d, s, api.ErrFull, puts(wides(0, 5)...)...)
	if d.Traffic() != was {
		t.Error("something was written")
	}
	commits(t, s, filling(2*49)...)
	commits(t, s)
	holds(t, "the last sectors", s, api.MaxSeq, 16, s.Rows()...)
	rejects(t, "no sector", d, s, api.ErrOver, put("a", "3"))
	refuses(t, "the last epoch", d, api.ErrOver)
}

// By a map, with an account of what is used: whatever is committed, rows are those behind it, opened anew or not.
func TestDraws(t *testing.T) {
	draw := rand.New(rand.NewSource(8))
	for _, n := range []int{64, 70, 100, 300} {
		d, s := fresh(t, n)
		m, epoch, used, made := map[string]string{}, 2, 0, 0
		for range 1200 {
			switch draw.Intn(12) {
			case 0:
				s = opened(t, "drawn", d)
				epoch, used = epoch+1, 0
			case 1:
				tells(t, "Checkpoint", s.Checkpoint(), api.OK)
				epoch, used = epoch+1, 0
			default:
				l, to := drawn(draw, m, n)
				k := len(frames(1, l))
				_, pages := sheets(rising(to)...)
				_, _, most := parts(n)
				if pages > most || k > n/4 {
					tells(t, "Commit", s.Commit(l), api.ErrFull)
					break
				}
				if used+k > n/4 {
					epoch, used = epoch+1, 0
				}
				commits(t, s, l...)
				used += k
				m = to
				made++
			}
			holds(t, "drawn", s, epoch, used, rising(m)...)
		}
		if made < 500 {
			t.Errorf("%d sectors: %d commits", n, made)
		}
	}
}

// drawn are changes, at least one, and what a map is behind them.
func drawn(draw *rand.Rand, m map[string]string, n int) ([]api.Change, map[string]string) {
	var l []api.Change
	to := maps.Clone(m)
	for range 1 + draw.Intn(6) {
		key := strings.Repeat(strconv.Itoa(draw.Intn(n/4)), 1+draw.Intn(2))
		if draw.Intn(2) == 0 {
			l = append(l, gone(key))
			delete(to, key)
			continue
		}
		value := strings.Repeat(strconv.Itoa(draw.Intn(10)), draw.Intn(151))
		l = append(l, put(key, value))
		to[key] = value
	}
	return l, to
}

// rising are a map's rows by rising keys.
func rising(m map[string]string) []api.Row {
	var l []api.Row
	for _, key := range slices.Sorted(maps.Keys(m)) {
		l = append(l, row(key, m[key]))
	}
	return l
}

// What is handed in is neither changed nor kept, nor read behind its length; what comes out is new.
func TestKeepsNothing(t *testing.T) {
	d, s := fresh(t, 64)
	value := []byte("12345678")
	l := []api.Change{{Key: "b", Value: value[:2]}, {Key: "a", Value: value[2:4]}, put("behind", "the length")}
	commits(t, s, l[:2]...)
	if l[0].Key != "b" || l[2].Key != "behind" || string(value) != "12345678" {
		t.Errorf("the changes are %v, %q", l, value)
	}
	want := []api.Row{row("a", "34"), row("b", "12")}
	clear(l)
	holds(t, "cleared", s, 2, 1, want...)
	for range 2 {
		rows := s.Rows()
		for i := range rows {
			_ = append(rows[i].Value, 'x')
			clear(rows[i].Value)
		}
		_ = append(rows, row("x", "y"))
		clear(rows)
		v, _ := s.Get("a")
		_ = append(v, 'x')
		clear(v)
		holds(t, "cleared", s, 2, 1, want...)
	}
	was := s.Rows()
	commits(t, s, gone("a"), put("b", "9"), put("c", "8"))
	if !same(was, want) {
		t.Errorf("what came out is another one behind a commit: %v", was)
	}
	holds(t, "opened", opened(t, "opened", d), 3, 0, row("b", "9"), row("c", "8"))
}

// Stores of two devices know nothing of one another.
func TestApart(t *testing.T) {
	d, s := fresh(t, 64)
	commits(t, s, put("a", "1"))
	c := d.Copy()
	r := opened(t, "a copy", c)
	commits(t, r, put("a", "2"), put("b", "2"))
	tells(t, "Checkpoint", r.Checkpoint(), api.OK)
	commits(t, s, put("c", "3"))
	holds(t, "one", s, 2, 2, row("a", "1"), row("c", "3"))
	holds(t, "the other", r, 4, 0, row("a", "2"), row("b", "2"))
	holds(t, "one, opened", opened(t, "one", d), 3, 0, row("a", "1"), row("c", "3"))
	holds(t, "the other, opened", opened(t, "the other", c), 5, 0, row("a", "2"), row("b", "2"))
}
