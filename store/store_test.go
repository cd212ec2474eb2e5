package store_test

import (
	"encoding/binary"
	"hash/crc32"
	"math"
	"slices"
	"strings"
	"testing"

	"roadstead/api"
	"roadstead/dev"
	"roadstead/store"
	"roadstead/tree"
)

// blank is a sector of noughts; empty are the sectors of a page without rows.
var (
	blank = strings.Repeat("\x00", 64)
	empty = []string{blank, blank, blank, strings.Repeat("\x00", 60) + sum(strings.Repeat("\x00", 252))}
)

// sum is a text's check.
func sum(s string) string {
	return string(binary.LittleEndian.AppendUint32(nil, crc32.ChecksumIEEE([]byte(s))))
}

// sealed are 60 bytes, filled up with noughts, and their check.
func sealed(s string) string {
	s += strings.Repeat("\x00", 60-len(s))
	return s + sum(s)
}

// head is a head, whether it may be or not.
func head(epoch, area, pages int) string {
	b := binary.BigEndian.AppendUint32([]byte("RS"), uint32(epoch))
	return sealed(string(append(b, byte(area), byte(pages>>8), byte(pages))))
}

// parts are where the journal, and both areas, begin, and how many pages an area has.
func parts(n int) (int, [2]int, int) {
	journal := n / 4
	pages := (n - 2 - journal) / 8
	return 2, [2]int{2 + journal, 2 + journal + 4*pages}, pages
}

// put gives a key a value; gone takes it away.
func put(key, value string) api.Change {
	return api.Change{Key: key, Value: []byte(value)}
}

func gone(key string) api.Change {
	return api.Change{Key: key, Gone: true}
}

// row is one of that key and value.
func row(key, value string) api.Row {
	return api.Row{Key: key, Value: []byte(value)}
}

// same says whether rows are of the same keys and values.
func same(a, b []api.Row) bool {
	return slices.EqualFunc(a, b, func(x, y api.Row) bool { return x.Key == y.Key && string(x.Value) == string(y.Value) })
}

// device is one of so many sectors, whose bytes are all v.
func device(n int, v byte) *dev.Dev {
	d := dev.New(n)
	for i := range n {
		d.Write(i, slices.Repeat([]byte{v}, 64))
	}
	d.Flush()
	return d
}

// inked writes sectors, from one on, and flushes.
func inked(d *dev.Dev, at int, sectors ...string) {
	for i, s := range sectors {
		if e := d.Write(at+i, []byte(s)); e != api.OK {
			panic(e)
		}
	}
	d.Flush()
}

// sheets are the sectors of the pages of rows, and how many pages these are.
func sheets(l ...api.Row) ([]string, int) {
	pages, ok := tree.Build(l)
	if !ok {
		panic("no pages")
	}
	var s []string
	for _, p := range pages {
		for c := range slices.Chunk(p, 64) {
			s = append(s, string(c))
		}
	}
	return s, len(pages)
}

// craft lays rows in an area, by hand, with a head in some sector.
func craft(d *dev.Dev, at, epoch, area int, l ...api.Row) {
	_, areas, _ := parts(d.Len())
	s, n := sheets(l...)
	inked(d, areas[area], s...)
	inked(d, at, head(epoch, area, n))
}

// has says what sectors have to be, from one on.
func has(t *testing.T, what string, d *dev.Dev, at int, want ...string) {
	t.Helper()
	for i, w := range want {
		if b, e := d.Read(at + i); e != api.OK || string(b) != w {
			t.Errorf("%s: the sector %d is %x, not %x", what, at+i, b, w)
		}
	}
}

// opened is the store of a device, which has to be one.
func opened(t *testing.T, what string, d *dev.Dev) *store.Store {
	t.Helper()
	s, e := store.Open(d)
	if e != api.OK || s == nil {
		t.Fatalf("%s: Open: %d", what, e)
	}
	return s
}

// fresh is a new device of so many sectors, formatted, and its store.
func fresh(t *testing.T, n int) (*dev.Dev, *store.Store) {
	t.Helper()
	d := dev.New(n)
	if e := store.Format(d); e != api.OK {
		t.Fatalf("Format of %d: %d", n, e)
	}
	return d, opened(t, "fresh", d)
}

// holds says what a store has to be.
func holds(t *testing.T, what string, s *store.Store, epoch, used int, want ...api.Row) {
	t.Helper()
	if l := s.Rows(); !same(l, want) {
		t.Errorf("%s: Rows: %d, %v, not %d, %v", what, len(l), l, len(want), want)
	}
	for _, r := range want {
		if v, ok := s.Get(r.Key); !ok || string(v) != string(r.Value) {
			t.Errorf("%s: Get(%q): %q, %v", what, r.Key, v, ok)
		}
	}
	if s.Epoch() != epoch || s.Used() != used {
		t.Errorf("%s: epoch %d, used %d, not %d, %d", what, s.Epoch(), s.Used(), epoch, used)
	}
}

// tells says what has to be answered.
func tells(t *testing.T, what string, got, want api.Errno) {
	t.Helper()
	if got != want {
		t.Errorf("%s: %d, not %d", what, got, want)
	}
}

// flush stands for a flush in a trace.
const flush = -1

// trace are the sectors that are written, and the flushes between, when something is done on copies of a device: each has a fuse that lets one more through.
func trace(d *dev.Dev, do func(*dev.Dev)) []int {
	var l []int
	for n := 1; ; n++ {
		c := d.Copy()
		c.Fuse(n)
		was := c.Traffic()
		do(c)
		now := c.Traffic() - was
		if int(real(now)+imag(now)) < n {
			return l
		}
		if loose := c.Loose(); len(loose) > 0 {
			l = append(l, loose[len(loose)-1])
		} else {
			l = append(l, flush)
		}
	}
}

// count are numbers from one on, and a flush behind them.
func count(from, n int) []int {
	var l []int
	for i := range n {
		l = append(l, from+i)
	}
	return append(l, flush)
}

// laying are the sectors that a laying writes.
func laying(n, epoch, area, pages int) []int {
	_, areas, _ := parts(n)
	return append(count(areas[area], 4*pages), epoch%2, flush)
}

// sizes are those of devices.
func sizes() []int {
	return []int{64, 65, 66, 67, 74, 75, 100, 255, 256, 802, 1000, 4095, 4096}
}

func TestLayout(t *testing.T) {
	for n, want := range map[int][2]int{
		64: {16, 5}, 65: {16, 5}, 66: {16, 6}, 67: {16, 6}, 68: {17, 6}, 74: {18, 6}, 75: {18, 6}, 76: {19, 6}, 78: {19, 7},
		100: {25, 9}, 128: {32, 11}, 256: {64, 23}, 4095: {1023, 383}, 4096: {1024, 383}, 4097: {1024, 383}, 1 << 20: {1 << 18, 98303},
		math.MaxInt: {1<<61 - 1, 3<<58 - 1},
	} {
		if j, a := store.Layout(n); j != want[0] || a != want[1] {
			t.Errorf("Layout(%d): %d, %d, not %d", n, j, a, want)
		}
	}
	for _, n := range []int{63, 62, 10, 2, 1, 0, -1, -64, math.MinInt} {
		if j, a := store.Layout(n); j != 0 || a != 0 {
			t.Errorf("Layout(%d): %d, %d", n, j, a)
		}
	}
	for n := 64; n <= 4096; n++ {
		j, a := store.Layout(n)
		if left := n - 2 - j; j*4 > n || j*4+3 < n || a*8 > left || a*8+7 < left || a < 1 {
			t.Errorf("Layout(%d): %d, %d", n, j, a)
		}
	}
}

func TestFormat(t *testing.T) {
	for _, n := range sizes() {
		for _, v := range []byte{0, 0xff} {
			d := device(n, v)
			was := d.Traffic()
			inJournal, areas, _ := parts(n)
			tells(t, "Format", store.Format(d), api.OK)
			traffic := d.Traffic() - was
			if len(d.Loose()) > 0 || traffic != complex(float64(areas[0]+5), 3) {
				t.Errorf("Format of %d: traffic %v, loose %v", n, traffic, d.Loose())
			}
			d.Crash()
			has(t, "the heads", d, 0, blank, head(1, 0, 1))
			has(t, "the journal", d, inJournal, slices.Repeat([]string{blank}, n/4)...)
			has(t, "the page", d, areas[0], empty...)
			has(t, "the rest", d, areas[0]+4, slices.Repeat([]string{strings.Repeat(string([]byte{v}), 64)}, n-areas[0]-4)...)
		}
	}
	// A head as bytes, and its check as a number.
	d := dev.New(64)
	store.Format(d)
	if b, _ := d.Read(1); string(b[:10]) != "RS\x00\x00\x00\x01\x00\x00\x01\x00" || string(b[60:]) != string(sum(string(b[:60]))) {
		t.Errorf("Format: the head is %x", b)
	}
}

func TestFormatOrder(t *testing.T) {
	for _, n := range []int{64, 100} {
		_, areas, _ := parts(n)
		want := append(count(0, areas[0]), laying(n, 1, 0, 1)...)
		if l := trace(device(n, 7), func(d *dev.Dev) { store.Format(d) }); !slices.Equal(l, want) {
			t.Errorf("Format of %d writes %v, not %v", n, l, want)
		}
	}
}

// On a device that is too small nothing is done.
func TestTooSmall(t *testing.T) {
	for _, n := range []int{0, 1, 2, 3, 62, 63} {
		d := device(n, 1)
		if n > 1 {
			inked(d, 0, head(1, 0, 1), head(2, 0, 1))
		}
		was := d.Traffic()
		tells(t, "Format", store.Format(d), api.ErrRange)
		s, e := store.Open(d)
		if s != nil || e != api.ErrRange || d.Traffic() != was {
			t.Errorf("%d sectors: Open: %v, %d", n, s, e)
		}
	}
	tells(t, "Format of nil", store.Format(nil), api.ErrRange)
	if s, e := store.Open(nil); s != nil || e != api.ErrRange {
		t.Errorf("Open of nil: %v, %d", s, e)
	}
}

// What was there is no more, whatever it was.
func TestFormatAgain(t *testing.T) {
	d, s := fresh(t, 64)
	for i := range 20 {
		tells(t, "Commit", s.Commit([]api.Change{put(string([]byte{byte(i)}), "1")}), api.OK)
	}
	tells(t, "Format", store.Format(d), api.OK)
	s = opened(t, "again", d)
	holds(t, "again", s, 2, 0)
	tells(t, "Commit", s.Commit([]api.Change{put("a", "1")}), api.OK)
	tells(t, "Format", store.Format(d), api.OK)
	holds(t, "and again", opened(t, "and again", d), 2, 0)
}

func TestNil(t *testing.T) {
	var s *store.Store
	for _, l := range [][]api.Change{nil, {}, {put("a", "1")}, {put(strings.Repeat("k", 31), "")}} {
		tells(t, "Commit", s.Commit(l), api.ErrNone)
	}
	tells(t, "Checkpoint", s.Checkpoint(), api.ErrNone)
	if v, ok := s.Get("a"); len(v) != 0 || ok || len(s.Rows()) != 0 || s.Used() != 0 || s.Epoch() != 0 {
		t.Errorf("nil: %q, %v, %v, %d, %d", v, ok, s.Rows(), s.Used(), s.Epoch())
	}
}
