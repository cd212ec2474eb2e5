package dev_test

import (
	"math"
	"slices"
	"testing"

	"roadstead/api"
	"roadstead/dev"
)

// filled is what a sector has that was written with b: it, and noughts behind it.
func filled(b ...byte) []byte {
	return append(slices.Clone(b), make([]byte, api.Sector-len(b))...)
}

// reads says what a sector has to have.
func reads(t *testing.T, d *dev.Dev, i int, want ...byte) {
	t.Helper()
	if b, e := d.Read(i); e != api.OK || !slices.Equal(b, filled(want...)) {
		t.Errorf("Read(%d): %x, %d, not %x", i, b, e, want)
	}
}

// loose says of which sectors there have to be loose writes.
func loose(t *testing.T, d *dev.Dev, want ...int) {
	t.Helper()
	if l := d.Loose(); !slices.Equal(l, want) {
		t.Errorf("Loose: %v, not %v", l, want)
	}
}

// traffic says what the traffic has to be.
func traffic(t *testing.T, d *dev.Dev, want complex128) {
	t.Helper()
	if c := d.Traffic(); c != want {
		t.Errorf("Traffic: %v, not %v", c, want)
	}
}

// writes writes a byte to a sector, which has to tell OK.
func writes(t *testing.T, d *dev.Dev, i int, v byte) {
	t.Helper()
	if e := d.Write(i, []byte{v}); e != api.OK {
		t.Errorf("Write(%d, %d): %d", i, v, e)
	}
}

func TestNew(t *testing.T) {
	for _, n := range []int{-1, -4096, math.MinInt, 4097, 1 << 32, math.MaxInt} {
		if dev.New(n) != nil {
			t.Errorf("New(%d) is one", n)
		}
	}
	for _, n := range []int{0, 1, 2, 64, 4095, 4096} {
		d := dev.New(n)
		if d == nil {
			t.Fatalf("New(%d) is none", n)
		}
		if d.Len() != n {
			t.Errorf("New(%d): Len %d", n, d.Len())
		}
		for i := range n {
			reads(t, d, i)
		}
		loose(t, d)
		traffic(t, d, 0)
		d.Crash(true)
		for i := range n {
			reads(t, d, i)
		}
	}
}

// places are some that are no sector of n.
func places(n int) []int {
	return []int{-1, -2, math.MinInt, n, n + 1, 1 << 32, math.MaxInt}
}

func TestRead(t *testing.T) {
	for _, n := range []int{0, 1, 5, 4096} {
		d := dev.New(n)
		for _, i := range places(n) {
			if b, e := d.Read(i); len(b) != 0 || e != api.ErrRange {
				t.Errorf("%d sectors: Read(%d): %x, %d", n, i, b, e)
			}
		}
	}
	d := dev.New(4096)
	writes(t, d, 0, 1)
	writes(t, d, 4095, 2)
	reads(t, d, 0, 1)
	reads(t, d, 1)
	reads(t, d, 4095, 2)
	writes(t, d, 0, 3)
	writes(t, d, 1, 4)
	reads(t, d, 0, 3)
	reads(t, d, 1, 4)
}

func TestWrite(t *testing.T) {
	long := make([]byte, 100)
	for i := range long {
		long[i] = byte(i + 1)
	}
	d := dev.New(3)
	for _, n := range []int{64, 63, 33, 1, 0, 64} {
		if e := d.Write(1, long[:n]); e != api.OK {
			t.Errorf("Write of %d bytes: %d", n, e)
		}
		reads(t, d, 0)
		reads(t, d, 1, long[:n]...)
		reads(t, d, 2)
	}
	traffic(t, d, 6)
	loose(t, d, 1, 1, 1, 1, 1, 1)
	for _, n := range []int{65, 100} {
		if e := d.Write(1, long[:n]); e != api.ErrLong {
			t.Errorf("Write of %d bytes: %d", n, e)
		}
	}
	for _, i := range places(3) {
		for _, n := range []int{0, 1, 64, 65} {
			if e := d.Write(i, long[:n]); e != api.ErrRange {
				t.Errorf("Write(%d) of %d bytes: %d", i, n, e)
			}
		}
	}
	if e := dev.New(0).Write(0, nil); e != api.ErrRange {
		t.Errorf("Write to no sectors: %d", e)
	}
	reads(t, d, 1, long[:64]...)
	traffic(t, d, 6)
	loose(t, d, 1, 1, 1, 1, 1, 1)
	if e := d.Write(1, nil); e != api.OK {
		t.Errorf("Write of nil: %d", e)
	}
	reads(t, d, 1)
	loose(t, d, 1, 1, 1, 1, 1, 1, 1)
}

func TestFlush(t *testing.T) {
	d := dev.New(4)
	writes(t, d, 0, 1)
	writes(t, d, 3, 2)
	writes(t, d, 0, 3)
	loose(t, d, 0, 3, 0)
	d.Flush()
	loose(t, d)
	traffic(t, d, 3+1i)
	for range 2 {
		reads(t, d, 0, 3)
		reads(t, d, 1)
		reads(t, d, 3, 2)
		d.Crash()
	}
	d.Flush()
	traffic(t, d, 3+2i)
	writes(t, d, 0, 4)
	writes(t, d, 1, 5)
	loose(t, d, 0, 1)
	d.Crash()
	loose(t, d)
	reads(t, d, 0, 3)
	reads(t, d, 1)
	reads(t, d, 3, 2)
	traffic(t, d, 5+2i)
}

// Of four writes, three of them to one sector, each choice is kept, told by as many marks as it needs, by all, and by more.
func TestCrash(t *testing.T) {
	at := []int{1, 0, 1, 1}
	for choice := range 16 {
		for marks := range 7 {
			var keep []bool
			for k := range marks {
				keep = append(keep, k >= len(at) || choice>>k&1 == 1)
			}
			d := dev.New(2)
			writes(t, d, 0, 8)
			writes(t, d, 1, 9)
			d.Flush()
			want := []byte{8, 9}
			for k, i := range at {
				writes(t, d, i, byte(k+1))
				if k < marks && keep[k] {
					want[i] = byte(k + 1)
				}
			}
			loose(t, d, at...)
			d.Crash(keep...)
			loose(t, d)
			for range 2 {
				reads(t, d, 0, want[0])
				reads(t, d, 1, want[1])
				d.Crash(true, true, true, true)
			}
			traffic(t, d, 6+1i)
		}
	}
}

func TestFuse(t *testing.T) {
	for n := range 6 {
		d := dev.New(6)
		writes(t, d, 5, 9)
		d.Flush()
		d.Fuse(n)
		was := []int{}
		for i := range 5 {
			if e := d.Write(6, nil); e != api.ErrRange {
				t.Errorf("fuse of %d: Write(6): %d", n, e)
			}
			if e := d.Write(i, make([]byte, 65)); e != api.ErrLong {
				t.Errorf("fuse of %d: Write of 65 bytes: %d", n, e)
			}
			writes(t, d, i, byte(i+1))
			if i < n {
				was = append(was, i)
				reads(t, d, i, byte(i+1))
			} else {
				reads(t, d, i)
			}
		}
		d.Flush()
		loose(t, d, was...)
		traffic(t, d, complex(float64(1+n), 1))
		d.Crash(slices.Repeat([]bool{true}, 5)...)
		for i := range 5 {
			if i < n {
				reads(t, d, i, byte(i+1))
			} else {
				reads(t, d, i)
			}
		}
		reads(t, d, 5, 9)
	}
}

// A fuse that has burnt through lets nothing through, whatever fuse comes, till a crash.
func TestFuseBurnt(t *testing.T) {
	for _, n := range []int{math.MinInt, -1, 0, 1, 2, math.MaxInt} {
		d := dev.New(2)
		d.Fuse(1)
		writes(t, d, 0, 1)
		d.Fuse(n)
		writes(t, d, 0, 2)
		writes(t, d, 1, 2)
		d.Flush()
		d.Fuse(n)
		d.Flush()
		loose(t, d, 0)
		reads(t, d, 0, 1)
		reads(t, d, 1)
		traffic(t, d, 1)
		c := d.Copy()
		d.Crash()
		reads(t, d, 0)
		c.Crash(true)
		reads(t, c, 0, 1)
		for _, d := range []*dev.Dev{d, c} {
			for range 3 {
				writes(t, d, 1, 3)
				d.Flush()
			}
			loose(t, d)
			reads(t, d, 1, 3)
			traffic(t, d, 4+3i)
		}
	}
}

// One that comes while another lets something through still takes its place, or takes it away.
func TestFuseAnew(t *testing.T) {
	d := dev.New(1)
	d.Fuse(2)
	writes(t, d, 0, 1)
	d.Fuse(3)
	d.Flush()
	d.Flush()
	writes(t, d, 0, 2)
	writes(t, d, 0, 3)
	reads(t, d, 0, 2)
	loose(t, d, 0)
	traffic(t, d, 2+2i)
	d.Crash()
	reads(t, d, 0, 1)
	d.Fuse(1)
	d.Fuse(-1)
	for range 5 {
		writes(t, d, 0, 4)
	}
	d.Flush()
	reads(t, d, 0, 4)
	traffic(t, d, 7+3i)
	d.Fuse(5)
	d.Fuse(0)
	writes(t, d, 0, 5)
	d.Flush()
	reads(t, d, 0, 4)
	traffic(t, d, 7+3i)
	d.Crash()
	d.Fuse(1)
	d.Crash()
	writes(t, d, 0, 6)
	d.Flush()
	reads(t, d, 0, 6)
	traffic(t, d, 8+4i)
	d.Fuse(math.MaxInt)
	writes(t, d, 0, 7)
	d.Flush()
	d.Crash()
	reads(t, d, 0, 7)
}

// A flush that does not come through leaves loose what is.
func TestFuseOfFlush(t *testing.T) {
	d := dev.New(2)
	d.Fuse(2)
	writes(t, d, 0, 1)
	writes(t, d, 1, 2)
	d.Flush()
	loose(t, d, 0, 1)
	traffic(t, d, 2)
	d.Crash(false, true)
	reads(t, d, 0)
	reads(t, d, 1, 2)
	d.Fuse(2)
	writes(t, d, 0, 3)
	d.Flush()
	writes(t, d, 1, 4)
	d.Flush()
	loose(t, d)
	traffic(t, d, 3+1i)
	d.Crash(true, true)
	reads(t, d, 0, 3)
	reads(t, d, 1, 2)
}

func TestSpoil(t *testing.T) {
	d := dev.New(2)
	for _, i := range places(2) {
		if d.Spoil(i, 0, 1) {
			t.Errorf("Spoil(%d, 0)", i)
		}
	}
	for _, at := range []int{-1, math.MinInt, 64, 65, math.MaxInt} {
		if d.Spoil(0, at, 1) || d.Spoil(2, at, 1) {
			t.Errorf("Spoil(0, %d)", at)
		}
	}
	if dev.New(0).Spoil(0, 0, 1) {
		t.Error("Spoil of no sectors")
	}
	reads(t, d, 0)
	reads(t, d, 1)
	want := make([]byte, 64)
	for at := range want {
		want[at] = byte(at + 100)
		if !d.Spoil(1, at, want[at]) {
			t.Errorf("not Spoil(1, %d)", at)
		}
		reads(t, d, 0)
		reads(t, d, 1, want...)
	}
	d.Crash()
	reads(t, d, 1, want...)
	loose(t, d)
	traffic(t, d, 0)
}

// What is loose hides what is firm, till it is lost, or has taken its place.
func TestSpoilBelowLoose(t *testing.T) {
	d := dev.New(1)
	writes(t, d, 0, 1)
	if !d.Spoil(0, 0, 2) || !d.Spoil(0, 1, 3) {
		t.Error("not Spoil(0, 0), or (0, 1)")
	}
	reads(t, d, 0, 1)
	c := d.Copy()
	d.Crash()
	reads(t, d, 0, 2, 3)
	c.Flush()
	reads(t, c, 0, 1)
	c.Fuse(0)
	if !c.Spoil(0, 63, 4) {
		t.Error("not Spoil(0, 63), with the power cut")
	}
	if b, _ := c.Read(0); b[63] != 4 {
		t.Errorf("Read: %x", b)
	}
}

func TestTraffic(t *testing.T) {
	d := dev.New(1)
	for n := range 100 {
		traffic(t, d, complex(float64(3*n), float64(2*n)))
		for range 3 {
			writes(t, d, 0, 1)
		}
		d.Flush()
		d.Flush()
		d.Crash(true)
		d.Write(1, nil)
		d.Write(0, make([]byte, 65))
		d.Read(0)
		d.Spoil(0, 0, 1)
	}
}

func TestCopy(t *testing.T) {
	d := dev.New(3)
	writes(t, d, 0, 1)
	d.Flush()
	writes(t, d, 1, 2)
	writes(t, d, 0, 3)
	d.Fuse(2)
	c := d.Copy()
	for _, x := range []*dev.Dev{d, c, c.Copy()} {
		if x.Len() != 3 {
			t.Errorf("Len: %d", x.Len())
		}
		loose(t, x, 1, 0)
		traffic(t, x, 3+1i)
		reads(t, x, 0, 3)
		reads(t, x, 1, 2)
		reads(t, x, 2)
		writes(t, x, 2, 4)
		writes(t, x, 1, 5)
		writes(t, x, 2, 6)
		loose(t, x, 1, 0, 2, 1)
		traffic(t, x, 5+1i)
		reads(t, x, 2, 4)
		x.Crash(true, false, true, false)
		reads(t, x, 0, 1)
		reads(t, x, 1, 2)
		reads(t, x, 2, 4)
		x.Spoil(0, 0, 7)
	}
}

// Of a device and its copy neither sees what becomes of the other one.
func TestCopyApart(t *testing.T) {
	for _, swap := range []bool{false, true} {
		a := dev.New(2)
		writes(t, a, 0, 1)
		a.Flush()
		for _, v := range []byte{2, 3, 4, 5, 6} {
			writes(t, a, 0, v)
		}
		b := a.Copy()
		if swap {
			a, b = b, a
		}
		writes(t, a, 1, 7)
		writes(t, b, 1, 8)
		reads(t, a, 1, 7)
		reads(t, b, 1, 8)
		a.Spoil(0, 0, 9)
		a.Fuse(0)
		a.Flush()
		loose(t, a, 0, 0, 0, 0, 0, 1)
		b.Flush()
		loose(t, b)
		loose(t, a, 0, 0, 0, 0, 0, 1)
		a.Crash(false, true)
		reads(t, a, 0, 3)
		reads(t, a, 1)
		reads(t, b, 0, 6)
		reads(t, b, 1, 8)
		traffic(t, a, 7+1i)
		traffic(t, b, 7+2i)
	}
}

func TestNil(t *testing.T) {
	var d *dev.Dev
	for _, i := range []int{-1, 0, 1} {
		if b, e := d.Read(i); len(b) != 0 || e != api.ErrRange {
			t.Errorf("Read(%d): %x, %d", i, b, e)
		}
		for _, n := range []int{0, 1, 65} {
			if e := d.Write(i, make([]byte, n)); e != api.ErrRange {
				t.Errorf("Write(%d) of %d bytes: %d", i, n, e)
			}
		}
		if d.Spoil(i, 0, 1) {
			t.Errorf("Spoil(%d)", i)
		}
		d.Fuse(i)
	}
	d.Flush()
	d.Crash()
	d.Crash(true)
	if d.Len() != 0 || len(d.Loose()) != 0 || d.Traffic() != 0 || d.Copy() != nil {
		t.Errorf("%d, %v, %v, %v", d.Len(), d.Loose(), d.Traffic(), d.Copy())
	}
}

// What is handed in is neither changed nor kept; what comes out is new.
func TestKeepsNothing(t *testing.T) {
	room := []byte("0123456789")
	keep := []bool{true, false, true, true}
	d := dev.New(2)
	d.Write(0, room[:3])
	d.Write(1, room[:2])
	if string(room) != "0123456789" {
		t.Errorf("what was written is %q", room)
	}
	clear(room)
	reads(t, d, 0, []byte("012")...)
	for range 2 {
		b, _ := d.Read(0)
		clear(b[:cap(b)])
		l := d.Loose()
		l = l[:cap(l)]
		for k := range l {
			l[k] = 9
		}
		reads(t, d, 0, []byte("012")...)
	}
	loose(t, d, 0, 1)
	d.Crash(keep[:2]...)
	if !slices.Equal(keep, []bool{true, false, true, true}) {
		t.Errorf("the marks are %v", keep)
	}
	a, _ := d.Read(0)
	b, _ := d.Read(0)
	clear(a[:cap(a)])
	if !slices.Equal(b, filled([]byte("012")...)) {
		t.Errorf("two that were read share memory: %q", b)
	}
	writes(t, d, 0, 1)
	if !slices.Equal(b, filled([]byte("012")...)) {
		t.Errorf("what was read is another one behind a write: %q", b)
	}
	reads(t, d, 0, 1)
	d.Flush()
	a, _ = d.Read(0)
	d.Spoil(0, 0, 2)
	if !slices.Equal(a, filled(1)) {
		t.Errorf("what was read is another one behind a spoil: %q", a)
	}
}

// Marks behind those that are handed in count for nothing.
func TestMarksWithinLength(t *testing.T) {
	keep := []bool{false, true, true}
	d := dev.New(3)
	for i := range 3 {
		writes(t, d, i, 1)
	}
	d.Crash(keep[:1]...)
	for i := range 3 {
		reads(t, d, i)
	}
}
