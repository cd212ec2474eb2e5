package dev_test

import (
	"slices"
	"testing"

	"roadstead/api"
	"roadstead/dev"
)

// plain is a device as the chapter tells it, word for word: all that is firm, and all that is loose.
type plain struct {
	firm  [][]byte
	at    []int
	data  [][]byte
	fuse  int // below 0: none
	wrote int
	made  int
}

func newPlain(n int) *plain {
	p := &plain{fuse: -1}
	for range n {
		p.firm = append(p.firm, make([]byte, api.Sector))
	}
	return p
}

func (p *plain) through() bool {
	if p.fuse > 0 {
		p.fuse--
		return true
	}
	return p.fuse < 0
}

func (p *plain) read(i int) ([]byte, api.Errno) {
	if i < 0 || i >= len(p.firm) {
		return nil, api.ErrRange
	}
	b := p.firm[i]
	for k, at := range p.at {
		if at == i {
			b = p.data[k]
		}
	}
	return b, api.OK
}

func (p *plain) write(i int, b []byte) api.Errno {
	switch {
	case i < 0 || i >= len(p.firm):
		return api.ErrRange
	case len(b) > api.Sector:
		return api.ErrLong
	case p.through():
		p.at = append(p.at, i)
		p.data = append(p.data, filled(b...))
		p.wrote++
	}
	return api.OK
}

func (p *plain) keep(marks []bool) {
	for k, at := range p.at {
		if k < len(marks) && marks[k] {
			p.firm[at] = slices.Clone(p.data[k])
		}
	}
	p.at, p.data = nil, nil
}

func (p *plain) flush() {
	if p.through() {
		p.keep(slices.Repeat([]bool{true}, len(p.at)))
		p.made++
	}
}

func (p *plain) crash(marks []bool) {
	p.keep(marks)
	p.fuse = -1
}

func (p *plain) cut(n int) {
	if p.fuse != 0 {
		p.fuse = max(n, -1)
	}
}

func (p *plain) spoil(i, at int, v byte) bool {
	if i < 0 || i >= len(p.firm) || at < 0 || at >= api.Sector {
		return false
	}
	p.firm[i][at] = v
	return true
}

func (p *plain) copied() *plain {
	c := *p
	c.at, c.data = slices.Clone(p.at), slices.Clone(p.data)
	c.firm = nil
	for _, b := range p.firm {
		c.firm = append(c.firm, slices.Clone(b))
	}
	return &c
}

// draws are numbers that follow no plain pattern, the same ones each time.
type draws uint32

func (x *draws) below(n int) int {
	*x = *x*1664525 + 1013904223
	return int(*x>>8) % n
}

// bytes are some that may be too many.
func (x *draws) bytes() []byte {
	b := make([]byte, x.below(68))
	for k := range b {
		b[k] = byte(x.below(256))
	}
	return b
}

// marks are some that may be too few.
func (x *draws) marks() []bool {
	l := make([]bool, x.below(12))
	for k := range l {
		l[k] = x.below(2) == 1
	}
	return l
}

// same holds a device against the plain one.
func same(t *testing.T, d *dev.Dev, p *plain) {
	t.Helper()
	if d.Len() != len(p.firm) || d.Traffic() != complex(float64(p.wrote), float64(p.made)) || !slices.Equal(d.Loose(), p.at) {
		t.Fatalf("%d, %v, %v, not %+v", d.Len(), d.Traffic(), d.Loose(), p)
	}
	for i := -1; i <= len(p.firm); i++ {
		b, e := d.Read(i)
		if want, f := p.read(i); e != f || !slices.Equal(b, want) {
			t.Fatalf("Read(%d): %x, %d, not %x, %d", i, b, e, want, f)
		}
	}
}

// step asks one thing of both.
func step(t *testing.T, x *draws, d *dev.Dev, p *plain) {
	t.Helper()
	i := x.below(len(p.firm)+2) - 1
	switch what := x.below(20); {
	case what < 11:
		b := x.bytes()
		if e, f := d.Write(i, b), p.write(i, b); e != f {
			t.Fatalf("Write(%d, %x): %d, not %d", i, b, e, f)
		}
	case what < 14:
		d.Flush()
		p.flush()
	case what < 16:
		l := x.marks()
		d.Crash(l...)
		p.crash(l)
	case what < 18:
		n := x.below(9) - 2
		d.Fuse(n)
		p.cut(n)
	default:
		at, v := x.below(66)-1, byte(x.below(256))
		if a, b := d.Spoil(i, at, v), p.spoil(i, at, v); a != b {
			t.Fatalf("Spoil(%d, %d): %v, not %v", i, at, a, b)
		}
	}
}

// Of many rows of calls each answer is that of the plain one; a device that was copied goes on by itself.
func TestAsPlainOne(t *testing.T) {
	x := draws(1)
	for n := range 200 {
		d, p := dev.New(n%7), newPlain(n%7)
		e, q := d.Copy(), p.copied()
		for range 150 {
			step(t, &x, d, p)
			same(t, d, p)
			step(t, &x, e, q)
			same(t, e, q)
			if x.below(20) == 0 {
				e, q = d.Copy(), p.copied()
				same(t, e, q)
			}
		}
	}
}

// What was flushed lasts: wherever the power is cut, and whatever a crash keeps, there is what was flushed last, or what was written behind it.
func TestFlushedLasts(t *testing.T) {
	for cut := range 13 {
		for choice := range 8 {
			d := dev.New(2)
			d.Fuse(cut)
			for v := range byte(4) {
				writes(t, d, 0, v+1)
				writes(t, d, 1, v+1)
				d.Flush()
			}
			d.Crash(choice&1 == 1, choice&2 == 2, choice&4 == 4)
			for i := range 2 {
				b, e := d.Read(i)
				firm := byte(cut / 3)
				if cut%3 > i && choice>>i&1 == 1 {
					firm++
				}
				if e != api.OK || !slices.Equal(b, filled(firm)) {
					t.Errorf("cut at %d, kept %03b: Read(%d): %x, %d, not %d", cut, choice, i, b, e, firm)
				}
			}
		}
	}
}

// Many writes that are loose at once take no longer to be read than few.
func TestManyLoose(t *testing.T) {
	d := dev.New(api.MaxDev)
	var marks []bool
	for k := range 50 * api.MaxDev {
		i := k * 5 % api.MaxDev
		if e := d.Write(i, []byte{byte(k), byte(k >> 8), byte(k >> 16)}); e != api.OK {
			t.Fatal(e)
		}
		b, _ := d.Read(i)
		if b[0] != byte(k) || b[1] != byte(k>>8) || b[2] != byte(k>>16) {
			t.Fatalf("Read(%d): %x behind write %d", i, b, k)
		}
		if d.Spoil(i, 3, 1); k%1000 == 0 && len(d.Loose()) != k+1 {
			t.Fatalf("%d are loose behind write %d", len(d.Loose()), k)
		}
		marks = append(marks, k < 2*api.MaxDev)
	}
	d.Crash(marks...)
	for k := range api.MaxDev {
		last := k + api.MaxDev
		reads(t, d, k*5%api.MaxDev, byte(last), byte(last>>8), byte(last>>16))
	}
}
