package crc_test

import (
	"slices"
	"testing"

	"roadstead/crc"
)

func TestSeal(t *testing.T) {
	for _, c := range []struct{ s, want string }{
		{"", "\x00\x00\x00\x00"},
		{"a", "a\x43\xbe\xb7\xe8"},
		{"123456789", "123456789\x26\x39\xf4\xcb"},
		{"\x00\x00\x00\x00", "\x00\x00\x00\x00\x1c\xdf\x44\x21"},
		{"\xff\xff\xff\xff", "\xff\xff\xff\xff\xff\xff\xff\xff"},
	} {
		if got := string(crc.Seal([]byte(c.s))); got != c.want {
			t.Errorf("Seal(%q): %x, not %x", c.s, got, c.want)
		}
	}
	if got := string(crc.Seal(nil)); got != "\x00\x00\x00\x00" {
		t.Errorf("Seal(nil): %x", got)
	}
}

func TestRight(t *testing.T) {
	for _, c := range []struct {
		what, s string
		want    bool
	}{
		{"nothing", "", false},
		{"one byte", "\x00", false},
		{"two bytes", "\x00\x00", false},
		{"three bytes", "\x00\x00\x00", false},
		{"the check of nothing", "\x00\x00\x00\x00", true},
		{"four other bytes", "\x00\x00\x00\x01", false},
		{"four bytes above", "\xff\xff\xff\xff", false},
		{"five noughts", "\x00\x00\x00\x00\x00", false},
		{"a letter", "a\x43\xbe\xb7\xe8", true},
		{"the greatest first", "a\xe8\xb7\xbe\x43", false},
		{"another letter", "b\x43\xbe\xb7\xe8", false},
		{"no letter", "\x43\xbe\xb7\xe8", false},
		{"a byte cut off", "a\x43\xbe\xb7", false},
		{"a byte behind", "a\x43\xbe\xb7\xe8\x00", false},
		{"a byte ahead", "\x00a\x43\xbe\xb7\xe8", false},
		{"the check of nothing behind a letter", "a\x00\x00\x00\x00", false},
		{"nine digits", "123456789\x26\x39\xf4\xcb", true},
		{"two of them in another order", "213456789\x26\x39\xf4\xcb", false},
	} {
		if got := crc.Right([]byte(c.s)); got != c.want {
			t.Errorf("%s: Right(%q): %v", c.what, c.s, got)
		}
	}
	if crc.Right(nil) {
		t.Error("Right(nil)")
	}
}

// What lies behind the length is no part of the check.
func TestRightWithinLength(t *testing.T) {
	b := crc.Seal([]byte("a"))
	for n := range b {
		if crc.Right(b[:n]) {
			t.Errorf("%d bytes of %x are right", n, b)
		}
	}
}

// Whatever is sealed is right, and that again, too.
func TestSealedIsRight(t *testing.T) {
	for n := range 300 {
		b := some(n)
		s := crc.Seal(b)
		if len(s) != n+4 || string(s[:n]) != string(b) || !crc.Right(s) || !crc.Right(crc.Seal(s)) {
			t.Fatalf("Seal of %d bytes: %x", n, s)
		}
	}
}

// patterns are ways to turn bits over, within 32 in a row, the first of them always: each other one alone with it, all up to a place, and many more.
func patterns() []uint32 {
	l := []uint32{1}
	for i := 1; i < 32; i++ {
		l = append(l, 1|1<<i, 1<<i|(1<<i-1))
	}
	l = append(l, 0xffffffff, 0xedb88321, 0x04c11db7, 0x82608edb)
	x := uint32(1)
	for range 200 {
		x = x*1664525 + 1013904223
		l = append(l, 1|x>>1|x<<31)
	}
	return l
}

// turned are bytes with those bits, from the bit at on, turned over; false, if there are not so many. The lowest bit of a byte is its first.
func turned(b []byte, at int, bits uint32) ([]byte, bool) {
	b = slices.Clone(b)
	for i := range 32 {
		if bits>>i&1 == 0 {
			continue
		}
		if (at+i)/8 >= len(b) {
			return nil, false
		}
		b[(at+i)/8] ^= 1 << ((at + i) % 8)
	}
	return b, true
}

// With any bits within 32 in a row others, nothing is right any more.
func TestSpoiltIsSeen(t *testing.T) {
	l := patterns()
	for _, n := range []int{0, 1, 3, 4, 5, 60, 252} {
		s := crc.Seal(some(n))
		seen := 0
		for at := range len(s) * 8 {
			for _, bits := range l {
				b, ok := turned(s, at, bits)
				if !ok {
					continue
				}
				seen++
				if crc.Right(b) {
					t.Fatalf("%d bytes, bits %x from %d on: right", n, bits, at)
				}
			}
		}
		if seen < len(s)*8 {
			t.Errorf("%d bytes: only %d were tried", n, seen)
		}
	}
}

// Any byte that is another one is seen.
func TestSpoiltByteIsSeen(t *testing.T) {
	s := crc.Seal(some(40))
	for i := range s {
		for v := 1; v < 256; v++ {
			b := slices.Clone(s)
			b[i] ^= byte(v)
			if crc.Right(b) {
				t.Fatalf("byte %d, xor %x: right", i, v)
			}
		}
	}
}
