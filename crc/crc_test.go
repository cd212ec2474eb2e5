package crc_test

import (
	"hash/crc32"
	"strings"
	"testing"

	"roadstead/crc"
)

// slow is More as the chapter words it, bit by bit.
func slow(n uint32, b []byte) uint32 {
	n ^= 0xffffffff
	for _, c := range b {
		n ^= uint32(c)
		for range 8 {
			odd := n%2 == 1
			n /= 2
			if odd {
				n ^= 0xedb88320
			}
		}
	}
	return n ^ 0xffffffff
}

// some are so many bytes that follow no plain pattern, the same ones each time.
func some(n int) []byte {
	b := make([]byte, n)
	x := uint32(n + 1)
	for i := range b {
		x = x*1664525 + 1013904223
		b[i] = byte(x >> 24)
	}
	return b
}

func TestSum(t *testing.T) {
	for _, c := range []struct {
		s    string
		want uint32
	}{
		{"", 0},
		{"a", 0xe8b7be43},
		{"abc", 0x352441c2},
		{"123456789", 0xcbf43926},
		{"The quick brown fox jumps over the lazy dog", 0x414fa339},
		{"\x00", 0xd202ef8d},
		{"\x00\x00\x00\x00", 0x2144df1c},
		{"\xff\xff\xff\xff", 0xffffffff},
		{strings.Repeat("\x00", 32), 0x190a55ad},
		{strings.Repeat("\xff", 32), 0xff6cab0b},
	} {
		if got := crc.Sum([]byte(c.s)); got != c.want {
			t.Errorf("Sum(%q): %x, not %x", c.s, got, c.want)
		}
	}
	if got := crc.Sum(nil); got != 0 {
		t.Errorf("Sum(nil): %x", got)
	}
}

// Each byte, ahead of each other one, and bytes of many lengths, have the check that is published.
func TestSumOfMany(t *testing.T) {
	for v := range 256 {
		for w := range 256 {
			if b := []byte{byte(v), byte(w)}; crc.Sum(b) != crc32.ChecksumIEEE(b) || crc.Sum(b[:1]) != crc32.ChecksumIEEE(b[:1]) {
				t.Fatalf("Sum(%x): %x", b, crc.Sum(b))
			}
		}
	}
	for n := range 600 {
		if b := some(n); crc.Sum(b) != crc32.ChecksumIEEE(b) {
			t.Fatalf("Sum of %d bytes: %x, not %x", n, crc.Sum(b), crc32.ChecksumIEEE(b))
		}
	}
	if b := some(1 << 20); crc.Sum(b) != crc32.ChecksumIEEE(b) {
		t.Errorf("Sum of 2^20 bytes: %x", crc.Sum(b))
	}
}

// More goes on from any number; of no bytes it is that number.
func TestMore(t *testing.T) {
	for _, n := range []uint32{0, 1, 2, 0x80, 0xff, 0x100, 0x7fffffff, 0x80000000, 0xcbf43926, 0xedb88320, 0xfffffffe, 0xffffffff} {
		if a, b := crc.More(n, nil), crc.More(n, []byte{}); a != n || b != n {
			t.Errorf("More(%x) of nothing: %x, %x", n, a, b)
		}
		for v := range 256 {
			if b := []byte{byte(v)}; crc.More(n, b) != slow(n, b) {
				t.Fatalf("More(%x, %x): %x, not %x", n, b, crc.More(n, b), slow(n, b))
			}
		}
		for k := range 70 {
			if b := some(k); crc.More(n, b) != slow(n, b) {
				t.Fatalf("More(%x, %x): %x, not %x", n, b, crc.More(n, b), slow(n, b))
			}
		}
	}
}

// Wherever bytes are cut, More of the check of the one part and the other part is the check of all.
func TestMoreOfParts(t *testing.T) {
	all := some(70)
	want := crc.Sum(all)
	for i := range len(all) + 1 {
		for j := i; j <= len(all); j++ {
			if got := crc.More(crc.More(crc.Sum(all[:i]), all[i:j]), all[j:]); got != want {
				t.Fatalf("cut at %d and %d: %x, not %x", i, j, got, want)
			}
		}
	}
	n := uint32(0)
	for i := range all {
		n = crc.More(n, all[i:i+1])
	}
	if n != want {
		t.Errorf("byte by byte: %x, not %x", n, want)
	}
}

// What is handed in is neither changed nor kept, nor is what lies behind its length.
func TestKeepsNothing(t *testing.T) {
	room := []byte("abcdefgh")
	sealed, again := crc.Seal(room[:1]), crc.Seal(room[:1])
	sum, more, right := crc.Sum(room[:1]), crc.More(7, room[:1]), crc.Right(room[:5])
	if string(room) != "abcdefgh" {
		t.Errorf("what was handed in is %q", room)
	}
	if right {
		t.Error("Right of abcde")
	}
	copy(room, "axxxxxxx")
	if crc.Sum(room[:1]) != sum || crc.More(7, room[:1]) != more || string(crc.Seal(room[:1])) != string(sealed) {
		t.Error("what lies behind the length counts")
	}
	clear(room)
	clear(again)
	if string(sealed) != "a\x43\xbe\xb7\xe8" {
		t.Errorf("what came out is shared: %x", sealed)
	}
}
