package sha_test

import (
	"crypto/sha256"
	"encoding/hex"
	"slices"
	"strings"
	"testing"

	"roadstead/sha"
)

// some are so many bytes that follow no plain pattern, the same ones each time.
func some(n int) []byte {
	b := make([]byte, n)
	x := uint32(n + 1)
	for i := range b {
		x = x*1664525 + 1013904223
		b[i] = byte(x >> 24)
	}
	return b
}

// told is a digest as it is published, in hexadecimal.
func told(d [32]byte) string {
	return hex.EncodeToString(d[:])
}

func TestSum(t *testing.T) {
	for _, c := range []struct{ s, want string }{
		{"", "e3b0c44298fc1c149afbf4c8996fb92427ae41e4649b934ca495991b7852b855"},
		{"a", "ca978112ca1bbdcafac231b39a23dc4da786eff8147c4e72b9807785afee48bb"},
		{"abc", "ba7816bf8f01cfea414140de5dae2223b00361a396177a9cb410ff61f20015ad"},
		{"\xbd", "68325720aabd7c82f30f554b313d0570c95accbb7dc4b5aae11204c08ffe732b"},
		{"\x00", "6e340b9cffb37a989ca544e6bb780a2c78901d3fb33738768511a30617afa01d"},
		{"The quick brown fox jumps over the lazy dog", "d7a8fbb307d7809469ca9abcb0082e4f8d5651e46d3cdb762d02d0bf37c9e592"},
		{
			"abcdbcdecdefdefgefghfghighijhijkijkljklmklmnlmnomnopnopq",
			"248d6a61d20638b8e5c026930c3e6039a33ce45964ff2167f6ecedd419db06c1",
		},
		{
			"abcdefghbcdefghicdefghijdefghijkefghijklfghijklmghijklmnhijklmnoijklmnopjklmnopqklmnopqrlmnopqrsmnopqrstnopqrstu",
			"cf5b16a778af8380036ce59e7b0492370b249b11e8f07a51afac45037afee9d1",
		},
		{strings.Repeat("a", 1000000), "cdc76e5c9914fb9281a1c7e284d73e67f1809a48a497200e046d39ccc7112cd0"},
	} {
		if got := told(sha.Sum([]byte(c.s))); got != c.want {
			t.Errorf("Sum(%.20q), of %d bytes: %s, not %s", c.s, len(c.s), got, c.want)
		}
	}
	if sha.Sum(nil) != sha.Sum([]byte{}) {
		t.Error("Sum(nil) is not that of no bytes")
	}
}

// The edges of a block: with 55 bytes the bits' number still fits behind the byte 80, with 56 to 64 it stands in a block of its own.
func TestSumAtBlocks(t *testing.T) {
	for _, c := range []struct {
		n    int
		want string
	}{
		{55, "02779466cdec163811d078815c633f21901413081449002f24aa3e80f0b88ef7"},
		{56, "d4817aa5497628e7c77e6b606107042bbba3130888c5f47a375e6179be789fbb"},
		{57, "65a16cb7861335d5ace3c60718b5052e44660726da4cd13bb745381b235a1785"},
		{63, "c7723fa1e0127975e49e62e753db53924c1bd84b8ac1ac08df78d09270f3d971"},
		{64, "f5a5fd42d16a20302798ef6ed309979b43003d2320d9f0e8ea9831a92759fb4b"},
		{65, "98ce42deef51d40269d542f5314bef2c7468d401ad5d85168bfab4c0108f75f7"},
	} {
		if got := told(sha.Sum(make([]byte, c.n))); got != c.want {
			t.Errorf("Sum of %d noughts: %s, not %s", c.n, got, c.want)
		}
	}
}

// Bytes of many lengths, and each byte alone, have the digest that is published.
func TestSumOfMany(t *testing.T) {
	for v := range 256 {
		if b := []byte{byte(v)}; sha.Sum(b) != sha256.Sum256(b) {
			t.Errorf("Sum(%x): %x", b, sha.Sum(b))
		}
	}
	for _, n := range []int{8191, 8192, 8193, 1<<20 - 1, 1 << 20, 1<<20 + 1} {
		if b := some(n); sha.Sum(b) != sha256.Sum256(b) {
			t.Errorf("Sum of %d bytes: %x", n, sha.Sum(b))
		}
	}
	for n := range 600 {
		for _, b := range [][]byte{some(n), make([]byte, n), slices.Repeat([]byte{0xff}, n)} {
			if sha.Sum(b) != sha256.Sum256(b) {
				t.Fatalf("Sum of %d bytes: %x, not %x", n, sha.Sum(b), sha256.Sum256(b))
			}
		}
	}
}

// How many bits there are takes more than four bytes from 2^29 bytes on.
func TestSumOfManyBits(t *testing.T) {
	if testing.Short() {
		t.Skip("some seconds, and 2^29 bytes")
	}
	if b := make([]byte, 1<<29); sha.Sum(b) != sha256.Sum256(b) {
		t.Errorf("Sum of 2^29 noughts: %x", sha.Sum(b))
	}
}

// A digest is of all bytes: with any bit of them another one, it is another one.
func TestSumOfAllBytes(t *testing.T) {
	for _, n := range []int{1, 4, 55, 56, 64, 119, 130} {
		b := some(n)
		seen := map[[32]byte]bool{sha.Sum(b): true}
		for i := range n * 8 {
			b[i/8] ^= 1 << (i % 8)
			d := sha.Sum(b)
			b[i/8] ^= 1 << (i % 8)
			if seen[d] {
				t.Fatalf("%d bytes, bit %d turned over: the digest was there", n, i)
			}
			seen[d] = true
		}
	}
}

// A digest is of how many bytes there are: noughts behind, and what looks like an ending, make another one.
func TestSumOfHowMany(t *testing.T) {
	for _, s := range []string{"", "abc", strings.Repeat("b", 60)} {
		seen := map[[32]byte]bool{}
		for n := range 200 {
			d := sha.Sum([]byte(s + strings.Repeat("\x00", n)))
			if seen[d] {
				t.Fatalf("%q and %d noughts: the digest was there", s, n)
			}
			seen[d] = true
			if d = sha.Sum([]byte(s + "\x80" + strings.Repeat("\x00", n))); seen[d] {
				t.Fatalf("%q, 80 and %d noughts: the digest was there", s, n)
			}
			seen[d] = true
		}
	}
	ended := "abc\x80" + strings.Repeat("\x00", 59) + "\x18"
	if len(ended) != 64 || sha.Sum([]byte("abc")) == sha.Sum([]byte(ended)) {
		t.Error("Sum(abc) is that of its block")
	}
}

// What is handed in is neither changed nor kept, nor is what lies behind its length.
func TestKeepsNothing(t *testing.T) {
	for _, n := range []int{0, 3, 55, 56, 63, 64, 65, 128} {
		room := some(300)
		was := slices.Clone(room)
		d := sha.Sum(room[:n])
		if !slices.Equal(room, was) {
			t.Errorf("%d bytes: what was handed in is %x", n, room)
		}
		if d != sha256.Sum256(was[:n]) {
			t.Errorf("%d bytes: %x", n, d)
		}
		clear(room[n:])
		if sha.Sum(room[:n]) != d {
			t.Errorf("%d bytes: what lies behind the length counts", n)
		}
		clear(room)
		if sha.Sum(was[:n]) != d {
			t.Errorf("%d bytes: another digest the second time", n)
		}
	}
}

// Digests that are made at once do not meddle with each other.
func TestSumAtOnce(t *testing.T) {
	got := make(chan bool)
	for n := range 8 {
		go func() {
			b := some(1000 + n)
			right := true
			for range 20 {
				right = right && sha.Sum(b) == sha256.Sum256(b)
			}
			got <- right
		}()
	}
	for range 8 {
		if !<-got {
			t.Error("another digest")
		}
	}
}
