package sha_test

import (
	"math"
	"math/big"
	"testing"

	"roadstead/sha"
)

// primes are the first of them.
func primes(n int) []int64 {
	var l []int64
	for p := int64(2); len(l) < n; p++ {
		if big.NewInt(p).ProbablyPrime(0) {
			l = append(l, p)
		}
	}
	return l
}

// fraction are the first 32 bits behind the point of the root, of degree 2 or 3, of a number.
func fraction(p int64, degree int) uint32 {
	most := big.NewInt(p)
	most.Lsh(most, uint(32*degree))
	root := new(big.Int)
	for bit := 40; bit >= 0; bit-- {
		n := new(big.Int).SetBit(root, bit, 1)
		if new(big.Int).Exp(n, big.NewInt(int64(degree)), nil).Cmp(most) <= 0 {
			root = n
		}
	}
	return uint32(root.Uint64())
}

// The numbers of the rounds are of the cube roots of the first 64 primes, as is published.
func TestRound(t *testing.T) {
	for i, p := range primes(64) {
		if got, want := sha.Round(i), fraction(p, 3); got != want {
			t.Errorf("Round(%d): %08x, not %08x", i, got, want)
		}
	}
	for _, c := range []struct {
		i    int
		want uint32
	}{{0, 0x428a2f98}, {1, 0x71374491}, {7, 0xab1c5ed5}, {8, 0xd807aa98}, {18, 0x0fc19dc6}, {38, 0x81c2c92e}, {62, 0xbef9a3f7}, {63, 0xc67178f2}} {
		if got := sha.Round(c.i); got != c.want {
			t.Errorf("Round(%d): %08x, not %08x", c.i, got, c.want)
		}
	}
}

// The numbers that the words begin with are of the square roots of the first eight primes, as is published.
func TestBegin(t *testing.T) {
	for i, p := range primes(8) {
		if got, want := sha.Begin(i), fraction(p, 2); got != want {
			t.Errorf("Begin(%d): %08x, not %08x", i, got, want)
		}
	}
	for _, c := range []struct {
		i    int
		want uint32
	}{{0, 0x6a09e667}, {1, 0xbb67ae85}, {6, 0x1f83d9ab}, {7, 0x5be0cd19}} {
		if got := sha.Begin(c.i); got != c.want {
			t.Errorf("Begin(%d): %08x, not %08x", c.i, got, c.want)
		}
	}
}

// Beside the tables there are noughts.
func TestBesideTables(t *testing.T) {
	for _, i := range []int{-1, -2, -8, -64, 64, 65, 128, 256, 1 << 32, -1 << 32, 1<<32 + 1, math.MaxInt, math.MinInt} {
		if got := sha.Round(i); got != 0 {
			t.Errorf("Round(%d): %x", i, got)
		}
	}
	for _, i := range []int{-1, -2, -8, 8, 9, 63, 64, 256, 1 << 32, -1 << 32, 1<<32 + 1, math.MaxInt, math.MinInt} {
		if got := sha.Begin(i); got != 0 {
			t.Errorf("Begin(%d): %x", i, got)
		}
	}
}
