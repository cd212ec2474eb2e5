package state_test

import (
	"fmt"
	"math"
	"math/rand"
	"regexp"
	"slices"
	"strings"
	"testing"

	"roadstead/state"
)

// keys are what a key is, as the chapter has it, told in another way than the package does.
var keys = regexp.MustCompile(`\A[0-9][a-z][0-9]{20}\z`)

// none says that a text has to be no key.
func none(t *testing.T, key string) {
	t.Helper()
	if v, table, id, seq, ok := state.Parts(key); v != 0 || table != 0 || id != 0 || seq != 0 || ok {
		t.Errorf("Parts(%.60q): %d, %d, %d, %d, %v", key, v, table, id, seq, ok)
	}
}

// tells says what a key has to tell.
func tells(t *testing.T, key string, v int, table byte, id, seq int) {
	t.Helper()
	if v1, table1, id1, seq1, ok := state.Parts(key); v1 != v || table1 != table || id1 != id || seq1 != seq || !ok {
		t.Errorf("Parts(%q): %d, %d, %d, %d, %v", key, v1, table1, id1, seq1, ok)
	}
}

func TestKey(t *testing.T) {
	for _, c := range []struct {
		v       int
		table   byte
		id, seq int
		want    string
	}{
		{1, 's', 2, 0, "1s00000000020000000000"}, // the chapter's
		{0, 'm', 0, 0, "0m00000000000000000000"},
		{3, 'q', 1234567890, 9876543210, "3q12345678909876543210"},
		{9, 'z', 9999999999, 9999999999, "9z99999999999999999999"},
		{2, 'a', 9999999998, 1, "2a99999999980000000001"},
		{2, 'a', 10000000000, 9999999999, "2a99999999999999999999"},
		{2, 'a', 1, 10000000000, "2a00000000019999999999"},
		{2, 'a', -1, 5, "2a00000000000000000005"},
		{2, 'a', 5, -1, "2a00000000050000000000"},
		{2, 'a', math.MinInt, math.MaxInt, "2a00000000009999999999"},
		{2, 'a', math.MaxInt, math.MinInt, "2a99999999990000000000"},
		{1 << 30, 'b', 1 << 30, 1 << 30, "4b10737418241073741824"},
		{10, 'a', 0, 0, "0a00000000000000000000"},
		{13, 'a', 0, 0, "3a00000000000000000000"},
		{1234567, 'a', 0, 0, "7a00000000000000000000"},
		{-1, 'a', 0, 0, "1a00000000000000000000"},
		{-10, 'a', 0, 0, "0a00000000000000000000"},
		{-237, 'a', 0, 0, "7a00000000000000000000"},
		{math.MaxInt, 'a', 0, 0, "7a00000000000000000000"}, // 9223372036854775807
		{math.MinInt, 'a', 0, 0, "8a00000000000000000000"}, // -9223372036854775808
		{1, 0, 2, 3, "1\x0000000000020000000003"},
		{1, 0xff, 2, 3, "1\xff00000000020000000003"},
		{1, 'A', 2, 3, "1A00000000020000000003"},
		{1, '0', 2, 3, "1000000000020000000003"},
	} {
		if got := state.Key(c.v, c.table, c.id, c.seq); got != c.want || len(got) != 22 {
			t.Errorf("Key(%d, %d, %d, %d): %q, not %q", c.v, c.table, c.id, c.seq, got, c.want)
		}
	}
}

// A key tells its parts, if its table is one of a to z; of each version, and each table.
func TestKeyParts(t *testing.T) {
	numbers := []int{0, 1, 9, 10, 20, 999999999, 1000000000, 1 << 30, 9999999998, 9999999999}
	for v := range 10 {
		for table := range 256 {
			for _, id := range numbers {
				seq := numbers[(v+table+id)%len(numbers)]
				key := state.Key(v, byte(table), id, seq)
				if len(key) != 22 || key[1] != byte(table) {
					t.Fatalf("Key of the table %d: %q", table, key)
				}
				if table >= 'a' && table <= 'z' {
					tells(t, key, v, byte(table), id, seq)
				} else {
					none(t, key)
				}
			}
		}
	}
}

// Keys stand, byte by byte, in the order of what they are made of.
func TestKeyOrder(t *testing.T) {
	draw := rand.New(rand.NewSource(12))
	some := func() [4]int {
		return [4]int{draw.Intn(4), 'a' + draw.Intn(3), []int{0, 1, 9, 10, 99, 1 << 30}[draw.Intn(6)], draw.Intn(1 << draw.Intn(33))}
	}
	for range 20000 {
		a, b := some(), some()
		key := func(x [4]int) string { return state.Key(x[0], byte(x[1]), x[2], x[3]) }
		if slices.Compare(a[:], b[:]) != strings.Compare(key(a), key(b)) {
			t.Fatalf("keys of %v and %v", a, b)
		}
		tells(t, key(a), a[0], byte(a[1]), a[2], a[3])
	}
}

func TestParts(t *testing.T) {
	tells(t, "1s00000000020000000000", 1, 's', 2, 0) // the chapter's
	tells(t, "0a00000000000000000000", 0, 'a', 0, 0)
	tells(t, "9z99999999999999999999", 9, 'z', 9999999999, 9999999999)
	tells(t, "5m00000000070000000008", 5, 'm', 7, 8)
	for _, key := range []string{
		"", "1", "1s", "s1", "1s0000000002000000000", "1s000000000200000000000", "01s00000000020000000000", "1s000000000200000000", "1s0000000002 0000000000",
		" 1s0000000002000000000", "1s0000000002000000000 ", "1s0000000002000000000\n", "1s0000000002000000000\x00", "s100000000020000000000", "ss00000000020000000000", "1100000000020000000000",
		"+s00000000020000000000", "-s00000000020000000000", "1s+0000000020000000000", "1s-0000000020000000000", "1s0000000002+000000000", "1s0000000002-000000000", "1s-000000001-000000001",
		"1s0x000000020000000000", "1s00000000020b00000000", "1s00000_00020000000000", "1s00000000020000000_00", "1s1e000000020000000000", "1s0000000.020000000000", "1s 000000020000000000", "1s 0000000020000000000", "1s0000000002         0",
		"1S00000000020000000000", "1{00000000020000000000", "1`00000000020000000000", "1ä0000000002000000000", "\xff" + "s00000000020000000000", "1\xff00000000020000000000",
		"1s000000000２0000000", "٣s0000000002000000000", "1s00000000020000000٣0",
		strings.Repeat("1", 22), strings.Repeat("a", 22), strings.Repeat("\x00", 22), strings.Repeat("1s00000000020000000000", 1000),
	} {
		none(t, key)
	}
}

// Of a key in which any byte is any other one.
func TestPartsOfAll(t *testing.T) {
	for _, key := range []string{"1s00000000020000000000", "9z99999999999999999999", "0a12345678901234567890"} {
		for at := range key {
			for b := range 256 {
				other := key[:at] + string([]byte{byte(b)}) + key[at+1:]
				v, table, id, seq, ok := state.Parts(other)
				if ok != keys.MatchString(other) {
					t.Errorf("Parts(%q): %v", other, ok)
				}
				if !ok {
					none(t, other)
				} else if fmt.Sprintf("%d%c%010d%010d", v, table, id, seq) != other || state.Key(v, table, id, seq) != other {
					t.Errorf("Parts(%q): %d, %d, %d, %d", other, v, table, id, seq)
				}
			}
		}
		for n := range 22 {
			none(t, key[:n])
			none(t, key[n+1:])
			none(t, key+key[:n+1])
		}
	}
}
