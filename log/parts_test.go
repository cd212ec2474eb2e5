package log_test

import (
	"encoding/binary"
	"hash/crc32"
	"math"
	"slices"
	"strings"
	"testing"

	"roadstead/api"
	"roadstead/log"
)

// row is one of that key and value.
func row(key, value string) api.Row {
	return api.Row{Key: key, Value: []byte(value)}
}

// put gives a key a value; gone takes it away.
func put(key, value string) api.Change {
	return api.Change{Key: key, Value: []byte(value)}
}

func gone(key string) api.Change {
	return api.Change{Key: key, Gone: true}
}

// laid are changes as bytes.
func laid(l []api.Change) string {
	b := binary.AppendUvarint(nil, uint64(len(l)))
	for _, c := range l {
		b = append(binary.AppendUvarint(b, uint64(len(c.Key))), c.Key...)
		if c.Gone {
			b = append(b, 1)
			continue
		}
		b = append(binary.AppendUvarint(append(b, 0), uint64(len(c.Value))), c.Value...)
	}
	return string(b)
}

// sealed are 60 bytes of a sector, filled up with noughts, and their check.
func sealed(s string) string {
	s += strings.Repeat("\x00", 60-len(s))
	return s + string(binary.LittleEndian.AppendUint32(nil, crc32.ChecksumIEEE([]byte(s))))
}

// head is what stands ahead of a piece.
func head(epoch, n, part, count, size int) string {
	b := binary.BigEndian.AppendUint32(nil, uint32(epoch))
	b = binary.BigEndian.AppendUint32(b, uint32(n))
	return string(append(b, byte(part), byte(count), byte(size)))
}

// cut is a text as the sectors of a frame, whatever the text is.
func cut(epoch, n int, text string) []string {
	var l []string
	count := (len(text) + 48) / 49
	for text != "" {
		size := min(len(text), 49)
		l = append(l, sealed(head(epoch, n, len(l), count, size)+text[:size]))
		text = text[size:]
	}
	return l
}

// texts are sectors as strings; raw are strings as sectors.
func texts(sectors [][]byte) []string {
	var l []string
	for _, s := range sectors {
		l = append(l, string(s))
	}
	return l
}

func raw(sectors ...string) [][]byte {
	var l [][]byte
	for _, s := range sectors {
		l = append(l, []byte(s))
	}
	return l
}

// sameChanges says whether changes are of the same keys, and make the same of them.
func sameChanges(a, b []api.Change) bool {
	return slices.EqualFunc(a, b, func(x, y api.Change) bool {
		return x.Key == y.Key && x.Gone == y.Gone && string(x.Value) == string(y.Value)
	})
}

// filling are changes whose bytes are so many, at least three.
func filling(n int) []api.Change {
	var l []api.Change
	for n > 131 {
		l = append(l, put("k", strings.Repeat("w", 99)))
		n -= 103
	}
	if n == 3 {
		return append(l, gone(""))
	}
	return append(l, put("", strings.Repeat("v", n-4)))
}

// lists are changes of which there is a frame.
func lists() map[string][]api.Change {
	return map[string][]api.Change{
		"nil":              nil,
		"no changes":       {},
		"one of nothing":   {{}},
		"one":              {put("a", "1")},
		"one gone":         {gone("a")},
		"of nothing, gone": {gone("")},
		"bytes":            {put("\xff\x00", "\x00\xff"), gone("\x80"), put("\n", "\xc3\xa9")},
		"the longest":      {put(strings.Repeat("k", 30), strings.Repeat("v", 150)), gone(strings.Repeat("g", 30))},
		"one key twice":    {put("a", "1"), gone("a"), put("a", "2")},
		"falling":          {put("b", ""), put("a", "")},
		"many":             slices.Repeat([]api.Change{gone("")}, 4800),
		"130":              slices.Repeat([]api.Change{put("a", "1"), gone("b")}, 65),
		"48 bytes":         filling(48),
		"49 bytes":         filling(49),
		"50 bytes":         filling(50),
		"98 bytes":         filling(98),
		"99 bytes":         filling(99),
		"9799 bytes":       filling(9799),
		"9800 bytes":       filling(9800),
	}
}

// Sectors that were written by hand.
func TestParts(t *testing.T) {
	for _, c := range []struct {
		what     string
		epoch, n int
		l        []api.Change
		want     []string
	}{
		{"nothing", 0, 0, nil, []string{sealed("\x00\x00\x00\x00\x00\x00\x00\x00\x00\x01\x01\x00")}},
		{"one", 1, 2, []api.Change{put("a", "1")}, []string{sealed("\x00\x00\x00\x01\x00\x00\x00\x02\x00\x01\x06\x01\x01a\x00\x011")}},
		{"one gone", 0x01020304, 0x3a0b0c0d, []api.Change{gone("a")}, []string{sealed("\x01\x02\x03\x04\x3a\x0b\x0c\x0d\x00\x01\x04\x01\x01a\x01")}},
		{"two sectors", 0x40000000, 0x3fffffff, []api.Change{put("k", strings.Repeat("v", 60)), gone("x")}, []string{
			sealed("\x40\x00\x00\x00\x3f\xff\xff\xff\x00\x02\x31\x02\x01k\x00\x3c" + strings.Repeat("v", 44)),
			sealed("\x40\x00\x00\x00\x3f\xff\xff\xff\x01\x02\x13" + strings.Repeat("v", 16) + "\x01x\x01"),
		}},
	} {
		got, ok := log.Parts(c.epoch, c.n, c.l)
		if !ok || !slices.Equal(texts(got), c.want) {
			t.Errorf("%s: Parts: %x, %v, not %x", c.what, got, ok, c.want)
		}
	}
	// The check of the sector of no changes, as a number.
	if s, _ := log.Parts(0, 0, nil); len(s) != 1 || string(s[0][60:]) != "\x6a\x63\x1d\x4a" {
		t.Errorf("Parts of nothing: %x", s)
	}
}

func TestPartsLists(t *testing.T) {
	for what, l := range lists() {
		want := cut(7, 300, laid(l))
		if got, ok := log.Parts(7, 300, l); !ok || !slices.Equal(texts(got), want) {
			t.Errorf("%s: Parts: %d sectors, %v, not %d", what, len(got), ok, len(want))
		}
	}
	for n := 3; n <= 9800; n += 1 + n/100 {
		want := cut(0, 1, laid(filling(n)))
		got, ok := log.Parts(0, 1, filling(n))
		if !ok || !slices.Equal(texts(got), want) || len(got) != (n+48)/49 {
			t.Errorf("%d bytes: Parts: %d sectors, %v, not %d", n, len(got), ok, len(want))
		}
	}
}

func TestPartsNumbers(t *testing.T) {
	l := []api.Change{put("a", "1")}
	wrong := []int{-1, -api.MaxSeq, math.MinInt, math.MinInt32, api.MaxSeq + 1, 1 << 31, 1 << 32, 1<<32 + 1, math.MaxInt}
	right := []int{0, 1, 255, 256, 65536, api.MaxSeq - 1, api.MaxSeq}
	for _, w := range wrong {
		for _, r := range append(right, wrong...) {
			for _, c := range [][2]int{{w, r}, {r, w}} {
				if s, ok := log.Parts(c[0], c[1], l); ok || len(s) != 0 {
					t.Errorf("Parts of %d, %d: %d sectors, %v", c[0], c[1], len(s), ok)
				}
			}
		}
	}
	for _, a := range right {
		for _, b := range right {
			if s, ok := log.Parts(a, b, l); !ok || !slices.Equal(texts(s), cut(a, b, laid(l))) {
				t.Errorf("Parts of %d, %d: %x, %v", a, b, s, ok)
			}
		}
	}
}

func TestPartsTooMany(t *testing.T) {
	if s, ok := log.Parts(1, 0, filling(9800)); !ok || len(s) != 200 {
		t.Errorf("9800 bytes: %d sectors, %v", len(s), ok)
	}
	for what, l := range map[string][]api.Change{
		"9801 bytes":       filling(9801),
		"9850 bytes":       filling(9850),
		"a sector of 256":  filling(256 * 49),
		"257 sectors":      filling(257 * 49),
		"far too many":     filling(1 << 20),
		"one that is long": {put("a", strings.Repeat("v", 9801))},
		"5000 gone":        slices.Repeat([]api.Change{gone("")}, api.MaxRows),
	} {
		if s, ok := log.Parts(1, 0, l); ok || len(s) != 0 {
			t.Errorf("%s: Parts: %d sectors, %v", what, len(s), ok)
		}
	}
	// How long a key or a value is, counts for no more than its bytes.
	long := []api.Change{put(strings.Repeat("k", 31), strings.Repeat("v", 151)), gone(strings.Repeat("g", 9000))}
	if s, ok := log.Parts(1, 0, long); !ok || !slices.Equal(texts(s), cut(1, 0, laid(long))) {
		t.Errorf("long ones: Parts: %d sectors, %v", len(s), ok)
	}
	// Of what is gone the value counts for nothing.
	odd := []api.Change{{Key: "a", Value: make([]byte, 9801), Gone: true}}
	if s, ok := log.Parts(1, 0, odd); !ok || !slices.Equal(texts(s), cut(1, 0, laid(odd))) {
		t.Errorf("a value of what is gone: Parts: %d sectors, %v", len(s), ok)
	}
}

// Nothing handed in is changed, kept, or read behind its length; no sector shares memory.
func TestPartsKeepsNothing(t *testing.T) {
	l := append(filling(500), put("behind", "the length"))
	want := cut(3, 4, laid(filling(500)))
	got, _ := log.Parts(3, 4, l[:len(l)-1])
	again, _ := log.Parts(3, 4, l[:len(l)-1])
	if !slices.Equal(texts(got), want) || !sameChanges(l, append(filling(500), put("behind", "the length"))) {
		t.Fatal("Parts: not the sectors, or the changes are others")
	}
	for i := range again {
		_ = append(again[i], 1, 2, 3)
		for k := range again[i] {
			again[i][k] = 0xee
		}
		if i+1 < len(again) && string(again[i+1]) != want[i+1] {
			t.Fatalf("Parts: sector %d shares memory with the one ahead", i+1)
		}
	}
	for i := range l {
		clear(l[i].Value)
		l[i].Key = "x"
	}
	if !slices.Equal(texts(got), want) {
		t.Error("Parts: sectors share memory with changes, or with another call's")
	}
}
