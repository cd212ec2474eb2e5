package log_test

import (
	"math"
	"math/rand"
	"slices"
	"strings"
	"testing"

	"roadstead/api"
	"roadstead/log"
)

// reads says what frames have to be told of sectors, and how many sectors they have.
func reads(t *testing.T, what string, epoch int, sectors []string, n int, want ...[]api.Change) {
	t.Helper()
	got, end := log.Read(epoch, raw(sectors...))
	if !slices.EqualFunc(got, want, sameChanges) || end != n {
		t.Errorf("%s: Read: %d frames, %d sectors, not %d, %d", what, len(got), end, len(want), n)
	}
	for _, l := range got {
		for _, c := range l {
			if c.Gone && len(c.Value) != 0 {
				t.Errorf("%s: Read: what is gone has the value %q", what, c.Value)
			}
		}
	}
}

// blank is a sector of noughts.
var blank = strings.Repeat("\x00", 64)

func TestReadNothing(t *testing.T) {
	for _, epoch := range []int{0, 1, -1, api.MaxSeq, math.MaxInt, math.MinInt} {
		reads(t, "no sectors", epoch, nil, 0)
		reads(t, "noughts", epoch, []string{blank, blank, blank}, 0)
		reads(t, "a sector without bytes", epoch, []string{"", ""}, 0)
		reads(t, "ones", epoch, slices.Repeat([]string{strings.Repeat("\xff", 64)}, 300), 0)
		reads(t, "noughts with their sum", epoch, []string{sealed(""), sealed("")}, 0)
	}
	if l, n := log.Read(1, [][]byte{nil, nil}); len(l) != 0 || n != 0 {
		t.Errorf("nil: Read: %d frames, %d sectors", len(l), n)
	}
}

// Sectors that were written by hand.
func TestRead(t *testing.T) {
	a := sealed("\x00\x00\x00\x05\x00\x00\x00\x00\x00\x01\x06\x01\x01a\x00\x011")
	b := []string{
		sealed("\x00\x00\x00\x05\x00\x00\x00\x01\x00\x02\x31\x02\x01k\x00\x3c" + strings.Repeat("v", 44)),
		sealed("\x00\x00\x00\x05\x00\x00\x00\x01\x01\x02\x13" + strings.Repeat("v", 16) + "\x01x\x01"),
	}
	c := sealed("\x00\x00\x00\x05\x00\x00\x00\x02\x00\x01\x01\x00")
	la, lb := []api.Change{put("a", "1")}, []api.Change{put("k", strings.Repeat("v", 60)), gone("x")}
	reads(t, "one", 5, []string{a}, 1, la)
	reads(t, "two", 5, []string{a, b[0], b[1]}, 3, la, lb)
	reads(t, "three", 5, []string{a, b[0], b[1], c}, 4, la, lb, nil)
	reads(t, "and noughts", 5, []string{a, b[0], b[1], c, blank, blank}, 4, la, lb, nil)
	reads(t, "another epoch", 4, []string{a, b[0], b[1], c}, 0)
	reads(t, "the first is left out", 5, []string{b[0], b[1], c}, 0)
	reads(t, "noughts ahead", 5, []string{blank, a, b[0], b[1], c}, 0)
	reads(t, "cut off", 5, []string{a, b[0]}, 1, la)
	reads(t, "half of one", 5, []string{a, b[0], c}, 1, la)
	reads(t, "the other half", 5, []string{a, b[1], c}, 1, la)
	reads(t, "changed about", 5, []string{a, b[1], b[0], c}, 1, la)
	reads(t, "one left out", 5, []string{a, c}, 1, la)
	reads(t, "one twice", 5, []string{a, a, b[0], b[1]}, 1, la)
	reads(t, "noughts between", 5, []string{a, blank, b[0], b[1]}, 1, la)
	reads(t, "what is behind is of no matter", 5, []string{a, "", "x", blank + blank}, 1, la)
}

// Whatever was made is read again, frame by frame.
func TestReadThereAndBack(t *testing.T) {
	for _, epoch := range []int{0, 1, 77, api.MaxSeq} {
		var all [][]byte
		var want [][]api.Change
		for what, l := range lists() {
			s, _ := log.Parts(epoch, 0, l)
			reads(t, what, epoch, texts(s), len(s), l)
			s, _ = log.Parts(epoch, len(want), l)
			all, want = append(all, s...), append(want, l)
		}
		reads(t, "all", epoch, texts(all), len(all), want...)
		reads(t, "all, and more", epoch, append(texts(all), blank, texts(all)[0]), len(all), want...)
		reads(t, "of another epoch", epoch+1, texts(all), 0)
		reads(t, "of another epoch", epoch-1, texts(all), 0)
		reads(t, "of another epoch", epoch+1<<32, texts(all), 0)
		reads(t, "of another epoch", ^epoch, texts(all), 0)
	}
	for n := 3; n <= 9800; n += 1 + n/100 {
		reads(t, "bytes", 2, cut(2, 0, laid(filling(n))), (n+48)/49, filling(n))
	}
}

// More frames than a byte counts.
func TestReadMany(t *testing.T) {
	var all []string
	var want [][]api.Change
	for k := range 70000 {
		l := []api.Change{put("a", string([]byte{byte(k)}))}
		all, want = append(all, cut(9, k, laid(l))...), append(want, l)
	}
	reads(t, "70000 frames", 9, all, len(all), want...)
	all[65792] = all[256]
	reads(t, "an earlier one again", 9, all, 65792, want[:65792]...)
}

// A number that is another is no frame's.
func TestReadNumbers(t *testing.T) {
	l := []api.Change{put("a", "1")}
	for _, n := range []int{1, 2, 256, 1 << 24, api.MaxSeq} {
		reads(t, "the first number", 1, cut(1, n, laid(l)), 0)
	}
	for _, n := range []int{0, 2, 257, 1<<24 + 1, api.MaxSeq} {
		reads(t, "the second number", 1, append(cut(1, 0, laid(l)), cut(1, n, laid(l))...), 1, l)
	}
	for _, epoch := range []int{api.MaxSeq + 1, 1 << 31, 1<<32 - 1, -1} {
		reads(t, "no such epoch", epoch, cut(epoch, 0, laid(l)), 0)
		reads(t, "no such epoch", epoch&(1<<32-1), cut(epoch, 0, laid(l)), 0)
	}
}

// A frame is there whole, or not at all, whichever sectors of it are there, and whatever stands in their places.
func TestReadTorn(t *testing.T) {
	first := []api.Change{put("first", "1")}
	l, older := filling(6*49-5), filling(6*49-7)
	frame := cut(3, 1, laid(l))
	for what, other := range map[string][]string{
		"noughts":              slices.Repeat([]string{blank}, 6),
		"nothing":              make([]string, 6),
		"an older epoch":       cut(2, 1, laid(l)),
		"an epoch to come":     cut(4, 1, laid(l)),
		"an older frame":       cut(3, 0, laid(l)),
		"a frame to come":      cut(3, 2, laid(l)),
		"of older changes":     cut(2, 1, laid(older)),
		"the next sectors":     append(slices.Clone(frame[1:]), blank),
		"the one ahead again":  append([]string{blank}, frame[:5]...),
		"a sector of one more": cut(3, 1, laid(filling(7*49)))[:6],
	} {
		for bits := range 1 << 6 {
			sectors := cut(3, 0, laid(first))
			for i := range frame {
				if bits>>i&1 == 1 {
					sectors = append(sectors, frame[i])
				} else {
					sectors = append(sectors, other[i])
				}
			}
			sectors = append(sectors, blank)
			if bits == 1<<6-1 {
				reads(t, what, 3, sectors, 7, first, l)
			} else {
				reads(t, what, 3, sectors, 1, first)
			}
		}
	}
	for n := range frame {
		reads(t, "cut off", 3, frame[:n], 0)
		reads(t, "cut off", 3, append(cut(3, 0, laid(first)), frame[:n]...), 1, first)
	}
}

// With any bit another one there is no frame.
func TestReadSpoilt(t *testing.T) {
	l := filling(3*49 - 8)
	frame := raw(cut(3, 0, laid(l))...)
	for i := range frame {
		for bit := range 8 * 64 {
			frame[i][bit/8] ^= 1 << (bit % 8)
			reads(t, "another bit", 3, texts(frame), 0)
			frame[i][bit/8] ^= 1 << (bit % 8)
		}
		for _, s := range [][]byte{nil, frame[i][:63], frame[i][:11], frame[i][:10], frame[i][:1], append(slices.Clone(frame[i]), 0)} {
			other := slices.Clone(frame)
			other[i] = s
			reads(t, "bytes too few, or too many", 3, texts(other), 0)
		}
	}
	reads(t, "right", 3, texts(frame), 3, l)
}

// Each sector is right by its sum, but they are no frame's.
func TestReadSealed(t *testing.T) {
	l := filling(2*49 - 9)
	text := laid(l)
	right := cut(3, 0, text)
	h := func(part, count, size int) string { return head(3, 0, part, count, size) }
	reads(t, "right", 3, []string{sealed(h(0, 2, 49) + text[:49]), sealed(h(1, 2, 40) + text[49:])}, 2, l)
	for _, c := range []struct {
		what    string
		sectors []string
	}{
		{"no sector of none", []string{sealed(h(0, 0, 49) + text[:49]), right[1]}},
		{"one of one", []string{sealed(h(0, 1, 49) + text[:49]), right[1]}},
		{"one of three", []string{sealed(h(0, 3, 49) + text[:49]), sealed(h(1, 3, 40) + text[49:])}},
		{"three of three", []string{sealed(h(0, 3, 49) + text[:49]), sealed(h(1, 3, 40) + text[49:]), sealed(h(2, 3, 0))}},
		{"they count otherwise", []string{right[0], sealed(h(1, 3, 40) + text[49:])}},
		{"the first is the second", []string{sealed(h(1, 2, 49) + text[:49]), right[1]}},
		{"both are the first", []string{right[0], sealed(h(0, 2, 40) + text[49:])}},
		{"from one on", []string{sealed(h(1, 2, 49) + text[:49]), sealed(h(2, 2, 40) + text[49:])}},
		{"a piece with a byte too few ahead", []string{sealed(h(0, 2, 48) + text[:48]), sealed(h(1, 2, 41) + text[48:])}},
		{"a piece says a byte less", []string{sealed(h(0, 2, 48) + text[:49]), right[1]}},
		{"the last piece says a byte less", []string{right[0], sealed(h(1, 2, 39) + text[49:])}},
		{"the last piece says a byte more", []string{right[0], sealed(h(1, 2, 41) + text[49:])}},
		{"a piece says more than there may be", []string{sealed(h(0, 2, 50) + text[:49]), right[1]}},
		{"a piece says far more", []string{sealed(h(0, 2, 255) + text[:49]), right[1]}},
		{"the last piece says far more", []string{right[0], sealed(h(1, 2, 255) + text[49:])}},
		{"a byte behind the piece", []string{right[0], sealed(h(1, 2, 40) + text[49:] + "\x01")}},
		{"the last byte", []string{right[0], sealed(h(1, 2, 40) + text[49:] + strings.Repeat("\x00", 8) + "\x01")}},
		{"a piece of nothing behind", []string{sealed(h(0, 3, 49) + text[:49]), sealed(h(1, 3, 40) + text[49:]), sealed(h(2, 3, 0))}},
		{"pieces of nothing between", []string{sealed(h(0, 3, 49) + text[:49]), sealed(h(1, 3, 0)), sealed(h(2, 3, 40) + text[49:])}},
		{"another epoch in the second", []string{right[0], sealed(head(4, 0, 1, 2, 40) + text[49:])}},
		{"another number in the second", []string{right[0], sealed(head(3, 1, 1, 2, 40) + text[49:])}},
	} {
		reads(t, c.what, 3, append(c.sectors, blank), 0)
	}
}

// There may be no more than 200 sectors.
func TestReadTooMany(t *testing.T) {
	reads(t, "200", 3, cut(3, 0, laid(filling(9800))), 200, filling(9800))
	for _, n := range []int{9801, 201 * 49, 255 * 49} {
		reads(t, "above 200", 3, cut(3, 0, laid(filling(n))), 0)
	}
	reads(t, "256", 3, cut(3, 0, laid(filling(256*49))), 0)
}

// The sectors are right, but what they have is no changes.
func TestReadNoChanges(t *testing.T) {
	l := []api.Change{put("a", "1")}
	for what, text := range map[string]string{
		"a change too few":    "\x02\x01a\x00\x011",
		"a byte too many":     "\x01\x01a\x00\x011\x00",
		"a byte too few":      "\x01\x01a\x00\x01",
		"a byte above 1":      "\x01\x01a\x02\x011",
		"a number too long":   "\x81\x00\x01a\x00\x011",
		"a length too long":   "\x01\x81\x00a\x00\x011",
		"a number cut off":    "\x81",
		"a key of 31":         laid([]api.Change{put(strings.Repeat("k", 31), "1")}),
		"a key of 31 is gone": laid([]api.Change{gone(strings.Repeat("k", 31))}),
		"a value of 151":      laid([]api.Change{put("a", strings.Repeat("v", 151))}),
		"more than 5000":      "\x89\x27" + strings.Repeat("\x00\x01", 4800),
	} {
		reads(t, what, 1, cut(1, 0, text), 0)
		reads(t, what, 1, append(cut(1, 0, laid(l)), cut(1, 1, text)...), 1, l)
	}
	// What Parts makes of changes that are not told is no frame.
	for _, c := range []api.Change{put(strings.Repeat("k", 31), ""), put("", strings.Repeat("v", 151)), gone(strings.Repeat("k", 31))} {
		s, ok := log.Parts(1, 0, []api.Change{c})
		if !ok {
			t.Error("Parts: none of what is too long")
		}
		reads(t, "too long", 1, texts(s), 0)
	}
	// Of what is gone no value is told.
	s, _ := log.Parts(1, 0, []api.Change{{Key: "a", Value: []byte("1"), Gone: true}})
	reads(t, "gone", 1, texts(s), 1, []api.Change{gone("a")})
}

// A journal that is written on from its begin in each epoch, and of whose last writes only some are there.
func TestReadJournal(t *testing.T) {
	draw := rand.New(rand.NewSource(7))
	journal := slices.Repeat([]string{blank}, 60)
	for epoch := 1; epoch < 400; epoch++ {
		var frames [][]api.Change
		used := 0
		for {
			l := filling(3 + draw.Intn(400))
			s := cut(epoch, len(frames), laid(l))
			if used+len(s) > len(journal) {
				break
			}
			if draw.Intn(6) > 0 {
				copy(journal[used:], s)
				frames, used = append(frames, l), used+len(s)
				reads(t, "whole", epoch, journal, used, frames...)
				continue
			}
			lost := draw.Intn(len(s))
			for i := range s {
				if i != lost && draw.Intn(2) > 0 {
					journal[used+i] = s[i]
				}
			}
			break
		}
		reads(t, "torn", epoch, journal, used, frames...)
		reads(t, "the next", epoch+1, journal, 0)
	}
}

// Nothing handed in is changed, kept, or read behind its length; nothing that comes out shares memory.
func TestReadKeepsNothing(t *testing.T) {
	l := []api.Change{put("a", strings.Repeat("1", 100)), gone("b"), put("c", "22")}
	all := append(cut(1, 0, laid(l)), cut(1, 1, laid(l))...)
	all = append(all, cut(1, 2, laid(l))...)
	sectors := raw(all...)
	end := len(sectors) * 2 / 3
	got, n := log.Read(1, sectors[:end])
	again, _ := log.Read(1, sectors[:end])
	if len(got) != 2 || n != end || !slices.Equal(texts(sectors), all) {
		t.Fatalf("Read: %d frames, %d sectors, or sectors are others", len(got), n)
	}
	for _, s := range sectors {
		clear(s)
	}
	for _, f := range again {
		for i := range f {
			_ = append(f[i].Value, "xxxx"...)
			clear(f[i].Value)
			f[i].Key = "x"
		}
	}
	if !sameChanges(got[0], l) || !sameChanges(got[1], l) {
		t.Error("Read: changes share memory with sectors, or with another call's")
	}
	got[0][0], got[0][2] = gone("y"), gone("z")
	_ = append(got[0], gone("behind"))
	if !sameChanges(got[1], l) {
		t.Error("Read: frames share memory")
	}
	whole := []byte(cut(1, 0, laid(l))[0] + "x")
	if f, n := log.Read(1, [][]byte{whole[:63]}); len(f) != 0 || n != 0 {
		t.Error("Read: what lies behind a sector's length counts")
	}
}
