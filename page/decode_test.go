package page_test

import (
	"hash/crc32"
	"slices"
	"strings"
	"testing"

	"roadstead/api"
	"roadstead/page"
)

// sealed are 252 bytes of a page, filled up with noughts ahead of the tail, and their check.
func sealed(head, tail string) []byte {
	return check([]byte(head + strings.Repeat("\x00", 252-len(head)-len(tail)) + tail))
}

// check are bytes, and their check behind them.
func check(b []byte) []byte {
	n := crc32.ChecksumIEEE(b)
	return append(slices.Clone(b), byte(n), byte(n>>8), byte(n>>16), byte(n>>24))
}

// same says whether rows have the same keys and values.
func same(a, b []api.Row) bool {
	return slices.EqualFunc(a, b, func(x, y api.Row) bool { return x.Key == y.Key && string(x.Value) == string(y.Value) })
}

// decodes says what a page has to be.
func decodes(t *testing.T, b []byte, level int, l []api.Row) {
	t.Helper()
	if n, got, e := page.Decode(b); n != level || !same(got, l) || e != api.OK {
		t.Errorf("Decode(%x): %d, %v, %d, not %d, %v", b, n, got, e, level, l)
	}
}

// refuses says what error bytes have to tell.
func refuses(t *testing.T, what string, b []byte, want api.Errno) {
	t.Helper()
	if n, l, e := page.Decode(b); n != 0 || len(l) != 0 || e != want {
		t.Errorf("%s: Decode(%x): %d, %v, %d, not %d", what, b, n, l, e, want)
	}
}

// lists are rows of which there is a page.
func lists() [][]api.Row {
	l := [][]api.Row{
		nil,
		{{}},
		{row("a", "1")},
		{{Key: "a"}},
		{row("b", "1"), row("a", ""), row("b", "1"), row("", "\x00\xff")},
		{sized(30, 150), sized(30, 33)},
		{sized(0, 127), sized(0, 117)},
		{sized(0, 128), sized(0, 115)},
		{row("\x00\x80\xff\n\u00e9", "\x80\x80\x80")},
		many(83, row("", "")),
		append(many(82, row("", "")), row("a", "")),
	}
	for n := range 36 {
		l = append(l, many(n, row("kk", "v")))
	}
	return l
}

func TestThereAndBack(t *testing.T) {
	for level := range 5 {
		for _, l := range lists() {
			b, ok := page.Encode(level, l)
			if !ok {
				t.Fatalf("no Encode(%d, %v)", level, l)
			}
			decodes(t, b, level, l)
		}
	}
	for k := range 31 {
		for v := range 151 {
			l := []api.Row{sized(k, v), sized(v%31, k)}
			b, ok := page.Encode(k%5, l)
			if !ok {
				t.Fatalf("no Encode of %d and %d bytes", k, v)
			}
			decodes(t, b, k%5, l)
		}
	}
}

// Pages that were written by hand.
func TestDecode(t *testing.T) {
	decodes(t, sealed("", ""), 0, nil)
	decodes(t, sealed("\x04", ""), 4, nil)
	decodes(t, sealed("\x00\x01\xf8", "\x01a\x011"), 0, []api.Row{row("a", "1")})
	decodes(t, sealed("\x02\x01\xfa", "\x00\x00"), 2, []api.Row{{}})
	decodes(t, sealed("\x01\x02\xf8\xf3", "\x01a\x02\xff\x80\x01b\x01\x00"), 1, []api.Row{row("b", "\x00"), row("a", "\xff\x80")})
}

// Other than 256 bytes are no page, right or not.
func TestDecodeLength(t *testing.T) {
	refuses(t, "nil", nil, api.ErrForm)
	right, _ := page.Encode(1, []api.Row{row("a", "1")})
	for n := range 600 {
		if n == 256 {
			continue
		}
		refuses(t, "noughts", make([]byte, n), api.ErrForm)
		refuses(t, "ones", slices.Repeat([]byte{1}, n), api.ErrForm)
		if n >= 4 {
			refuses(t, "sealed", check(make([]byte, n-4)), api.ErrForm)
		}
		if n < 256 {
			refuses(t, "cut off", right[:n], api.ErrForm)
			refuses(t, "cut off ahead", right[256-n:], api.ErrForm)
		}
	}
	refuses(t, "two pages", append(slices.Clone(right), right...), api.ErrForm)
}

// That the check is wrong is told ahead of all else but the length.
func TestDecodeSum(t *testing.T) {
	refuses(t, "noughts", make([]byte, 256), api.ErrSum)
	refuses(t, "all bits", slices.Repeat([]byte{0xff}, 255), api.ErrForm)
	bad := sealed("\x05\xff", "")
	bad[255]++
	refuses(t, "no page, and a wrong check", bad, api.ErrSum)
	b := sealed("\x00\x01\xf8", "\x01a\x011")
	turned := slices.Concat(b[:252], []byte{b[255], b[254], b[253], b[252]})
	refuses(t, "the greatest first", turned, api.ErrSum)
	for i := range b {
		for v := 1; v < 256; v++ {
			c := slices.Clone(b)
			c[i] ^= byte(v)
			refuses(t, "another byte", c, api.ErrSum)
		}
	}
}

// Bits within 32 in a row that are others are seen.
func TestSpoiltIsSeen(t *testing.T) {
	b, _ := page.Encode(3, []api.Row{row("a", "1"), sized(20, 100), row("b", "\x00\x00\x00\x00")})
	x := uint32(1)
	for at := range 256 * 8 {
		for range 20 {
			x = x*1664525 + 1013904223
			c := slices.Clone(b)
			for i := range min(32, 256*8-at) {
				if i == 0 || x>>i&1 == 1 {
					c[(at+i)/8] ^= 1 << ((at + i) % 8)
				}
			}
			refuses(t, "spoilt", c, api.ErrSum)
		}
	}
}

// What is sealed, but is what Encode makes of no rows, is refused.
func TestDecodeForm(t *testing.T) {
	a := "\x01a\x011"
	for _, c := range []struct{ what, head, tail string }{
		{"level 5", "\x05", ""},
		{"level 255", "\xff", ""},
		{"level 5, with a row", "\x05\x01\xf8", a},
		{"a row, and none is told", "\x00\x00\xf8", a},
		{"a row, and no slot", "\x00\x00", a},
		{"one more than there are", "\x00\x02\xf8", a},
		{"two slots for a row", "\x00\x02\xf8\xf8", a},
		{"one slot for two rows", "\x00\x01\xf8", a + a},
		{"the last of two rows alone", "\x00\x01\xf4", a + a},
		{"the first row ahead of the second", "\x00\x02\xf4\xf8", a + a},
		{"a slot behind the row's begin", "\x00\x01\xf9", a},
		{"a slot ahead of it", "\x00\x01\xf7", a},
		{"noughts behind the row", "\x00\x01\xf7", a + "\x00"},
		{"noughts between rows", "\x00\x02\xf8\xf3", a + "\x00" + a},
		{"a byte behind the slots", "\x00\x01\xf8\x01", a},
		{"a byte ahead of the rows", "\x00\x01\xf8", "\x01" + a},
		{"a byte, and no rows", "\x00\x00\x00\x01", ""},
		{"rows that share a byte", "\x00\x02\xfa\xf9", "\x00\x00\x00"},
		{"a key that ends in the check", "\x00\x01\xfb", "\x04"},
		{"a value that ends in the check", "\x00\x01\xfa", "\x00\x02"},
		{"a row in the check", "\x00\x01\xfc", ""},
		{"a row that begins with the last byte", "\x00\x01\xff", ""},
		{"a row on the slots", "\x00\x01\x00", ""},
		{"a key of 31 bytes", "\x00\x01\xdb", "\x1f" + strings.Repeat("k", 31) + "\x00"},
		{"a value of 151 bytes", "\x00\x01\x62", "\x00\x97\x01" + strings.Repeat("v", 151)},
		{"a key's length in two bytes", "\x00\x01\xf7", "\x81\x00a\x011"},
		{"a value's length in two bytes", "\x00\x01\xf7", "\x01a\x81\x001"},
		{"no length", "\x00\x01\xf2", strings.Repeat("\x80", 10)},
		{"a length above all", "\x00\x01\xf2", strings.Repeat("\xff", 7) + "\x7f\x00\x00"},
	} {
		refuses(t, c.what, sealed(c.head, c.tail), api.ErrForm)
	}
}

// However many rows a page tells of, and wherever its slots are, it is refused, if there is no page of so many.
func TestDecodeCount(t *testing.T) {
	for n := range 256 {
		for _, slot := range []byte{0, 1, 2, 84, 85, 100, 250, 251, 252, 255} {
			b := slices.Repeat([]byte{slot}, 252)
			b[0], b[1] = 0, byte(n)
			if n > 0 || slot > 0 {
				refuses(t, "slots alone", check(b), api.ErrForm)
			}
			b = make([]byte, 252)
			b[1] = byte(n)
			for i := range min(n, 250) {
				b[2+i] = byte(250 - 2*i)
			}
			if n <= 83 {
				decodes(t, check(b), 0, many(n, row("", "")))
			} else {
				refuses(t, "too many", check(b), api.ErrForm)
			}
		}
	}
}

// plain is what a page is as the chapter tells it, found in another way: each row lies between its slot and that of the one ahead, and ends with it.
func plain(b []byte) (int, []api.Row, bool) {
	n, end := int(b[1]), 252
	if b[0] > 4 || n > 83 {
		return 0, nil, false
	}
	var l []api.Row
	for _, slot := range b[2 : 2+n] {
		if int(slot) >= end {
			return 0, nil, false
		}
		key, left := text(b[slot:end], 30)
		value, left := text(left, 150)
		if left == nil || len(left) > 0 {
			return 0, nil, false
		}
		l = append(l, row(key, value))
		end = int(slot)
	}
	if end < 2+n || strings.Trim(string(b[2+n:end]), "\x00") != "" {
		return 0, nil, false
	}
	return int(b[0]), l, true
}

// text is the text with which bytes begin, of so many bytes at most, and what is left behind it; nil, if there is none.
func text(b []byte, most int) (string, []byte) {
	if len(b) == 0 {
		return "", nil
	}
	n, at := int(b[0]), 1
	if n > 127 {
		if len(b) == 1 || b[1] == 0 || b[1] > 127 {
			return "", nil
		}
		n, at = n-128+128*int(b[1]), 2
	}
	if n > most || at+n > len(b) {
		return "", nil
	}
	return string(b[at : at+n]), b[at+n:]
}

// asPlain holds a page of these bytes, sealed, against the plain one; it says whether it is one.
func asPlain(t *testing.T, b []byte) bool {
	t.Helper()
	level, l, ok := plain(b)
	b = check(b)
	if !ok {
		refuses(t, "no page", b, api.ErrForm)
		return false
	}
	decodes(t, b, level, l)
	if again, ok := page.Encode(level, l); !ok || string(again) != string(b) {
		t.Errorf("Encode(%d, %v): %x, %v, not %x", level, l, again, ok, b)
	}
	return true
}

// With any byte another one, and sealed anew, a page is another one, or none.
func TestDecodeAnother(t *testing.T) {
	for i, l := range lists() {
		b, _ := page.Encode(i%5, l)
		seen := 0
		for at := range 252 {
			for _, v := range []byte{1, 2, 3, 4, 7, 8, 15, 16, 64, 127, 128, 255} {
				c := slices.Clone(b[:252])
				c[at] ^= v
				if asPlain(t, c) {
					seen++
				}
			}
		}
		if seen == 0 {
			t.Errorf("%v: none was a page", l)
		}
	}
}

// Bytes that follow no pattern are pages, or none, as the plain one tells.
func TestDecodeAny(t *testing.T) {
	x := uint32(1)
	draw := func(n int) int {
		x = x*1664525 + 1013904223
		return int(x>>8) % n
	}
	seen := 0
	for range 20000 {
		b := make([]byte, 252)
		end, n := 252, draw(6)
		b[0], b[1] = byte(draw(6)), byte(n)
		for i := range n {
			k, v := draw(32), draw(20)
			if end-k-v-2 < 8 {
				break
			}
			end -= k + v + 2
			b[end], b[end+1+k] = byte(k), byte(v)
			for j := range k {
				b[end+1+j] = byte(draw(256))
			}
			b[2+i] = byte(end)
		}
		for range draw(2) {
			b[draw(252)] = byte(draw(256))
		}
		if asPlain(t, b) {
			seen++
		}
	}
	if seen < 2000 {
		t.Errorf("only %d were pages", seen)
	}
}

// What is handed in is left as it is, and what comes out is new.
func TestNew(t *testing.T) {
	value := []byte("12345678")
	l := []api.Row{{Key: "a", Value: value[:3]}, row("b", "2"), row("c", "3")}
	b, ok := page.Encode(1, l[:2])
	c, _ := page.Encode(1, l[:2])
	if !ok || page.Fit(l[:2]) != 2 || page.Find(l[:2], "z") != 1 {
		t.Fatalf("Encode: %x, %v", b, ok)
	}
	if string(value) != "12345678" || !same(l, []api.Row{row("a", "123"), row("b", "2"), row("c", "3")}) {
		t.Errorf("the rows are %v now", l)
	}
	_, one, _ := page.Decode(b)
	_, two, _ := page.Decode(b)
	if string(b) != string(c) {
		t.Error("the page is another one now")
	}
	for i := range b {
		b[i] = 7
	}
	one[0].Value[0], one[1].Key = 'x', "y"
	value[0] = 'z'
	decodes(t, c, 1, []api.Row{row("a", "123"), row("b", "2")})
	if !same(two, []api.Row{row("a", "123"), row("b", "2")}) {
		t.Errorf("Decode: %v", two)
	}
}

// What lies behind the length of a page is no part of it, and is left as it is.
func TestDecodeWithinLength(t *testing.T) {
	b, _ := page.Encode(2, []api.Row{row("a", "1")})
	b = append(b, "behind"...)
	decodes(t, b[:256], 2, []api.Row{row("a", "1")})
	if string(b[256:]) != "behind" {
		t.Errorf("behind the page: %q", b[256:])
	}
}
