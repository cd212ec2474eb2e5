package state

import (
	"strconv"
	"strings"
)

// What a key is made of: a digit, a table, and two numbers of so many digits.
const (
	wide   = 10
	length = 2 + 2*wide
	most   = 9999999999 // the greatest number of so many digits
)

// Key is a row's key: of a version, a table, a subscription, a message.
func Key(v int, table byte, id, seq int) string {
	digit := v % 10
	if digit < 0 {
		digit = -digit
	}
	return string([]byte{'0' + byte(digit), table}) + digits(id) + digits(seq)
}

// Parts are what a key has; false: it is none.
func Parts(key string) (int, byte, int, int, bool) {
	if len(key) != length || key[1] < 'a' || key[1] > 'z' {
		return 0, 0, 0, 0, false
	}
	// A text that has other signs than digits is read as some number, too: but the key of that is another one.
	v, _ := strconv.Atoi(key[:1])
	id, _ := strconv.Atoi(key[2 : 2+wide])
	seq, _ := strconv.Atoi(key[2+wide:])
	if Key(v, key[1], id, seq) != key {
		return 0, 0, 0, 0, false
	}
	return v, key[1], id, seq, true
}

// digits are a number's, with noughts ahead; what is outside of 0 to the greatest one counts as the end that is nearer.
func digits(n int) string {
	s := strconv.Itoa(min(max(n, 0), most))
	return strings.Repeat("0", wide-len(s)) + s
}
