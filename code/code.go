// Package code is layer 1: numbers, texts, rows and changes as bytes, and the way back. See shared/doc/01-code.md.
package code

import "roadstead/api"

// A number stands in bytes of seven bits each; all but its last byte have more.
const (
	numBits  = 7
	numBytes = 8 // of the longest number: MaxNum has 54 bits
	more     = 0x80
)

// What the byte of a change says: whether a value stands behind it.
const (
	given = 0
	gone  = 1
)

// Num is a number's bytes, the lowest first; what is outside of 0 to MaxNum counts as the end that is nearer.
func Num(n int) []byte {
	var b []byte
	for n = min(max(n, 0), api.MaxNum); n >= more; n >>= numBits {
		b = append(b, byte(n)|more)
	}
	return append(b, byte(n))
}

// Text is how many bytes a text has, and these.
func Text(s string) []byte {
	return append(Num(len(s)), s...)
}

// Rows are how many rows there are, and each one's key and value.
func Rows(l []api.Row) []byte {
	return list(l, row)
}

// Changes are how many changes there are, and each one's key, and what becomes of it.
func Changes(l []api.Change) []byte {
	return list(l, change)
}

// list are how many things there are, and the bytes of each.
func list[T any](l []T, one func(T) []byte) []byte {
	b := Num(len(l))
	for _, x := range l {
		b = append(b, one(x)...)
	}
	return b
}

// row is a row's bytes.
func row(x api.Row) []byte {
	return append(Text(x.Key), Text(string(x.Value))...)
}

// change is a change's bytes.
func change(x api.Change) []byte {
	b := Text(x.Key)
	if x.Gone {
		return append(b, gone)
	}
	return append(append(b, given), Text(string(x.Value))...)
}
