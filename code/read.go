package code

import "roadstead/api"

// GetNum is the number that stands at a place, and the place behind it.
func GetNum(b []byte, at int) (int, int, api.Errno) {
	n := 0
	e := api.ErrForm
	for i := range numBytes {
		if at < 0 || at >= len(b) {
			e = api.ErrShort
			goto wrong
		}
		c := int(b[at])
		at++
		n |= c &^ more << (numBits * i)
		if c >= more {
			continue
		}
		// A last byte of nought says nothing: without it the same number would have two forms.
		if c == 0 && i > 0 || n > api.MaxNum {
			goto wrong
		}
		return n, at, api.OK
	}
wrong:
	return 0, 0, e
}

// GetText is the text that stands at a place, of so many bytes at most, and the place behind it.
func GetText(b []byte, at, most int) (string, int, api.Errno) {
	n, at, e := GetNum(b, at)
	if e != api.OK {
		goto wrong
	}
	if n > most {
		e = api.ErrLong
		goto wrong
	}
	if n > len(b)-at {
		e = api.ErrShort
		goto wrong
	}
	return string(b[at : at+n]), at + n, api.OK
wrong:
	return "", 0, e
}

// ReadRows are the rows of which some bytes are Rows.
func ReadRows(b []byte) ([]api.Row, api.Errno) {
	return take(b, takeRow)
}

// ReadChanges are the changes of which some bytes are Changes.
func ReadChanges(b []byte) ([]api.Change, api.Errno) {
	return take(b, takeChange)
}

// take are the things of which some bytes are the list; one takes each of them, and tells the place behind it.
func take[T any](b []byte, one func(b []byte, at int) (T, int, api.Errno)) ([]T, api.Errno) {
	var l []T
	var x T
	n, at, e := GetNum(b, 0)
	if e != api.OK {
		goto wrong
	}
	if n > api.MaxRows {
		e = api.ErrLong
		goto wrong
	}
	for range n {
		x, at, e = one(b, at)
		if e != api.OK {
			goto wrong
		}
		l = append(l, x)
	}
	if at < len(b) {
		e = api.ErrForm
		goto wrong
	}
	return l, api.OK
wrong:
	return nil, e
}

// takeRow is the row that stands at a place, and the place behind it.
func takeRow(b []byte, at int) (api.Row, int, api.Errno) {
	var value string
	key, at, e := GetText(b, at, api.MaxKey)
	if e != api.OK {
		goto wrong
	}
	value, at, e = GetText(b, at, api.MaxValue)
	if e != api.OK {
		goto wrong
	}
	return api.Row{Key: key, Value: []byte(value)}, at, api.OK
wrong:
	return api.Row{}, 0, e
}

// takeChange is the change that stands at a place, and the place behind it.
func takeChange(b []byte, at int) (api.Change, int, api.Errno) {
	var value string
	key, at, e := GetText(b, at, api.MaxKey)
	if e != api.OK {
		goto wrong
	}
	if at >= len(b) {
		e = api.ErrShort
		goto wrong
	}
	if b[at] == gone {
		return api.Change{Key: key, Gone: true}, at + 1, api.OK
	}
	if b[at] != given {
		e = api.ErrForm
		goto wrong
	}
	value, at, e = GetText(b, at+1, api.MaxValue)
	if e != api.OK {
		goto wrong
	}
	return api.Change{Key: key, Value: []byte(value)}, at, api.OK
wrong:
	return api.Change{}, 0, e
}
