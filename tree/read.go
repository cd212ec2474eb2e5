package tree

import (
	"bytes"
	"slices"

	"roadstead/api"
	"roadstead/code"
	"roadstead/page"
)

// none is the number of no page.
const none = -1

// Get is a key's value, page by page from the root; false: it has none.
func Get(pages [][]byte, key string) ([]byte, bool, api.Errno) {
	at := len(pages) - 1
	above := 0 // the level of the page that led here: there is none to the root
	for at > none {
		level, l, e := page.Decode(pages[at])
		if e != api.OK {
			return nil, false, e
		}
		if above > 0 && level != above-1 {
			break
		}
		if level == 0 {
			value, ok := find(l, key)
			return value, ok, api.OK
		}
		at, above = below(l, key, at), level
	}
	return nil, false, api.ErrForm
}

// Rows are all of a tree.
func Rows(pages [][]byte) ([]api.Row, api.Errno) {
	var l []api.Row
	for _, p := range pages {
		level, some, e := page.Decode(p)
		if e != api.OK {
			return nil, e
		}
		// Of more rows than there may be there is no tree: so no further ones need be kept, however many pages there are.
		if level == 0 && len(l) <= api.MaxRows {
			l = append(l, some...)
		}
	}
	same, ok := Build(l)
	if !ok || !slices.EqualFunc(same, pages, bytes.Equal) {
		return nil, api.ErrForm
	}
	return l, api.OK
}

// Scan are those rows of a tree from one key on, and ahead of another one, if that is not empty.
func Scan(pages [][]byte, from, to string) ([]api.Row, api.Errno) {
	l, e := Rows(pages)
	if e != api.OK {
		return nil, e
	}
	var some []api.Row
	for _, r := range l {
		if r.Key >= from && (to == "" || r.Key < to) {
			some = append(some, r)
		}
	}
	return some, api.OK
}

// find is the value of the row of a key; false: there is none.
func find(l []api.Row, key string) ([]byte, bool) {
	for _, r := range l {
		if r.Key == key {
			return r.Value, true
		}
	}
	return nil, false
}

// below is the number of the page that the rows of another one, numbered at, lead to for a key. It is none, if that does not lie ahead: so every search ends.
func below(l []api.Row, key string, at int) int {
	if len(l) == 0 {
		return none
	}
	value := l[max(page.Find(l, key), 0)].Value
	n, end, e := code.GetNum(value, 0)
	if e != api.OK || end < len(value) || n >= at {
		return none
	}
	return n
}
