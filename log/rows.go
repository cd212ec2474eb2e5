package log

import (
	"bytes"
	"iter"
	"slices"
	"strings"

	"roadstead/api"
)

// Apply are rows behind changes, one after the other.
func Apply(l []api.Row, c []api.Change) []api.Row {
	var rows []api.Row
	for _, r := range l {
		rows = append(rows, row(r.Key, r.Value))
	}
	find := place
	if slices.IsSortedFunc(rows, byKey) {
		find = halve // changes keep the order: so it is asked for but once
	}
	for _, x := range c {
		at, ok := find(rows, x.Key)
		switch {
		case x.Gone && ok:
			rows = slices.Delete(rows, at, at+1)
		case x.Gone:
		case ok:
			rows[at] = row(x.Key, x.Value)
		default:
			rows = slices.Insert(rows, at, row(x.Key, x.Value))
		}
	}
	return rows
}

// Diff are the changes from some rows to others, both by rising keys.
func Diff(from, to []api.Row) []api.Change {
	var c []api.Change
	for old, now := range pairs(from, to) {
		switch {
		case now == nil:
			c = append(c, api.Change{Key: old.Key, Gone: true})
		case old == nil || !bytes.Equal(old.Value, now.Value):
			c = append(c, api.Change{Key: now.Key, Value: slices.Clone(now.Value)})
		}
	}
	return c
}

// pairs tells, key by key, the rows that two lists have of it: nil, where one has none.
func pairs(from, to []api.Row) iter.Seq2[*api.Row, *api.Row] {
	return func(yield func(old, now *api.Row) bool) {
		for i, k := 0, 0; i < len(from) || k < len(to); {
			var old, now *api.Row
			if k == len(to) || i < len(from) && from[i].Key <= to[k].Key {
				old = &from[i]
			}
			if i == len(from) || k < len(to) && to[k].Key <= from[i].Key {
				now = &to[k]
			}
			if old != nil {
				i++
			}
			if now != nil {
				k++
			}
			if !yield(old, now) {
				return
			}
		}
	}
}

// place is where the row of a key stands; or, with false, where there is to be one: ahead of the first whose key is above.
func place(l []api.Row, key string) (int, bool) {
	at := slices.IndexFunc(l, func(r api.Row) bool { return r.Key == key })
	if at >= 0 {
		return at, true
	}
	at = slices.IndexFunc(l, func(r api.Row) bool { return r.Key > key })
	if at < 0 {
		at = len(l)
	}
	return at, false
}

// halve is place of rows in order.
func halve(l []api.Row, key string) (int, bool) {
	return slices.BinarySearchFunc(l, key, func(r api.Row, key string) int { return strings.Compare(r.Key, key) })
}

// byKey says in which order two rows stand.
func byKey(a, b api.Row) int {
	return strings.Compare(a.Key, b.Key)
}

// row is one of that key and value, in memory of its own.
func row(key string, value []byte) api.Row {
	return api.Row{Key: key, Value: slices.Clone(value)}
}
