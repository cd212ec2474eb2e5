package one

import (
	"bytes"
	"cmp"
	"slices"

	"roadstead/api"
	"roadstead/code"
	"roadstead/state"
)

// Decode is the subscription of which rows are Encode.
func Decode(l []api.Row) (api.Sub, api.Errno) {
	if !rising(l) {
		return api.Sub{}, api.ErrForm
	}
	var r reader
	tables := r.tables()
	for _, x := range l {
		_, table, id, seq, _ := state.Parts(x.Key)
		read, ok := tables[table]
		if !ok {
			return api.Sub{}, api.ErrForm
		}
		r.x.ID = id
		read(seq, &form{b: x.Value})
	}
	// The readers let all pass that is wrong with their rows: it shows here, for then what they read has other rows.
	if !same(l, Encode(r.x)) {
		return api.Sub{}, api.ErrForm
	}
	return r.x, api.OK
}

// reader is a subscription of which rows are read, one behind the other.
type reader struct {
	x api.Sub
}

// tables are what reads a row of each table: its Seq, and its form.
func (r *reader) tables() map[byte]func(seq int, f *form) {
	return map[byte]func(seq int, f *form){
		ofAcks:   r.ack,
		ofNote:   r.note,
		ofQueue:  r.message,
		ofSub:    r.sub,
		ofWant:   r.want,
		ofExtras: r.extra,
	}
}

// ack reads that a message was acknowledged.
func (r *reader) ack(seq int, _ *form) {
	r.x.Acks = append(r.x.Acks, seq)
}

// note reads the note.
func (r *reader) note(_ int, f *form) {
	r.x.Note = f.text(api.MaxTopic)
}

// message reads a message, but what few have.
func (r *reader) message(seq int, f *form) {
	m := api.Message{Seq: seq}
	m.Body, m.Attr = f.text(api.MaxBody), f.text(api.MaxTopic)
	m.Tries, m.Until, m.Dead = f.num(), f.num(), f.num() == 1
	r.x.Queue = append(r.x.Queue, m)
}

// sub reads what each subscription has.
func (r *reader) sub(_ int, f *form) {
	r.x.Name, r.x.Topic = f.text(api.MaxTopic), f.text(api.MaxTopic)
	r.x.Lease, r.x.Most, r.x.Floor = f.num(), f.num(), f.num()
}

// want reads what is wanted.
func (r *reader) want(_ int, f *form) {
	r.x.Want = f.text(api.MaxTopic)
}

// extra reads what few messages have.
func (r *reader) extra(seq int, f *form) {
	i, ok := slices.BinarySearchFunc(r.x.Queue, seq, func(m api.Message, seq int) int { return cmp.Compare(m.Seq, seq) })
	if ok {
		r.x.Queue[i].Prio, r.x.Queue[i].Why = f.num(), why(f.num())
	}
}

// form are bytes from which texts and numbers are taken, one behind the other.
type form struct {
	b  []byte
	at int
}

// text takes a text, of so many bytes at most; if there is none, it is empty, which no bytes at this place say.
func (f *form) text(most int) string {
	s, at, _ := code.GetText(f.b, f.at, most)
	f.at = at
	return s
}

// num takes a number; if there is none, it is nought, which no bytes at this place say.
func (f *form) num() int {
	n, at, _ := code.GetNum(f.b, f.at)
	f.at = at
	return n
}

// rising says whether the keys of rows rise.
func rising(l []api.Row) bool {
	for i := 1; i < len(l); i++ {
		if l[i-1].Key >= l[i].Key {
			return false
		}
	}
	return true
}

// same says whether rows are the same.
func same(a, b []api.Row) bool {
	return slices.EqualFunc(a, b, func(x, y api.Row) bool { return x.Key == y.Key && bytes.Equal(x.Value, y.Value) })
}
