package two

import (
	"bytes"
	"cmp"
	"slices"

	"roadstead/api"
	"roadstead/code"
	"roadstead/state"
)

// Decode is the subscription of which rows are Encode.
func Decode(l []api.Row) (api.Sub, api.Errno) {
	if !rising(l) {
		return api.Sub{}, api.ErrForm
	}
	var x api.Sub
	all := tables()
	for _, row := range l {
		_, sign, id, seq, _ := state.Parts(row.Key)
		x.ID = id
		for _, t := range all {
			if t.sign == sign {
				t.read(&x, seq, &form{b: row.Value})
			}
		}
	}
	// Whatever is wrong with a row is let pass up to here, and shows now: what was read has other rows.
	if !same(l, Encode(x)) {
		return api.Sub{}, api.ErrForm
	}
	return x, api.OK
}

// readAcks reads how far each acknowledgement is above the one ahead: which ones they are, the floor tells, which is read behind them.
func readAcks(x *api.Sub, _ int, f *form) {
	// Each has a byte at least, so there are no more than bytes, whatever number is told.
	for range min(f.num(), len(f.b)) {
		x.Acks = append(x.Acks, f.num())
	}
}

// readBody reads the body of a message.
func readBody(x *api.Sub, seq int, f *form) {
	x.Queue = append(x.Queue, api.Message{Seq: seq, Body: f.text(api.MaxBody)})
}

// readNote reads the note.
func readNote(x *api.Sub, _ int, f *form) {
	x.Note = f.text(api.MaxTopic)
}

// readMessage reads what a message has beside its body.
func readMessage(x *api.Sub, seq int, f *form) {
	if m := message(x, seq); m != nil {
		m.Attr = f.text(api.MaxTopic)
		m.Tries, m.Until, m.Dead = f.num(), f.num(), f.num() == 1
	}
}

// readSub reads what each subscription has, and makes acknowledgements of the gaps that were read.
func readSub(x *api.Sub, _ int, f *form) {
	x.Name, x.Topic, x.Want = f.text(api.MaxTopic), f.text(api.MaxTopic), f.text(api.MaxTopic)
	x.Lease, x.Most, x.Floor = f.num(), f.num(), f.num()
	above := heights(x.Floor)
	for i, gap := range x.Acks {
		x.Acks[i] = above(gap)
	}
}

// readExtra reads what few messages have.
func readExtra(x *api.Sub, seq int, f *form) {
	if m := message(x, seq); m != nil {
		m.Prio, m.Why = f.num(), why(f.num())
	}
}

// message is the one of a Seq, whose body was read; nil, if there is none.
func message(x *api.Sub, seq int) *api.Message {
	i, ok := slices.BinarySearchFunc(x.Queue, seq, func(m api.Message, seq int) int { return cmp.Compare(m.Seq, seq) })
	if !ok {
		return nil
	}
	return &x.Queue[i]
}

// heights tells of gaps, one behind the other, which number is so far above the one ahead, the first above a given one.
func heights(ahead int) func(gap int) int {
	return func(gap int) int {
		// A number that no int holds comes out below the one ahead: of that, gaps tells another gap, so it is seen.
		ahead += gap
		return ahead
	}
}

// form are bytes from which texts and numbers are taken, one behind the other.
type form struct {
	b  []byte
	at int
}

// text takes a text, of so many bytes at most; if there is none, it is empty, which no bytes at this place say.
func (f *form) text(most int) string {
	s, at, _ := code.GetText(f.b, f.at, most)
	f.at = at
	return s
}

// num takes a number; if there is none, it is nought, which no bytes at this place say.
func (f *form) num() int {
	n, at, _ := code.GetNum(f.b, f.at)
	f.at = at
	return n
}

// rising says whether the keys of rows rise.
func rising(l []api.Row) bool {
	for i := 1; i < len(l); i++ {
		if l[i-1].Key >= l[i].Key {
			return false
		}
	}
	return true
}

// same says whether rows are the same.
func same(a, b []api.Row) bool {
	return slices.EqualFunc(a, b, func(x, y api.Row) bool { return x.Key == y.Key && bytes.Equal(x.Value, y.Value) })
}
