package two_test

import (
	"math/rand"
	"regexp"
	"slices"
	"strconv"
	"testing"

	"roadstead/api"
	"roadstead/two"
)

// kept is a row, whose key is taken apart, and whose value is taken as texts and numbers.
type kept struct {
	table   string
	id, seq int
	value   []byte
	wrong   bool
}

// num is the next number: the longest way to write one is not taken.
func (k *kept) num() int {
	n := 0
	for i, b := range k.value {
		n += int(b&127) << (7 * i)
		if b < 128 {
			k.value = k.value[i+1:]
			k.wrong = k.wrong || n > 1<<53 || i > 0 && b == 0
			return n
		}
		if i == 7 {
			break
		}
	}
	k.wrong = true
	return 0
}

// text is the next text.
func (k *kept) text(least, most int) string {
	n := k.num()
	if k.wrong || n < least || n > most || n > len(k.value) {
		k.wrong = true
		return ""
	}
	s := string(k.value[:n])
	k.value = k.value[n:]
	return s
}

// over says whether a row is right, and nothing of it is left.
func (k *kept) over() bool {
	return !k.wrong && len(k.value) == 0
}

// aKey is what a row's key looks like: where one is of a whole subscription, it has no Seq.
var aKey = regexp.MustCompile(`^2(?:([ans])([0-9]{10})(0{10})|([bqx])([0-9]{10})([0-9]{10}))$`)

// apart are rows taken apart, by tables, and by Seqs; false: a key is none, or they do not rise, or are not of one subscription.
func apart(l []api.Row) (map[string]map[int]*kept, int, bool) {
	all := map[string]map[int]*kept{"a": {}, "b": {}, "n": {}, "q": {}, "s": {}, "x": {}}
	first := 0
	for i, row := range l {
		m := aKey.FindStringSubmatch(row.Key)
		if m == nil || len(row.Key) != 22 || i > 0 && row.Key <= l[i-1].Key {
			return nil, 0, false
		}
		id, _ := strconv.Atoi(m[2] + m[5])
		seq, _ := strconv.Atoi(m[3] + m[6])
		if i == 0 {
			first = id
		}
		if id != first {
			return nil, 0, false
		}
		all[m[1]+m[4]][seq] = &kept{value: row.Value}
	}
	return all, first, true
}

// told is the chapter's Decode, told in another way: table by table, by what each may have.
func told(l []api.Row) (api.Sub, bool) {
	all, id, ok := apart(l)
	if !ok || all["s"][0] == nil || len(all["b"]) != len(all["q"]) {
		return api.Sub{}, false
	}
	s := all["s"][0]
	x := api.Sub{ID: id, Name: s.text(0, 30), Topic: s.text(0, 30), Want: s.text(0, 30), Lease: s.num(), Most: s.num(), Floor: s.num()}
	ok = s.over()
	if n := all["n"][0]; n != nil {
		x.Note = n.text(1, 30)
		ok = ok && n.over()
	}
	if a := all["a"][0]; a != nil {
		many, at := a.num(), x.Floor
		for !a.wrong && len(a.value) > 0 {
			at += a.num()
			x.Acks = append(x.Acks, at)
		}
		ok = ok && a.over() && many > 0 && many == len(x.Acks)
	}
	for seq, q := range all["q"] {
		m, right := message(seq, all["b"][seq], q, all["x"][seq])
		ok = ok && right
		x.Queue = append(x.Queue, m)
		delete(all["x"], seq)
	}
	if !ok || len(all["x"]) > 0 {
		return api.Sub{}, false
	}
	slices.SortFunc(x.Queue, func(a, b api.Message) int { return a.Seq - b.Seq })
	return x, true
}

// message is one, of its body, what it has beside, and what few have, if there is any.
func message(seq int, body, q, extra *kept) (api.Message, bool) {
	if body == nil {
		return api.Message{}, false
	}
	m := api.Message{Seq: seq, Body: body.text(0, 60), Attr: q.text(0, 30), Tries: q.num(), Until: q.num()}
	dead, kind, ok := q.num(), 0, true
	m.Dead = dead == 1
	if extra != nil {
		m.Prio, kind = extra.num(), extra.num()
		ok = extra.over() && (m.Prio > 0 || kind > 0)
	}
	if !ok || !body.over() || !q.over() || dead > 1 || kind > 2 || m.Dead != (kind > 0) {
		return api.Message{}, false
	}
	m.Why = []string{"", "nack", "time"}[kind]
	return m, true
}

// drawn is a subscription, with numbers and texts of all sorts.
func drawn(r *rand.Rand) api.Sub {
	text := func(most int) string {
		b := make([]byte, r.Intn(most+1)*r.Intn(2))
		r.Read(b)
		return string(b)
	}
	num := func() int { return []int{0, 1, r.Intn(300), r.Intn(1<<53 + 1), 1 << 53}[r.Intn(5)] }
	x := api.Sub{ID: r.Intn(1e10), Name: text(30), Topic: text(30), Want: text(30), Lease: num(), Most: num(), Floor: num(), Note: text(30)}
	at := x.Floor
	for range r.Intn(4) {
		at += num()
		x.Acks = append(x.Acks, at)
	}
	seq := r.Intn(3)
	for range r.Intn(4) {
		m := api.Message{Seq: seq, Body: text(60), Attr: text(30), Tries: num(), Until: num(), Prio: num()}
		if r.Intn(2) == 0 {
			m.Dead, m.Why = true, []string{"nack", "time"}[r.Intn(2)]
		}
		x.Queue = append(x.Queue, m)
		seq += 1 + r.Intn(3)*r.Intn(1e9)
	}
	return x
}

// There and back: whatever may be is read as it was.
func TestThereAndBack(t *testing.T) {
	r := rand.New(rand.NewSource(1))
	for range 20000 {
		x := drawn(r)
		l := two.Encode(x)
		if y, e := two.Decode(l); e != api.OK || !equal(x, y) {
			t.Fatalf("%+v: %d, %+v", x, e, y)
		}
		if y, ok := told(l); !ok || !equal(x, y) {
			t.Fatalf("%+v, told in another way: %v, %+v", x, ok, y)
		}
	}
}

// spoil makes one thing of rows another one.
func spoil(r *rand.Rand, l []api.Row) []api.Row {
	i := r.Intn(len(l))
	row := api.Row{Key: l[i].Key, Value: slices.Clone(l[i].Value)}
	signs := []byte(row.Key)
	switch r.Intn(8) {
	case 0:
		return slices.Delete(l, i, i+1)
	case 1:
		j := r.Intn(len(l))
		l[i], l[j] = l[j], l[i]
		return l
	case 2: // a sign of the key
		signs[r.Intn(len(signs))] = "0123abnqsxz "[r.Intn(12)]
	case 3: // its Seq, a little
		signs[len(signs)-1] = '0' + byte(r.Intn(10))
	case 4: // its table
		signs[1] = "abnqsx"[r.Intn(6)]
	case 5:
		if len(row.Value) > 0 {
			row.Value[r.Intn(len(row.Value))] = []byte{0, 1, 2, 30, 31, 61, 128, 129, byte(r.Intn(256))}[r.Intn(9)]
		}
	case 6:
		at := r.Intn(len(row.Value) + 1)
		row.Value = slices.Insert(row.Value, at, []byte{0, 1, 2, 128}[r.Intn(4)])
	case 7:
		row.Value = row.Value[:r.Intn(len(row.Value)+1)]
	}
	row.Key = string(signs)
	if r.Intn(3) > 0 {
		l = slices.Delete(l, i, i+1)
	}
	l = append(l, row)
	if r.Intn(9) > 0 {
		slices.SortFunc(l, func(a, b api.Row) int { return slices.Compare([]byte(a.Key), []byte(b.Key)) })
	}
	return l
}

// What is refused, and what is read, is as it is told in another way; and what is read has the same rows.
func TestSpoilt(t *testing.T) {
	r := rand.New(rand.NewSource(2))
	read := 0
	for n := range 100000 {
		x := drawn(r)
		x.ID %= 9
		l := two.Encode(x)
		for range 1 + r.Intn(2) {
			if len(l) > 0 {
				l = spoil(r, l)
			}
		}
		want, ok := told(l)
		y, e := two.Decode(l)
		if ok != (e == api.OK) || !ok && e != api.ErrForm || !equal(y, want) {
			t.Fatalf("%d: %q: %d, %+v; told in another way: %v, %+v", n, l, e, y, ok, want)
		}
		if ok {
			read++
			if !equalRows(two.Encode(y), l) {
				t.Fatalf("%d: %q: other rows, %q", n, l, two.Encode(y))
			}
		}
	}
	if read < 5000 || read > 95000 {
		t.Errorf("%d of them are read", read)
	}
}
