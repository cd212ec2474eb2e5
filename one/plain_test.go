package one_test

import (
	"math/rand"
	"regexp"
	"slices"
	"strconv"
	"testing"

	"roadstead/api"
	"roadstead/one"
)

// kept is a row, whose key is taken apart, and whose value is taken as texts and numbers.
type kept struct {
	table   string
	id, seq int
	value   []byte
	wrong   bool
}

// num is the next number: the longest way to write one is not taken.
func (k *kept) num() int {
	n := 0
	for i, b := range k.value {
		n += int(b&127) << (7 * i)
		if b < 128 {
			k.value = k.value[i+1:]
			k.wrong = k.wrong || n > 1<<53 || i > 0 && b == 0
			return n
		}
		if i == 7 {
			break
		}
	}
	k.wrong = true
	return 0
}

// text is the next text.
func (k *kept) text(least, most int) string {
	n := k.num()
	if k.wrong || n < least || n > most || n > len(k.value) {
		k.wrong = true
		return ""
	}
	s := string(k.value[:n])
	k.value = k.value[n:]
	return s
}

// aKey is what a row's key looks like.
var aKey = regexp.MustCompile(`^1([anqswx])([0-9]{10})([0-9]{10})$`)

// apart are rows taken apart; false: a key is none, or they do not rise, or are not of one subscription.
func apart(l []api.Row) ([]*kept, bool) {
	var all []*kept
	for i, row := range l {
		m := aKey.FindStringSubmatch(row.Key)
		if m == nil || len(row.Key) != 22 || i > 0 && row.Key <= l[i-1].Key {
			return nil, false
		}
		id, _ := strconv.Atoi(m[2])
		seq, _ := strconv.Atoi(m[3])
		if i > 0 && id != all[0].id {
			return nil, false
		}
		all = append(all, &kept{table: m[1], id: id, seq: seq, value: row.Value})
	}
	return all, true
}

// told is the chapter's Decode, told in another way: table by table, by what each may have.
func told(l []api.Row) (api.Sub, bool) {
	all, ok := apart(l)
	if !ok || !slices.ContainsFunc(all, func(k *kept) bool { return k.table == "s" }) {
		return api.Sub{}, false
	}
	x := api.Sub{ID: all[0].id}
	extra := map[int]*kept{}
	for _, k := range all {
		if k.table == "x" {
			extra[k.seq] = k
		}
		if (k.table == "n" || k.table == "s" || k.table == "w") && k.seq != 0 {
			return api.Sub{}, false
		}
	}
	for _, k := range all {
		switch k.table {
		case "a":
			x.Acks = append(x.Acks, k.seq)
		case "n":
			x.Note = k.text(1, 30)
		case "w":
			x.Want = k.text(1, 30)
		case "s":
			x.Name, x.Topic = k.text(0, 30), k.text(0, 30)
			x.Lease, x.Most, x.Floor = k.num(), k.num(), k.num()
		case "q":
			x.Queue = append(x.Queue, message(k, extra[k.seq]))
			delete(extra, k.seq)
		}
		if k.wrong || len(k.value) > 0 {
			return api.Sub{}, false
		}
	}
	return x, len(extra) == 0
}

// message is one, with what few have, if there is any.
func message(k, extra *kept) api.Message {
	m := api.Message{Seq: k.seq, Body: k.text(0, 60), Attr: k.text(0, 30), Tries: k.num(), Until: k.num()}
	dead := k.num()
	m.Dead = dead == 1
	kind := 0
	if extra != nil {
		m.Prio, kind = extra.num(), extra.num()
		k.wrong = k.wrong || extra.wrong || len(extra.value) > 0 || m.Prio == 0 && kind == 0
		extra.value = nil
	}
	k.wrong = k.wrong || dead > 1 || kind > 2 || m.Dead != (kind > 0)
	m.Why = []string{"", "nack", "time"}[min(kind, 2)]
	return m
}

// drawn is a subscription, with numbers and texts of all sorts.
func drawn(r *rand.Rand) api.Sub {
	text := func(most int) string {
		b := make([]byte, r.Intn(most+1)*r.Intn(2))
		r.Read(b)
		return string(b)
	}
	num := func() int { return []int{0, 1, r.Intn(300), r.Intn(1<<53 + 1), 1 << 53}[r.Intn(5)] }
	x := api.Sub{ID: r.Intn(1e10), Name: text(30), Topic: text(30), Want: text(30), Lease: num(), Most: num(), Floor: num(), Note: text(30)}
	seq := 0
	for range r.Intn(4) {
		x.Acks = append(x.Acks, seq)
		seq += 1 + r.Intn(3)*r.Intn(1e9)
	}
	seq = r.Intn(3)
	for range r.Intn(4) {
		m := api.Message{Seq: seq, Body: text(60), Attr: text(30), Tries: num(), Until: num(), Prio: num()}
		if r.Intn(2) == 0 {
			m.Dead, m.Why = true, []string{"nack", "time"}[r.Intn(2)]
		}
		x.Queue = append(x.Queue, m)
		seq += 1 + r.Intn(3)*r.Intn(1e9)
	}
	return x
}

// There and back: whatever may be is read as it was.
func TestThereAndBack(t *testing.T) {
	r := rand.New(rand.NewSource(1))
	for range 20000 {
		x := drawn(r)
		l := one.Encode(x)
		if y, e := one.Decode(l); e != api.OK || !equal(x, y) {
			t.Fatalf("%+v: %d, %+v", x, e, y)
		}
		if y, ok := told(l); !ok || !equal(x, y) {
			t.Fatalf("%+v, told in another way: %v, %+v", x, ok, y)
		}
	}
}

// spoil makes one thing of rows another one.
func spoil(r *rand.Rand, l []api.Row) []api.Row {
	i := r.Intn(len(l))
	row := api.Row{Key: l[i].Key, Value: slices.Clone(l[i].Value)}
	signs := []byte(row.Key)
	switch r.Intn(8) {
	case 0:
		return slices.Delete(l, i, i+1)
	case 1:
		j := r.Intn(len(l))
		l[i], l[j] = l[j], l[i]
		return l
	case 2: // a sign of the key
		signs[r.Intn(len(signs))] = "0129anqswxz "[r.Intn(12)]
	case 3: // its Seq, a little
		signs[len(signs)-1] = '0' + byte(r.Intn(10))
	case 4: // its table
		signs[1] = "anqswx"[r.Intn(6)]
	case 5:
		if len(row.Value) > 0 {
			row.Value[r.Intn(len(row.Value))] = []byte{0, 1, 2, 30, 31, 61, 128, 129, byte(r.Intn(256))}[r.Intn(9)]
		}
	case 6:
		at := r.Intn(len(row.Value) + 1)
		row.Value = slices.Insert(row.Value, at, []byte{0, 1, 2, 128}[r.Intn(4)])
	case 7:
		row.Value = row.Value[:r.Intn(len(row.Value)+1)]
	}
	row.Key = string(signs)
	if r.Intn(3) > 0 {
		l = slices.Delete(l, i, i+1)
	}
	l = append(l, row)
	if r.Intn(9) > 0 {
		slices.SortFunc(l, func(a, b api.Row) int { return slices.Compare([]byte(a.Key), []byte(b.Key)) })
	}
	return l
}

// What is refused, and what is read, is as it is told in another way; and what is read has the same rows.
func TestSpoilt(t *testing.T) {
	r := rand.New(rand.NewSource(2))
	read := 0
	for n := range 100000 {
		x := drawn(r)
		x.ID %= 9
		l := one.Encode(x)
		for range 1 + r.Intn(2) {
			if len(l) > 0 {
				l = spoil(r, l)
			}
		}
		want, ok := told(l)
		y, e := one.Decode(l)
		if ok != (e == api.OK) || !ok && (e != api.ErrForm || !equal(y, api.Sub{})) || ok && !equal(y, want) {
			t.Fatalf("%d: %q: %d, %+v; told in another way: %v, %+v", n, l, e, y, ok, want)
		}
		if ok {
			read++
			if !equal(one.Encode(y), l) {
				t.Fatalf("%d: %q: other rows, %q", n, l, one.Encode(y))
			}
		}
	}
	if read < 10000 || read > 90000 {
		t.Errorf("%d of them are read", read)
	}
}
