package log_test

import (
	"maps"
	"math/rand"
	"slices"
	"strconv"
	"strings"
	"testing"

	"roadstead/api"
	"roadstead/log"
)

// same says whether rows have the same keys and values.
func same(a, b []api.Row) bool {
	return slices.EqualFunc(a, b, func(x, y api.Row) bool { return x.Key == y.Key && string(x.Value) == string(y.Value) })
}

// listed are rows, of texts as a=1.
func listed(s string) []api.Row {
	var l []api.Row
	for _, x := range strings.Fields(s) {
		key, value, _ := strings.Cut(x, "=")
		l = append(l, row(key, value))
	}
	return l
}

// changed are changes, of texts as a=1, or a alone, if it is gone.
func changed(s string) []api.Change {
	var l []api.Change
	for _, x := range strings.Fields(s) {
		if key, value, ok := strings.Cut(x, "="); ok {
			l = append(l, put(key, value))
		} else {
			l = append(l, gone(key))
		}
	}
	return l
}

// told are rows as such a text.
func told(l []api.Row) string {
	var s []string
	for _, r := range l {
		s = append(s, r.Key+"="+string(r.Value))
	}
	return strings.Join(s, " ")
}

func TestApply(t *testing.T) {
	for _, c := range []struct{ l, c, want string }{
		{"", "", ""},
		{"", "a=1", "a=1"},
		{"", "a", ""},
		{"a=1", "", "a=1"},
		{"a=1", "a", ""},
		{"a=1", "b", "a=1"},
		{"a=1", "a=2", "a=2"},
		{"a=1", "a=", "a="},
		{"a=1", "=0", "=0 a=1"},
		{"=0 a=1", "=1", "=1 a=1"},
		{"a=1", "b=2", "a=1 b=2"},
		{"b=1", "a=2", "a=2 b=1"},
		{"a=1 c=3", "b=2", "a=1 b=2 c=3"},
		{"a=1 b=2 c=3", "b", "a=1 c=3"},
		{"a=1 b=2 c=3", "a", "b=2 c=3"},
		{"a=1 b=2 c=3", "c", "a=1 b=2"},
		{"a=1 b=2 c=3", "a b c", ""},
		{"a=1 b=2 c=3", "b=4 c a=5 d=6", "a=5 b=4 d=6"},
		{"", "a=1 a=2", "a=2"},
		{"", "a=1 a", ""},
		{"a=1", "a a=2", "a=2"},
		{"a=1", "a a a=2 a=3 b=1 b", "a=3"},
		{"", "c=3 a=1 b=2", "a=1 b=2 c=3"},
		{"a=1 aa=2 b=3", "ab=4 aaa=5 A=6", "A=6 a=1 aa=2 aaa=5 ab=4 b=3"},
		{"\x7f=1 \xff=3", "\x80=2 \xc3\xa9=4", "\x7f=1 \x80=2 \xc3\xa9=4 \xff=3"},
		{"10=a 9=b", "11=c 8=d", "10=a 11=c 8=d 9=b"},
	} {
		if got := told(log.Apply(listed(c.l), changed(c.c))); got != c.want {
			t.Errorf("Apply of %q, %q: %q, not %q", c.l, c.c, got, c.want)
		}
	}
}

// Where rows do not rise, the first row of the key is looked for, wherever it stands; then the first one above.
func TestApplyNotRising(t *testing.T) {
	for _, c := range []struct{ l, c, want string }{
		{"c=3 a=1 b=2", "", "c=3 a=1 b=2"},
		{"c=3 a=1 b=2", "a=4", "c=3 a=4 b=2"},
		{"c=3 a=1 b=2", "b=4", "c=3 a=1 b=4"},
		{"c=3 a=1 b=2", "c=4", "c=4 a=1 b=2"},
		{"c=3 a=1 b=2", "a", "c=3 b=2"},
		{"c=3 a=1 b=2", "b", "c=3 a=1"},
		{"c=3 a=1 b=2", "c", "a=1 b=2"},
		{"c=3 a=1 b=2", "aa=4", "aa=4 c=3 a=1 b=2"},
		{"c=3 a=1 b=2", "d=4", "c=3 a=1 b=2 d=4"},
		{"c=3 a=1 e=5 b=2", "d=4", "c=3 a=1 d=4 e=5 b=2"},
		{"c=3 a=1 e=5 b=2", "d=4 d d=6 b", "c=3 a=1 d=6 e=5"},
		{"aab=1 a=2", "aa=4", "aa=4 aab=1 a=2"},
		{"a=1 a=2 b=3", "a", "a=2 b=3"},
		{"a=1 a=2 b=3", "a=4", "a=4 a=2 b=3"},
		{"b=1 a=2 b=3", "b", "a=2 b=3"},
		{"b=1 a=2 b=3", "b=4", "b=4 a=2 b=3"},
		{"d=4 c=3 b=2 a=1", "a b c d", ""},
		{"d=4 c=3 b=2 a=1", "e", "d=4 c=3 b=2 a=1"},
	} {
		if got := told(log.Apply(listed(c.l), changed(c.c))); got != c.want {
			t.Errorf("Apply of %q, %q: %q, not %q", c.l, c.c, got, c.want)
		}
	}
}

// How long keys and values are, and how many, is of no matter to Apply and Diff.
func TestApplyLong(t *testing.T) {
	k, v := strings.Repeat("k", 1000), strings.Repeat("v", 100000)
	l := log.Apply(listed("a=1 z=2"), []api.Change{put(k, v)})
	if !same(l, []api.Row{row("a", "1"), row(k, v), row("z", "2")}) {
		t.Error("Apply: a long key and value")
	}
	if c := log.Diff(listed("a=1 z=2"), l); !sameChanges(c, []api.Change{put(k, v)}) {
		t.Error("Diff: a long key and value")
	}
	var up, down []api.Change
	var want []api.Row
	for i := range 2 * api.MaxRows {
		key := strconv.Itoa(100000 + i)
		up, down = append(up, put(key, key)), append(down, put(key, key))
		want = append(want, row(key, key))
	}
	slices.Reverse(down)
	if !same(log.Apply(nil, up), want) || !same(log.Apply(nil, down), want) || !same(log.Apply(want, down), want) {
		t.Error("Apply: many changes")
	}
	if !sameChanges(log.Diff(nil, want), up) || len(log.Diff(want, want)) != 0 {
		t.Error("Diff: many rows")
	}
}

// Of what is gone the value counts for nothing.
func TestApplyGoneWithValue(t *testing.T) {
	odd := []api.Change{{Key: "a", Value: []byte("9"), Gone: true}, {Key: "x", Value: []byte("9"), Gone: true}}
	if got := told(log.Apply(listed("a=1 b=2"), odd)); got != "b=2" {
		t.Errorf("Apply: %q", got)
	}
}

func TestDiff(t *testing.T) {
	for _, c := range []struct{ from, to, want string }{
		{"", "", ""},
		{"", "a=1", "a=1"},
		{"a=1", "", "a"},
		{"a=1", "a=1", ""},
		{"a=1", "a=2", "a=2"},
		{"a=1", "a=", "a="},
		{"a=", "a=1", "a=1"},
		{"a=", "a=", ""},
		{"", "=", "="},
		{"a=1", "b=1", "a b=1"},
		{"b=1", "a=1", "a=1 b"},
		{"a=1 b=2 c=3", "a=1 c=3", "b"},
		{"a=1 c=3", "a=1 b=2 c=3", "b=2"},
		{"a=1 b=2 c=3", "b=2", "a c"},
		{"b=2", "a=1 b=2 c=3", "a=1 c=3"},
		{"b=2", "a=1 b=3 c=3", "a=1 b=3 c=3"},
		{"a=1 b=2 c=3", "d=4 e=5", "a b c d=4 e=5"},
		{"d=4 e=5", "a=1 b=2 c=3", "a=1 b=2 c=3 d e"},
		{"a=1 c=3 e=5", "b=2 d=4 f=6", "a b=2 c d=4 e f=6"},
		{"a=1 b=2", "a=11 b=2", "a=11"},
		{"a=11", "a=1", "a=1"},
		{"10=a 9=b", "10=a 11=c 9=d", "11=c 9=d"},
		{"\x7f=1 \xff=3", "\x80=2 \xff=3", "\x7f \x80=2"},
		{"a=1 aa=2", "a=1 ab=2", "aa ab=2"},
	} {
		got := log.Diff(listed(c.from), listed(c.to))
		if !sameChanges(got, changed(c.want)) {
			t.Errorf("Diff of %q, %q: %v, not %q", c.from, c.to, got, c.want)
		}
		for _, x := range got {
			if x.Gone && len(x.Value) != 0 {
				t.Errorf("Diff of %q, %q: what is gone has the value %q", c.from, c.to, x.Value)
			}
		}
	}
	if c := log.Diff([]api.Row{{}}, nil); !sameChanges(c, []api.Change{gone("")}) {
		t.Errorf("Diff: a key without bytes is gone: %v", c)
	}
	if c := log.Diff([]api.Row{{Key: "a"}}, []api.Row{{Key: "a", Value: []byte{}}}); len(c) != 0 {
		t.Errorf("Diff: a value that is nil, and one without bytes: %v", c)
	}
	if c := log.Diff(nil, []api.Row{{}}); !sameChanges(c, []api.Change{{}}) {
		t.Errorf("Diff: a row of nothing: %v", c)
	}
}

// Rows that do not rise: there is an end.
func TestDiffEnds(t *testing.T) {
	lists := []string{"", "a=1", "b=2 a=1", "a=1 a=1", "a=1 a=2 a=3", "c=1 a=2 b=3 a=4", "z=1 y=2 x=3 w=4"}
	for _, from := range lists {
		for _, to := range lists {
			log.Diff(listed(from), listed(to))
		}
	}
}

// By a map: what there is of each key behind all changes; and from any rows to any others the changes lead, and no more of them than keys that differ.
func TestDraws(t *testing.T) {
	draw := rand.New(rand.NewSource(1))
	for range 3000 {
		keys := 1 + draw.Intn(30)
		m := map[string]string{}
		from := rising(m)
		for range 3 {
			var c []api.Change
			was := maps.Clone(m)
			for range draw.Intn(2 * keys) {
				key, value := strconv.Itoa(draw.Intn(keys)), strconv.Itoa(draw.Intn(3))
				if draw.Intn(3) == 0 {
					c = append(c, gone(key))
					delete(m, key)
				} else {
					c = append(c, put(key, value))
					m[key] = value
				}
			}
			to := log.Apply(from, c)
			if !same(to, rising(m)) {
				t.Fatalf("Apply of %q, %v: %q, not %q", told(from), c, told(to), told(rising(m)))
			}
			d := log.Diff(from, to)
			if !slices.IsSortedFunc(d, func(a, b api.Change) int { return strings.Compare(a.Key, b.Key) }) || len(d) != differ(was, m) {
				t.Fatalf("Diff of %q, %q: %v", told(from), told(to), d)
			}
			if !same(log.Apply(from, d), to) || !same(log.Apply(to, log.Diff(to, from)), from) || len(log.Diff(to, to)) != 0 {
				t.Fatalf("Diff of %q, %q: %v leads elsewhere", told(from), told(to), d)
			}
			from = to
		}
	}
}

// rising are a map's rows by rising keys.
func rising(m map[string]string) []api.Row {
	var l []api.Row
	for _, key := range slices.Sorted(maps.Keys(m)) {
		l = append(l, row(key, m[key]))
	}
	return l
}

// differ is how many keys two maps have otherwise.
func differ(a, b map[string]string) int {
	n := 0
	for key, v := range a {
		if w, ok := b[key]; !ok || w != v {
			n++
		}
	}
	for key := range b {
		if _, ok := a[key]; !ok {
			n++
		}
	}
	return n
}

// Nothing handed in is changed, kept, or read behind its length; what comes out is new.
func TestApplyKeepsNothing(t *testing.T) {
	const has, changes = "a=1 b=2 c=3 d=4 e=5", "b c=6 bb=7 f=8 behind=9"
	for _, c := range []struct {
		n    int // how many of the changes
		want string
	}{
		{0, "a=1 b=2 c=3 d=4"},
		{1, "a=1 c=3 d=4"},
		{2, "a=1 c=6 d=4"},
		{3, "a=1 bb=7 c=6 d=4"},
		{4, "a=1 bb=7 c=6 d=4 f=8"},
	} {
		l, x := listed(has), changed(changes)
		got := log.Apply(l[:4], x[:c.n])
		again := log.Apply(l[:4], x[:c.n])
		if told(got) != c.want || told(l) != has || !sameChanges(x, changed(changes)) {
			t.Errorf("Apply of %d: %q, and %q is left", c.n, told(got), told(l))
		}
		_ = append(again, row("x", "y"))
		for i := range again {
			again[i].Key = "x"
			_ = append(again[i].Value, 'x')
		}
		for i := range l {
			l[i].Key = "y"
		}
		for i := range x {
			x[i].Key = "z"
		}
		if told(got) != c.want {
			t.Errorf("Apply of %d: rows share memory: %q", c.n, told(got))
		}
	}
	value := []byte("12345678")
	got := log.Apply([]api.Row{{Key: "a", Value: value[:2]}, {Key: "c"}}, []api.Change{{Key: "b", Value: value[:4]}, {Key: "c", Value: value[:6]}})
	for _, r := range got {
		_ = append(r.Value, 'x')
	}
	if string(value) != "12345678" || told(got) != "a=12 b=1234 c=123456" {
		t.Errorf("Apply: what lies behind a value is handed out: %q, %q", value, told(got))
	}
}

func TestDiffKeepsNothing(t *testing.T) {
	from, to := listed("a=1 b=2 c=3 z=9"), listed("b=4 c=3 d=5 y=8")
	got := log.Diff(from[:3], to[:3])
	again := log.Diff(from[:3], to[:3])
	want := changed("a b=4 d=5")
	if !sameChanges(got, want) || told(from) != "a=1 b=2 c=3 z=9" || told(to) != "b=4 c=3 d=5 y=8" {
		t.Fatalf("Diff: %v, or rows are others", got)
	}
	clear(again)
	clear(from)
	clear(to)
	if !sameChanges(got, want) {
		t.Errorf("Diff: changes share memory: %v", got)
	}
	value := []byte("12345678")
	for _, c := range log.Diff(nil, []api.Row{{Key: "a", Value: value[:2]}}) {
		_ = append(c.Value, 'x')
	}
	if string(value) != "12345678" {
		t.Errorf("Diff: what lies behind a value is handed out: %q", value)
	}
}
