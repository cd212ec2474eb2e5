package topic_test

import (
	"math/rand"
	"regexp"
	"strings"
	"testing"

	"roadstead/topic"
)

// pairs are what Attrs asks for, but that first words rise.
var pairs = regexp.MustCompile(`\A([a-z0-9]+=[a-z0-9]+(,[a-z0-9]+=[a-z0-9]+)*)?\z`)

// attrs says whether what stands beside a message may be.
func attrs(s string) bool {
	if len(s) > 30 || !pairs.MatchString(s) {
		return false
	}
	l := strings.Split(s, ",")
	for i := 1; i < len(l); i++ {
		if strings.Split(l[i], "=")[0] <= strings.Split(l[i-1], "=")[0] {
			return false
		}
	}
	return true
}

// wanted says whether all that is wanted is there.
func wanted(want, attr string) bool {
	if !attrs(want) || !attrs(attr) {
		return false
	}
	has := map[string]bool{}
	for _, pair := range strings.Split(attr, ",") {
		has[pair] = true
	}
	for _, pair := range strings.Split(want, ",") {
		if pair != "" && !has[pair] {
			return false
		}
	}
	return true
}

func TestAttrs(t *testing.T) {
	for _, s := range []string{"", "a=1", "a=a", "1=1", "0=0,1=0,a=0", "a=1,b=2", "a=2,b=1", "a=1,b=1", "a=1,aa=1", "aa=1,b=1", "9=1,a=1", "a1=1,aa=1", "10=1,9=1", "x=ab,y=0c,z=9"} {
		if !topic.Attrs(s) {
			t.Errorf("%q: false", s)
		}
	}
	for _, s := range append(no(),
		"a", "=", ",", "a=", "=1", "a==1", "a=1=", "=a=1", "a=1=2", "a=1,", ",a=1", "a=1,,b=1", "a=1,b", "a=1,b=", "a=1,=1", "a,b=1", "a=1;b=1", "a=1, b=1", "a = 1",
		"a=1,a=1", "a=1,a=2", "a=2,a=1", "b=1,a=1", "b=1,a=2", "aa=1,a=1", "b=1,aa=1", "a=1,9=1", "9=1,10=1", "a=1,b=1,a=1", "a=1,c=1,b=1", "b=1,a=1,c=1",
		"A=1", "a=B", "a=+", "a=#", "+=a", "a/b=1", "a=1/2", "a=1/b=2", "a=\n", "a=1\n", "\x00=1", "a=\x00", "a=\xff", "\xff=a", "ä=1", "a=ä", "a=1\u201ab=1", "a\uff1d1",
	) {
		if topic.Attrs(s) {
			t.Errorf("%.40q: true", s)
		}
	}
}

// Of each row of six signs or fewer; each of the signs of a pair, and one that is none.
func TestAttrsOfAll(t *testing.T) {
	for _, s := range all("ab=,1/", 6) {
		if topic.Attrs(s) != attrs(s) {
			t.Fatalf("Attrs(%q): %v", s, !attrs(s))
		}
	}
	for _, s := range all("ab=,", 9) {
		if topic.Attrs(s) != attrs(s) {
			t.Fatalf("Attrs(%q): %v", s, !attrs(s))
		}
	}
}

// A word's signs are a to z and 0 to 9 here, too.
func TestAttrsSigns(t *testing.T) {
	for r := range rune(0x3000) {
		ok := r >= 'a' && r <= 'z' || r >= '0' && r <= '9'
		for _, s := range []string{"a" + string(r) + "=b", "a=b" + string(r) + "b", "a=b,b" + string(r) + "=1", "a=b,b=1" + string(r)} {
			if topic.Attrs(s) != (ok || r < 128 && attrs(s)) {
				t.Fatalf("Attrs(%q): not %v", s, ok)
			}
		}
	}
}

// At most 30 bytes; none is right, too.
func TestAttrsLong(t *testing.T) {
	for n := 1; n < 70; n++ {
		for _, s := range []string{strings.Repeat("a", n) + "=1", "a=" + strings.Repeat("1", n), "a=1,b=" + strings.Repeat("1", n), "a=1," + strings.Repeat("b", n) + "=1"} {
			if ok := len(s) <= 30; topic.Attrs(s) != ok || topic.Wanted(s, s) != ok || topic.Wanted("", s) != ok {
				t.Errorf("%q, of %d bytes: not %v", s, len(s), ok)
			}
		}
	}
	if topic.Attrs("a=" + strings.Repeat("1", 1<<20)) {
		t.Error("of many bytes: true")
	}
}

func TestWanted(t *testing.T) {
	for _, c := range []struct {
		want, attr string
		ok         bool
	}{
		{"", "", true},
		{"", "a=1", true},
		{"", "a=1,b=2", true},
		{"a=1", "", false},
		{"a=1", "a=1", true},
		{"a=1", "a=2", false},
		{"a=1", "b=1", false},
		{"a=1", "1=a", false},
		{"a=1", "a=11", false},
		{"a=11", "a=1", false},
		{"a=1", "aa=1", false},
		{"aa=1", "a=1", false},
		{"a=1", "a=1,b=2", true},
		{"b=2", "a=1,b=2", true},
		{"b=2", "a=1,b=2,c=3", true},
		{"a=2", "a=1,b=2", false},
		{"b=1", "a=1,b=2", false},
		{"a=1,b=2", "a=1", false},
		{"a=1,b=2", "b=2", false},
		{"a=1,b=2", "a=1,b=2", true},
		{"a=1,b=2", "a=1,b=3", false},
		{"a=1,b=2", "a=2,b=2", false},
		{"a=1,c=3", "a=1,b=2,c=3", true},
		{"a=1,b=2,c=3", "a=1,c=3", false},
		{"a", "a=1", false}, // the rest are not both Attrs
		{"a=", "a=1", false},
		{",", "a=1", false},
		{"a=1,", "a=1", false},
		{"a=1,a=1", "a=1", false},
		{"b=2,a=1", "a=1,b=2", false},
		{"a=1,b=2", "b=2,a=1", false},
		{"a=1", "b=2,a=1", false},
		{"a=1", "a=1,a=2", false},
		{"a=1", "a=1,b", false},
		{"a=1", "a=1,", false},
		{"", "a", false},
		{"", ",", false},
		{"", "b=2,a=1", false},
		{"", "a=1,a=1", false},
		{"a", "a", false},
		{"A=1", "A=1", false},
	} {
		if topic.Wanted(c.want, c.attr) != c.ok {
			t.Errorf("Wanted of %q and %q: not %v", c.want, c.attr, c.ok)
		}
	}
	for _, s := range no() {
		if topic.Wanted("", s) || topic.Wanted(s, "") || topic.Wanted(s, s) || topic.Wanted("a=1", s) || topic.Wanted(s, "a=1") {
			t.Errorf("Wanted of %.40q", s)
		}
	}
}

// Of some pairs drawn, right or not, and some of them wanted.
func TestWantedDrawn(t *testing.T) {
	draw := rand.New(rand.NewSource(10))
	yes := 0
	some := func() string {
		var l []string
		for _, word := range []string{"0", "a", "a1", "b", "c", "cc"} {
			if draw.Intn(3) == 0 {
				l = append(l, word+"="+string("12"[draw.Intn(2)]))
			}
		}
		if draw.Intn(20) == 0 {
			draw.Shuffle(len(l), func(i, j int) { l[i], l[j] = l[j], l[i] })
		}
		return strings.Join(l, ",")
	}
	for range 50000 {
		want, attr := some(), some()
		ok := wanted(want, attr)
		if topic.Wanted(want, attr) != ok {
			t.Fatalf("Wanted of %q and %q: not %v", want, attr, ok)
		}
		if ok && want != "" {
			yes++
		}
	}
	if yes < 2000 {
		t.Errorf("only %d are had", yes)
	}
}
