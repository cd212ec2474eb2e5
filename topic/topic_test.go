package topic_test

import (
	"fmt"
	"math/rand"
	"regexp"
	"strings"
	"testing"

	"roadstead/topic"
)

// What topics and patterns are, as the chapter has it, told in another way than the package does.
var (
	topics   = regexp.MustCompile(`\A[a-z0-9]+(/[a-z0-9]+)*\z`)
	patterns = regexp.MustCompile(`\A(([a-z0-9]+|\+)/)*([a-z0-9]+|\+|#)\z`)
)

// right says whether a topic may be.
func right(s string) bool { return len(s) <= 30 && topics.MatchString(s) }

// pattern says whether a pattern may be.
func pattern(s string) bool { return len(s) <= 30 && patterns.MatchString(s) }

// matcher finds, as a regular expression, the topics that a right pattern has.
func matcher(p string) *regexp.Regexp {
	s := strings.ReplaceAll(p, "+", "[a-z0-9]+")
	return regexp.MustCompile(`\A` + strings.ReplaceAll(s, "#", "[a-z0-9/]+") + `\z`)
}

// all are all texts of some signs, up to so many.
func all(signs string, most int) []string {
	l := []string{""}
	for from := 0; most > 0; most-- {
		n := len(l)
		for _, s := range l[from:] {
			for _, c := range signs {
				l = append(l, s+string(c))
			}
		}
		from = n
	}
	return l
}

// no are texts that are neither a topic, nor a pattern, nor pairs.
func no() []string {
	return []string{
		" ", "/", "//", "a/", "/a", "a//b", "a/b/", "/a/b", "a b", " a", "a ", "a\n", "\na", "a/\n", "a\x00", "\x00",
		"A", "a/B", "Z", "a/b.c", "a-b", "a_b", "a\\b", "a:b", "*", "a/*", "?", "{", "`", "@", "a/{",
		"ä", "a/ä", "\u0430", "\u0430/b", "\uff41", "\u0661", "a/\u0967", "\u2215", "a\u2215b", "a\u2044b", "\xff", "a\xffb", "a/\xc3", "\xe2\x88", "\ufffd", "\u0161", "\U0001d51e",
		strings.Repeat("a", 31), strings.Repeat("a", 1<<20), strings.Repeat("a/", 15) + "b", strings.Repeat("/", 30), "a" + strings.Repeat("/", 29), strings.Repeat("a/", 1<<20) + "b",
	}
}

// Words, with a slash between: of each row of six signs or fewer.
func TestRightOfAll(t *testing.T) {
	for _, s := range all("a0/+#z", 6) {
		if topic.Right(s) != right(s) {
			t.Fatalf("Right(%q): %v", s, !right(s))
		}
	}
}

// Words, or signs in place of them: of each row of six signs or fewer.
func TestPatternOfAll(t *testing.T) {
	for _, s := range all("a9/+#,", 6) {
		if topic.Pattern(s) != pattern(s) {
			t.Fatalf("Pattern(%q): %v", s, !pattern(s))
		}
	}
}

// A word's signs are a to z and 0 to 9, of all bytes, and of all runes; wherever they stand.
func TestSigns(t *testing.T) {
	for r := range rune(0x11000) {
		ok := r >= 'a' && r <= 'z' || r >= '0' && r <= '9'
		for _, s := range []string{"x" + string(r), string(r) + "x", "x/" + string(r) + "y/z", "x/y" + string(r)} {
			if r == '/' {
				ok = right(s)
			}
			if topic.Right(s) != ok || topic.Pattern(s) != ok {
				t.Fatalf("Right, Pattern of %q: not %v", s, ok)
			}
		}
	}
	for b := range 256 {
		s := "a/b" + string([]byte{byte(b)}) + "c/d"
		if topic.Right(s) != right(s) || topic.Pattern(s) != pattern(s) {
			t.Errorf("%q: Right %v, Pattern %v", s, !right(s), !pattern(s))
		}
	}
}

// Of 1 to 30 bytes.
func TestLong(t *testing.T) {
	for n := range 70 {
		ok := n >= 1 && n <= 30
		one := strings.Repeat("a", n)
		if topic.Right(one) != ok || topic.Pattern(one) != ok {
			t.Errorf("of %d bytes: not %v", n, ok)
		}
		if many := strings.Repeat("b/", n) + "c"; topic.Right(many) != (n < 15) || topic.Pattern(many) != (n < 15) {
			t.Errorf("of %d bytes: not %v", len(many), n < 15)
		}
		if signs := strings.Repeat("+/", n) + "#"; topic.Right(signs) || topic.Pattern(signs) != (n < 15) {
			t.Errorf("of %d bytes: not %v", len(signs), n < 15)
		}
		if topic.Match(one, one) != ok {
			t.Errorf("Match of %d bytes: not %v", n, ok)
		}
	}
}

func TestRefused(t *testing.T) {
	for _, s := range append(no(), "") {
		if topic.Right(s) || topic.Pattern(s) {
			t.Errorf("%.40q is a topic, or a pattern", s)
		}
		for _, p := range []string{"#", "+", "+/+", "a", "a/#", s} {
			if topic.Match(p, s) || topic.Match(s, p) || topic.Match(s, "a") || topic.Match(s, "a/b") {
				t.Errorf("Match of %q and %.40q", p, s)
			}
		}
	}
	for _, p := range []string{"#/a", "#/#", "#/+", "a/#/b", "##", "a#", "#a", "a/b#", "a/#b", "++", "a+", "+a", "a/+b/c", "a/b+", "+#", "+/", "/+", "#/", "/#", "a//#"} {
		if topic.Pattern(p) || topic.Right(p) {
			t.Errorf("%q is a topic, or a pattern", p)
		}
		for _, s := range []string{"a", "a/b", "a/b/c", p} {
			if topic.Match(p, s) || topic.Match(s, p) {
				t.Errorf("Match of %q and %q", p, s)
			}
		}
	}
	for _, p := range []string{"+", "#", "a/+", "a/#", "+/b", "+/#", "+/+/+"} {
		if topic.Right(p) || !topic.Pattern(p) {
			t.Errorf("%q is a topic, or no pattern", p)
		}
		if topic.Match(p, p) || topic.Match("#", p) {
			t.Errorf("%q is a topic, of itself or of all", p)
		}
	}
}

func TestMatch(t *testing.T) {
	for _, c := range []struct {
		p, topic string
		want     bool
	}{
		{"a/+", "a/b", true}, // the chapter's
		{"a/#", "a", false},
		{"a", "a", true},
		{"a", "b", false},
		{"a", "aa", false},
		{"aa", "a", false},
		{"a", "a/b", false},
		{"a/b", "a", false},
		{"a/b", "a/b", true},
		{"a/b", "b/a", false},
		{"a/b", "a/bc", false},
		{"a/bc", "a/b", false},
		{"ab/c", "a/bc", false},
		{"+", "a", true},
		{"+", "orders42", true},
		{"+", "a/b", false},
		{"+/+", "a", false},
		{"+/+", "a/b", true},
		{"+/+", "a/b/c", false},
		{"+/b", "a/b", true},
		{"+/b", "a/c", false},
		{"a/+", "a", false},
		{"a/+", "b/b", false},
		{"a/+", "a/b/c", false},
		{"a/+/c", "a/b/c", true},
		{"a/+/c", "a/b/d", false},
		{"a/+/c", "a/c", false},
		{"#", "a", true},
		{"#", "a/b/c/d", true},
		{"a/#", "a/b", true},
		{"a/#", "a/b/c/d", true},
		{"a/#", "b/b", false},
		{"a/#", "ab", false},
		{"+/#", "a", false},
		{"+/#", "a/b", true},
		{"+/#", "a/b/c", true},
		{"+/b/#", "a/b", false},
		{"+/b/#", "a/b/c", true},
		{"+/b/#", "a/c/c", false},
		{"#", "", false},
		{"", "", false},
		{"", "a", false},
		{"a", "", false},
		{"#", strings.Repeat("a/", 14) + "bc", true},
		{"#", strings.Repeat("a/", 15) + "b", false},
		{strings.Repeat("+/", 14) + "#", strings.Repeat("a/", 14) + "bc", true},
		{strings.Repeat("+/", 14) + "#", strings.Repeat("a/", 13) + "bc", false},
	} {
		if topic.Match(c.p, c.topic) != c.want {
			t.Errorf("Match of %q and %q: not %v", c.p, c.topic, c.want)
		}
	}
}

// Of each pattern, and each that is none, of five signs or fewer; and each topic, and each that is none.
func TestMatchOfAll(t *testing.T) {
	others := all("ab/", 5)
	for _, p := range all("ab/+#", 5) {
		ok := pattern(p)
		has := matcher("a")
		if ok {
			has = matcher(p)
		}
		for _, s := range others {
			if want := ok && right(s) && has.MatchString(s); topic.Match(p, s) != want {
				t.Fatalf("Match of %q and %q: not %v", p, s, want)
			}
		}
	}
}

// Of longer ones, drawn so that many are the same.
func TestMatchDrawn(t *testing.T) {
	draw := rand.New(rand.NewSource(9))
	yes := 0
	for range 20000 {
		var words, signs []string
		for range 1 + draw.Intn(8) {
			words = append(words, fmt.Sprint([]string{"a", "b", "ab", "x1"}[draw.Intn(4)], draw.Intn(3)))
		}
		for _, w := range words[:1+draw.Intn(len(words))] {
			signs = append(signs, []string{w, w, w, "+", "+", "a0"}[draw.Intn(6)])
		}
		if draw.Intn(3) == 0 {
			signs = append(signs, "#")
		}
		p, s := strings.Join(signs, "/"), strings.Join(words, "/")
		want := pattern(p) && right(s) && matcher(p).MatchString(s)
		if topic.Match(p, s) != want {
			t.Fatalf("Match of %q and %q: not %v", p, s, want)
		}
		if want {
			yes++
		}
	}
	if yes < 2000 {
		t.Errorf("only %d are the same", yes)
	}
}
