package search

import (
	"iter"
	"math"
	"slices"
	"strconv"
	"strings"
	"testing"

	"souffleur/api"
)

func exactly(text string) api.Pattern {
	return api.Pattern{Kind: api.Exact, Text: text}
}

func shellOf(text string) api.Pattern {
	return api.Pattern{Kind: api.Shell, Text: text}
}

func regexOf(text string) api.Pattern {
	return api.Pattern{Kind: api.Regex, Text: text}
}

// told is a match as a text: the cuts up to the last one that there is, x for one that there isn't; "" beside false.
func told(m api.Match, ok bool) string {
	if !ok {
		return ""
	}
	var cuts []string
	for i, cut := range m.Cuts {
		one := strconv.Itoa(cut.From) + "-" + strconv.Itoa(cut.To)
		if cut == (api.Cut{From: -1, To: -1}) {
			one = "x"
		}
		if i == 0 || one != "x" {
			cuts = append(cuts, slices.Repeat([]string{"x"}, i-len(cuts))...)
			cuts = append(cuts, one)
		}
	}
	return strings.Join(cuts, " ")
}

// toldAll are matches as a text.
func toldAll(all iter.Seq[api.Match]) string {
	var texts []string
	for m := range all {
		texts = append(texts, told(m, true))
	}
	return strings.Join(texts, ", ")
}

// byHand are patterns, texts, and what is found there, one behind the other.
func byHand() []struct {
	p       api.Pattern
	s, want string
} {
	return []struct {
		p       api.Pattern
		s, want string
	}{
		{exactly("a"), "aXaa", "0-1, 2-3, 3-4"}, {exactly("aa"), "aaaaa", "0-2, 2-4"}, {exactly("aba"), "ababa", "0-3"}, {exactly("b"), "a", ""}, {exactly("a"), "", ""}, {exactly(""), "", "0-0"}, {exactly(""), "ab", "0-0, 1-1, 2-2"}, {exactly("a*"), "aaa*", "2-4"}, {exactly("(["), "a([", "1-3"}, {exactly(`\a`), `a\a`, "1-3"}, {exactly("\x00\xff"), "\xff\x00\xff\x00", "1-3"}, {exactly("abc"), "ab", ""}, {regexOf("(a|b)+"), "x ab a", "2-4 3-4, 5-6 5-6"}, {exactly("ä"), "\xc3ä", "1-3"},
		// Of the pieces that begin first, the longest one.
		{shellOf("pa[st]*"), "a password", "2-10"}, {shellOf("a?"), "aabab", "0-2, 3-5"}, {shellOf("a?"), "ba", ""}, {shellOf("a*"), "bab", "1-3"}, {shellOf("a*b"), "xabab", "1-5"}, {shellOf("a*b"), "abxab", "0-5"}, {shellOf("a*b"), "aba", "0-2"}, {shellOf("a*b"), "ba", ""}, {shellOf("*b"), "aba", "0-2"}, {shellOf("*"), "ab", "0-2, 2-2"}, {shellOf("*"), "", "0-0"}, {shellOf(""), "ab", "0-0, 1-1, 2-2"}, {shellOf("?"), "ab", "0-1, 1-2"}, {shellOf("[b-c]"), "abcd", "1-2, 2-3"}, {shellOf("a*b*a"), "abbaba", "0-6"}, {shellOf("a*a"), "aa", "0-2"}, {shellOf("a*a"), "a", ""}, {shellOf(`\*`), "a**", "1-2, 2-3"}, {shellOf("ab*ba"), "abab", ""}, {shellOf("ab*ba"), "ababbax", "0-6"}, {shellOf("ab*b*ba"), "abba", ""}, {shellOf("ab*b*ba"), "abbba", "0-5"}, {shellOf("?\xff*[\x00-\x7f]"), "\xff\xff\xfe\x7f\x80", "0-4"}, {shellOf("a*c*b"), "acabcab", "0-7"}, {shellOf("a]-"), "a]-", "0-3"},
		{regexOf("ab|abc|b"), "xabcb", "1-4, 4-5"}, {regexOf("abcd|c"), "abcdc", "0-4, 4-5"}, {regexOf("abcd|c"), "abcc", "2-3, 3-4"}, {regexOf("a*"), "baac", "0-0, 1-3, 3-3, 4-4"}, {regexOf("a*"), "", "0-0"}, {regexOf(""), "a", "0-0, 1-1"}, {regexOf("a+"), "baab", "1-3"}, {regexOf("a|ab"), "ab", "0-2"}, {regexOf("a"), "", ""}, {regexOf("."), "\n\x00\xff", "0-1, 1-2, 2-3"}, {regexOf("a{2}"), "aaaaa", "0-2, 2-4"}, {regexOf("b.*b|a.*c"), "abcbcbab", "0-5, 5-8"}, {regexOf("[^a]"), "aXa", "1-2"}, {regexOf("a|b"), "ab", "0-1, 1-2"},
		// Of groups those of the first way over that piece.
		{regexOf("(a|ab)(c|bcd)"), "xabcd", "1-5 1-2 2-5"}, {regexOf("(a)|b"), "bab", "0-1, 1-2 1-2, 2-3"}, {regexOf("(a*)(a*)"), "aab", "0-2 0-2 2-2, 2-2 2-2 2-2, 3-3 3-3 3-3"}, {regexOf("(a|b)*"), "ab", "0-2 1-2, 2-2"}, {regexOf("(a)|(ab)"), "ab", "0-2 x 0-2"}, {regexOf("(x)?(a)(x)?"), "ba", "1-2 x 1-2"}, {regexOf("(a)(a)(a)(a)(a)(a)(a)(a)(a)(a)"), "aaaaaaaaaa", "0-10 0-1 1-2 2-3 3-4 4-5 5-6 6-7 7-8 8-9"}, {regexOf("(a|aa)(|a)"), "aab", "0-2 0-1 1-2"},
		// It is the text's beginning and its end, not that of what is left of it.
		{regexOf("^a"), "aaa", "0-1"}, {regexOf("a$"), "aaa", "2-3"}, {regexOf("^"), "ab", "0-0"}, {regexOf("$"), "ab", "2-2"}, {regexOf("^$"), "", "0-0"}, {regexOf("^$"), "a", ""}, {regexOf("^a|b"), "aab", "0-1, 2-3"}, {regexOf("(^|b)a"), "aba", "0-1 0-0, 1-3 1-2"}, {regexOf("a($|b)"), "aba", "0-2 1-2, 2-3 3-3"}, {regexOf("a|$"), "aa", "0-1, 1-2, 2-2"}, {regexOf("a(^|$)"), "aa", "1-2 2-2"}, {regexOf("(^a|a$)*"), "aaa", "0-1 0-1, 1-1, 2-3 2-3, 3-3"},
	}
}

// TestByHand holds by hand what is found (P7.1).
func TestByHand(t *testing.T) {
	for _, c := range byHand() {
		if got := toldAll(All(c.p, c.s)); got != c.want {
			t.Errorf("All(%v, %q) is %s, not %s", c.p, c.s, got, c.want)
		}
		first, _, _ := strings.Cut(c.want, ",")
		m, ok := Find(c.p, c.s)
		if told(m, ok) != first || !ok && m != (api.Match{}) {
			t.Errorf("Find(%v, %q) is %v, %t", c.p, c.s, m, ok)
		}
		n := strings.Count(c.want, ",") + 1
		if c.want == "" {
			n = 0
		}
		if got := Count(c.p, c.s); got != n {
			t.Errorf("Count(%v, %q) is %d, not %d", c.p, c.s, got, n)
		}
		if !May(c.p) {
			t.Errorf("%v may not be", c.p)
		}
		check(t, c.p, c.s)
	}
}

// TestFrom holds by hand what is found from a place on (P7.1), and that there is nothing at no place of the text (R5, P0).
func TestFrom(t *testing.T) {
	for _, c := range []struct {
		p    api.Pattern
		s    string
		at   int
		want string
	}{
		{exactly("a"), "aXaa", 0, "0-1"}, {exactly("a"), "aXaa", 1, "2-3"}, {exactly("a"), "aXaa", 3, "3-4"}, {exactly("a"), "aXaa", 4, ""}, {exactly(""), "aXaa", 4, "4-4"}, {exactly("aa"), "aaa", 1, "1-3"}, {exactly("aa"), "aaa", 2, ""},
		{shellOf("a*"), "aXaa", 1, "2-4"}, {shellOf("*a"), "aXaX", 1, "1-3"}, {shellOf("*"), "aX", 2, "2-2"}, {shellOf("?"), "aX", 2, ""}, {shellOf("?a"), "aaa", 1, "1-3"}, {shellOf("?a"), "aaa", 2, ""},
		{regexOf("(a|b)+"), "aXba", 1, "2-4 3-4"}, {regexOf("(a|b)+"), "aba", 1, "1-3 2-3"}, {regexOf("^a"), "aa", 1, ""}, {regexOf("^a|a$"), "aaa", 1, "2-3"}, {regexOf("$"), "aa", 0, "2-2"}, {regexOf("$"), "aa", 2, "2-2"}, {regexOf("()^|a"), "aa", 1, "1-2"}, {regexOf("a*"), "aa", 2, "2-2"},
	} {
		m, ok := From(c.p, c.s, c.at)
		if told(m, ok) != c.want || !ok && m != (api.Match{}) {
			t.Errorf("From(%v, %q, %d) is %v, %t, not %s", c.p, c.s, c.at, m, ok, c.want)
		}
	}
	for _, p := range []api.Pattern{exactly(""), exactly("a"), shellOf("*"), shellOf("a"), regexOf("a*"), regexOf("$|^")} {
		for _, s := range []string{"", "a", "aaa"} {
			for _, at := range []int{math.MinInt, -1 << 31, -2, -1, len(s) + 1, len(s) + 2, 1 << 31, math.MaxInt} {
				if m, ok := From(p, s, at); ok || m != (api.Match{}) {
					t.Errorf("From(%v, %q, %d) is %v, %t", p, s, at, m, ok)
				}
			}
		}
	}
}

// TestMay holds by hand which patterns may be, and that nothing is found of others (P7.1, R5).
func TestMay(t *testing.T) {
	many := func(text string, n int) string { return strings.Repeat(text, n) }
	nested := func(n int) string { return many("(", n) + "a" + many(")", n) }
	for _, p := range []api.Pattern{
		{}, exactly("["), exactly("a**"), exactly("\\"), exactly("\xff\x00\n"), exactly(many("a", 200)), exactly(many("\xff", 200)),
		shellOf(""), shellOf("a**"), shellOf("(*"), shellOf("]-"), shellOf(`[\]]`), shellOf("{"), shellOf(many("*", 200)), shellOf(many("[a]", 66)),
		regexOf(""), regexOf("]}"), regexOf(`\[`), regexOf("a{8}"), regexOf("|"), regexOf("()"), regexOf(nested(64)), regexOf(many("a", 200)), regexOf("[^\x00-\xff]"), regexOf("^$"),
	} {
		if !May(p) {
			t.Errorf("%v may not be", p)
		}
	}
	wrong := []api.Pattern{
		exactly(many("a", 201)), exactly(many("a", 1<<16)), shellOf(many("*", 201)), shellOf(many("a", 1<<16)), regexOf(many("a", 201)), regexOf(many("(", 1<<16)),
		shellOf("["), shellOf("[]"), shellOf("[^"), shellOf("[b-a]"), shellOf("[a-]"), shellOf("a\\"), shellOf("[a-b-c]"),
		regexOf("("), regexOf(")"), regexOf("*"), regexOf("a**"), regexOf("^*"), regexOf("a|*"), regexOf("a{9}"), regexOf("a{2,1}"), regexOf("a{"), regexOf("["), regexOf("[]"), regexOf("[b-a]"), regexOf("a\\"), regexOf("{"), regexOf(nested(65)),
	}
	for _, kind := range []int{math.MinInt, -1, 3, 4, 256, 1 << 32, math.MaxInt} {
		wrong = append(wrong, api.Pattern{Kind: kind}, api.Pattern{Kind: kind, Text: "a"})
	}
	for _, p := range wrong {
		for _, s := range []string{"", "a", "[]*a)(", p.Text} {
			m, ok := Find(p, s)
			from, found := From(p, s, len(s))
			if May(p) || ok || found || m != (api.Match{}) || from != (api.Match{}) || Count(p, s) != 0 || toldAll(All(p, s)) != "" {
				t.Errorf("%.300v is found in %.100q, or may be", p, s)
			}
		}
	}
}

// TestLongerText holds that an expression that is read from a text, but whose own text is too long, may be, and stands for nothing (P7.1).
func TestLongerText(t *testing.T) {
	for n, want := range map[int]string{25: "0-25, 25-50", 26: ""} {
		p := regexOf(strings.Repeat("[^a]", n))
		if got := toldAll(All(p, strings.Repeat("b", 52))); got != want || !May(p) {
			t.Errorf("%d sets are found at %s; %t", n, got, May(p))
		}
	}
}

// TestEachByte holds that a byte is found by itself, and by what it is one of, alone (P7.1).
func TestEachByte(t *testing.T) {
	var all [256]byte
	for i := range all {
		all[i] = byte(i)
	}
	for i := range all {
		c := string(all[i : i+1])
		want := strconv.Itoa(i) + "-" + strconv.Itoa(i+1)
		for _, p := range []api.Pattern{exactly(c), shellOf("\\" + c), shellOf("[\\" + c + "]"), regexOf("\\" + c), regexOf("[\\" + c + "]")} {
			if got := toldAll(All(p, string(all[:]))); got != want {
				t.Errorf("All(%v) of all bytes is %s", p, got)
			}
		}
	}
	for _, p := range []api.Pattern{shellOf("?"), regexOf("."), shellOf("[\x00-\xff]")} {
		if n := Count(p, string(all[:])); n != 256 {
			t.Errorf("%v is found %d times in all bytes", p, n)
		}
	}
}

// TestLeftLoops holds that a loop over what All answers may be left at any time, and says the same when it is gone over again, within another one, or by turns with it (P7.1, R8).
func TestLeftLoops(t *testing.T) {
	for _, c := range byHand() {
		all := All(c.p, c.s)
		whole := slices.Collect(all)
		for n := range whole {
			var got []api.Match
			for m := range all {
				got = append(got, m)
				if !slices.Equal(slices.Collect(all), whole) {
					t.Errorf("All(%v, %q) says another thing within a loop over it", c.p, c.s)
				}
				if len(got) > n {
					break
				}
			}
			if !slices.Equal(got, whole[:n+1]) {
				t.Errorf("All(%v, %q), left behind %d, is %v", c.p, c.s, n+1, got)
			}
			asked := 0
			all(func(api.Match) bool {
				asked++
				return asked <= n
			})
			if asked != n+1 {
				t.Errorf("All(%v, %q) says %d, though no more than %d are asked for", c.p, c.s, asked, n+1)
			}
		}
		if !slices.Equal(slices.Collect(all), whole) {
			t.Errorf("All(%v, %q) says another thing the second time", c.p, c.s)
		}
	}
}

// TestByTurns holds that a loop over what All answers doesn't heed others that were begun, and left, beside it (R8).
func TestByTurns(t *testing.T) {
	all := All(regexOf("(a|b)*"), "abcabab")
	whole := slices.Collect(all)
	next, stop := iter.Pull(all)
	defer stop()
	for i, want := range whole {
		beside := 0
		for m := range all {
			if beside == i && m != want {
				t.Errorf("a loop beside another one says %v, not %v", m, want)
			}
			beside++
			if beside > i {
				break
			}
		}
		if m, ok := next(); !ok || m != want {
			t.Errorf("a loop with others beside it says %v, %t, not %v", m, ok, want)
		}
	}
	if m, ok := next(); ok {
		t.Errorf("a loop with others beside it says %v, too", m)
	}
}

// TestLongTexts holds that calls end at long texts and hard patterns (P0), and what they answer there (P7.1).
func TestLongTexts(t *testing.T) {
	const n = 100000
	as := strings.Repeat("a", n)
	abs := strings.Repeat("ab", n/2)
	for _, c := range []struct {
		p     api.Pattern
		s     string
		first string
		count int
	}{
		{exactly("a"), as, "0-1", n}, {exactly(""), as, "0-0", n + 1}, {exactly("b"), as, "", 0}, {exactly(strings.Repeat("a", 200)), as, "0-200", n / 200}, {exactly("ba"), abs, "1-3", n/2 - 1},
		{shellOf("a"), as, "0-1", n}, {shellOf(""), as, "0-0", n + 1}, {shellOf("*"), as, "0-100000", 2}, {shellOf("*a*a*a*b*"), as, "", 0}, {shellOf(strings.Repeat("a*", 99) + "b"), as, "", 0}, {shellOf(strings.Repeat("?", 200)), as, "0-200", n / 200}, {shellOf("b*b*b*a"), abs, "1-99999", 1},
		{regexOf("a"), as, "0-1", n}, {regexOf(""), as, "0-0", n + 1}, {regexOf(".*"), as, "0-100000", 2}, {regexOf("b|c$"), as, "", 0}, {regexOf("(ab)+"), abs, "0-100000 99998-100000", 1}, {regexOf("(a|b){8}"), abs, "0-8 7-8", n / 8}, {regexOf("^a"), as, "0-1", 1}, {regexOf("a$"), as, "99999-100000", 1},
		{regexOf("(a*)*(a*)*(a*)*b"), as[:64], "", 0}, {regexOf(strings.Repeat("(a?){8}", 20) + "b"), as[:64], "", 0}, {regexOf(strings.Repeat("(", 9) + "a" + strings.Repeat("a){0,8}", 9) + "b"), as[:64], "", 0},
	} {
		m, ok := Find(c.p, c.s)
		if got := told(m, ok); got != c.first {
			t.Errorf("Find(%v) in a long text is %s, not %s", c.p, got, c.first)
		}
		if got := Count(c.p, c.s); got != c.count {
			t.Errorf("Count(%v) in a long text is %d, not %d", c.p, got, c.count)
		}
	}
}

// TestSame holds that calls answer the same each time (R7).
func TestSame(t *testing.T) {
	for _, c := range byHand() {
		m, ok := Find(c.p, c.s)
		want := m
		clear(m.Cuts[:])
		for range 3 {
			if got, again := Find(c.p, c.s); again != ok || got != want {
				t.Errorf("Find(%v, %q) is %v, %t, not %v", c.p, c.s, got, again, want)
			}
		}
	}
}
