package group

import (
	"math"
	"regexp"
	"slices"
	"strconv"
	"strings"
	"testing"

	"souffleur/api"
	"souffleur/ere"
)

// told is what Find answers as a text: the cuts up to the last one that there is, x for one that there isn't; "" for false.
func told(m api.Match, ok bool) string {
	if !ok {
		return ""
	}
	var cuts []string
	for i, cut := range m.Cuts {
		one := strconv.Itoa(cut.From) + "-" + strconv.Itoa(cut.To)
		if cut == (api.Cut{From: -1, To: -1}) {
			one = "x"
		}
		if i == 0 || one != "x" {
			cuts = append(cuts, slices.Repeat([]string{"x"}, i-len(cuts))...)
			cuts = append(cuts, one)
		}
	}
	return strings.Join(cuts, " ")
}

// TestByHand holds by hand the groups of ways (P6.1).
func TestByHand(t *testing.T) {
	for _, c := range []struct {
		r, s     string
		from, to int
		want     string
	}{
		{"(a|ab)(c|bcd)", "abcd", 0, 4, "0-4 0-1 1-4"}, {"(a|ab)(c|bcd)", "abc", 0, 3, "0-3 0-2 2-3"}, {"(a|ab)(c|bcd)", "abcd", 0, 2, ""},
		{"", "", 0, 0, "0-0"}, {"", "ab", 1, 1, "1-1"}, {"", "a", 0, 1, ""}, {"a", "ba", 1, 2, "1-2"}, {"a", "ba", 0, 1, ""}, {"a", "a", 0, 0, ""}, {"ab", "cabc", 1, 3, "1-3"}, {"a|b", "b", 0, 1, "0-1"}, {"()", "ab", 1, 1, "1-1 1-1"}, {"(a)", "bab", 1, 2, "1-2 1-2"}, {"[b-d]([^\x00-\xff]|\xff)", "c\xff", 0, 2, "0-2 1-2"},
		// Of ReAlt the Kid that stands first, and its first way.
		{"(a)|(a)", "a", 0, 1, "0-1 0-1"}, {"(b)|(a)", "a", 0, 1, "0-1 x 0-1"}, {"a|(a)", "a", 0, 1, "0-1"}, {"(a)(b)|(ab)", "ab", 0, 2, "0-2 0-1 1-2"}, {"(a)|(ab)|(abc)", "abc", 0, 2, "0-2 x 0-2"}, {"((a)|(b))|(b)", "b", 0, 1, "0-1 0-1 x 0-1"},
		// Of ReCat the first Kid's way first.
		{"(a*)(a*)", "aaa", 0, 3, "0-3 0-3 3-3"}, {"(a?)(a?)(a?)", "aa", 0, 2, "0-2 0-1 1-2 2-2"}, {"(|a)(|a)(|a)", "aa", 0, 2, "0-2 0-0 0-1 1-2"}, {"(ab|a)(bc)?", "abc", 0, 3, "0-3 0-1 1-3"}, {"(ab|a)(bc)?", "abc", 0, 2, "0-2 0-2"}, {"(a|ab)(c|bcd)?(d*)", "abcd", 0, 4, "0-4 0-1 1-4 4-4"}, {"(.*)(b.*)", "abab", 0, 4, "0-4 0-3 3-4"}, {"(.+)(.+)", "aba", 0, 3, "0-3 0-2 2-3"}, {"(a+|b)(ab|b*)", "aab", 0, 3, "0-3 0-2 2-3"}, {"(a|(ab))(a|ba|b)?(a)*", "aba", 0, 3, "0-3 0-1 x 1-3"},
		// Of ReRepeat one that goes on first.
		{"(a|b)*", "aba", 0, 3, "0-3 2-3"}, {"(a|ab)*", "aba", 0, 3, "0-3 2-3"}, {"(a|ab)*", "aba", 0, 2, "0-2 0-2"}, {"(a|ab|ba)*", "aba", 0, 3, "0-3 1-3"}, {"(a)*", "a", 0, 0, "0-0"}, {"(a)?", "a", 0, 0, "0-0"}, {"(a)?a", "a", 0, 1, "0-1"}, {"(a)?a?", "a", 0, 1, "0-1 0-1"}, {"(a)*(a)", "aaa", 0, 3, "0-3 1-2 2-3"}, {"(a|aa){2}", "aaa", 0, 3, "0-3 1-3"}, {"(aa|a){2}", "aaa", 0, 3, "0-3 2-3"}, {"(a{1,2}){2}", "aaa", 0, 3, "0-3 2-3"}, {"(a){0}", "a", 0, 0, "0-0"}, {"(a){0}", "a", 0, 1, ""}, {"(a){8}", "aaaaaaaa", 0, 8, "0-8 7-8"}, {"(a){8}", "aaaaaaaaa", 0, 9, ""}, {"(a){8,}", "aaaaaaaaa", 0, 9, "0-9 8-9"}, {"(a){7}", "aaaaaaaa", 0, 8, ""}, {"(a){2,3}(a*)", "aaaaa", 0, 5, "0-5 2-3 3-5"}, {"(a){2,3}(a*)", "aa", 0, 2, "0-2 1-2 2-2"}, {"(a|ab){1,2}(b)?", "aab", 0, 3, "0-3 1-2 2-3"},
		// A group that isn't gone over any more keeps what it was gone over.
		{"((a)|b)*", "ab", 0, 2, "0-2 1-2 0-1"}, {"((a)|(b))*", "aba", 0, 3, "0-3 2-3 2-3 1-2"}, {"((a)|b){2}", "ab", 0, 2, "0-2 1-2 0-1"}, {"((a)?b)*", "abb", 0, 3, "0-3 2-3 0-1"}, {"(((a)|b){2}c){2}", "abcbbc", 0, 6, "0-6 3-6 4-5 0-1"}, {"((a)|(b)|c)+", "abc", 0, 3, "0-3 2-3 0-1 1-2"}, {"((a)*b)*", "aabb", 0, 4, "0-4 3-4 1-2"},
		// A time over no bytes only while fewer than Lo were.
		{"(a*)*", "", 0, 0, "0-0"}, {"(a*)+", "", 0, 0, "0-0 0-0"}, {"(a*)?", "", 0, 0, "0-0"}, {"(a*){1}", "", 0, 0, "0-0 0-0"}, {"(a*){0,3}", "", 0, 0, "0-0"}, {"(a*)*", "aa", 0, 2, "0-2 0-2"}, {"(a*)+", "aa", 0, 2, "0-2 0-2"}, {"(a*){2}", "aa", 0, 2, "0-2 2-2"}, {"(a*){2,}", "aa", 0, 2, "0-2 2-2"}, {"(a*){0,2}", "aa", 0, 2, "0-2 0-2"}, {"(a*){1,2}", "aa", 0, 2, "0-2 0-2"}, {"(a?){3}", "a", 0, 1, "0-1 1-1"}, {"(a?){1,3}", "aa", 0, 2, "0-2 1-2"}, {"(|a){3}", "a", 0, 1, "0-1 0-1"}, {"(|a){3}", "aa", 0, 2, "0-2 1-2"}, {"(|a){3}", "", 0, 0, "0-0 0-0"}, {"(|a)?", "a", 0, 1, "0-1 0-1"}, {"(|a)+", "a", 0, 1, "0-1 0-1"}, {"(|a)*", "aa", 0, 2, "0-2 1-2"}, {"(()|a)*", "a", 0, 1, "0-1 0-1"}, {"(()|a)+", "a", 0, 1, "0-1 0-1 0-0"}, {"(()|(a))+", "a", 0, 1, "0-1 0-1 0-0 0-1"}, {"(a|())+", "a", 0, 1, "0-1 0-1"}, {"(a|()){2}", "a", 0, 1, "0-1 1-1 1-1"}, {"((a)|()|(b))+", "b", 0, 1, "0-1 0-1 x 0-0 0-1"}, {"((a)|()|(b))*", "b", 0, 1, "0-1 0-1 x x 0-1"}, {"((a*)(b*))*", "aab", 0, 3, "0-3 0-3 0-2 2-3"}, {"((a*)(b*))+", "", 0, 0, "0-0 0-0 0-0 0-0"}, {"((a*)*)+", "", 0, 0, "0-0 0-0"}, {"((a*)+)*", "", 0, 0, "0-0"}, {"((()|a)+|b)*", "ab", 0, 2, "0-2 1-2 0-1 0-0"}, {"(((a|b)?c?){2}){3}", "ab", 0, 2, "0-2 2-2 2-2 1-2"}, {"(((a|b)?c?){2}){3}", "", 0, 0, "0-0 0-0 0-0"}, {"(((a?){2}){2})*", "", 0, 0, "0-0"}, {"(((a?){2}){2})?", "", 0, 0, "0-0"}, {"(((a?){2}){2})+", "", 0, 0, "0-0 0-0 0-0 0-0"}, {"(((a?){2}){2})*", "aa", 0, 2, "0-2 0-2 2-2 2-2"}, {"(((a){2}|b){2})*", "aabaaaa", 0, 7, "0-7 3-7 5-7 6-7"}, {"(((a){2}|b){2})+", "aab", 0, 3, "0-3 0-3 2-3 1-2"}, {"(b|((a?){2}b?){0,2})*", "aaaaab", 0, 6, "0-6 4-6 4-6 5-5"},
		// The text has its beginning and its end, wherever the way is.
		{"^(a)", "aa", 0, 1, "0-1 0-1"}, {"^(a)", "aa", 1, 2, ""}, {"(a)$", "aa", 1, 2, "1-2 1-2"}, {"(a)$", "aa", 0, 1, ""}, {"(^)|()", "a", 0, 0, "0-0 0-0"}, {"(^)|()", "a", 1, 1, "1-1 x 1-1"}, {"(^|b)(a|$)", "ba", 0, 2, "0-2 0-1 1-2"}, {"(^|b)*a", "ba", 0, 2, "0-2 0-1"}, {"(^)*a", "a", 0, 1, "0-1"}, {"(^){2}a", "a", 0, 1, "0-1 0-0"}, {"(a|$){3}", "aa", 0, 2, "0-2 2-2"}, {"(a|$){3}", "aab", 0, 2, ""}, {"(^a|a$)*", "aa", 0, 2, "0-2 1-2"}, {"(($)|(^)|())", "", 0, 0, "0-0 0-0 0-0"},
		// The first nine groups, by where they begin, wherever they are.
		{"(a)(b)(c)(d)(e)(f)(g)(h)(i)(j)", "abcdefghij", 0, 10, "0-10 0-1 1-2 2-3 3-4 4-5 5-6 6-7 7-8 8-9"}, {"((((((((((a)b)c)d)e)f)g)h)i)j)", "abcdefghij", 0, 10, "0-10 0-10 0-9 0-8 0-7 0-6 0-5 0-4 0-3 0-2"}, {"(x)?((x)?((x)?((x)?(a)(b)*)))(c)", "abc", 0, 3, "0-3 x 0-2 x 0-2 x 0-2 x 0-1 1-2"},
	} {
		m, ok := Find(read(t, c.r), c.s, c.from, c.to)
		if got := told(m, ok); got != c.want || !ok && m != (api.Match{}) {
			t.Errorf("Find(%s, %q, %d, %d) is %s, not %s; %v", c.r, c.s, c.from, c.to, got, c.want, m)
		}
	}
}

// checkNone holds that Find answers the zero match and false.
func checkNone(t *testing.T, name string, r api.Re, s string, from, to int) {
	t.Helper()
	if m, ok := Find(r, s, from, to); ok || m != (api.Match{}) {
		t.Errorf("%s: Find over %q, %d to %d, is %v, %t", name, s, from, to, m, ok)
	}
}

// TestNoSuchPlaces holds that there is nothing between places that a text doesn't have, nor back from one to another (P6.1, P0, R5).
func TestNoSuchPlaces(t *testing.T) {
	numbers := []int{math.MinInt, -1 << 31, -2, -1, 0, 1, 2, 3, 4, 1 << 31, math.MaxInt}
	for _, s := range []string{"", "a", "aaa"} {
		for _, r := range []string{"", "(a)*", "a{2,}|(a?){3}|()", "^|$|a+"} {
			for _, from := range numbers {
				for _, to := range numbers {
					if from < 0 || to < from || to > len(s) {
						checkNone(t, r, read(t, r), s, from, to)
					}
				}
			}
		}
	}
}

func set(c byte) api.Re {
	r := api.Re{Kind: api.ReSet}
	r.Set[c/64] = 1 << (c % 64)
	return r
}

func of(kind int, kids ...api.Re) api.Re {
	return api.Re{Kind: kind, Kids: kids}
}

func group(n int, kid api.Re) api.Re {
	return api.Re{Kind: api.ReGroup, Kids: []api.Re{kid}, N: n}
}

func repeat(kid api.Re, lo, hi int) api.Re {
	return api.Re{Kind: api.ReRepeat, Kids: []api.Re{kid}, Lo: lo, Hi: hi}
}

// nested is n groups within one another around kid.
func nested(n int, kid api.Re) api.Re {
	for ; n > 0; n-- {
		if n <= 9 {
			kid = group(n, kid)
		} else {
			kid = group(0, kid)
		}
	}
	return kid
}

// TestMayNotBe holds that expressions that may not be have no groups (P6.1).
func TestMayNotBe(t *testing.T) {
	a, begin, empty := set('a'), of(api.ReBegin), of(api.ReEmpty)
	for name, r := range map[string]api.Re{
		"none": of(api.ReNone), "no kind": of(-1), "another kind": of(9, a), "a number of a set": {Kind: api.ReSet, Set: a.Set, N: 1}, "bytes of none": {Kind: api.ReEmpty, Set: a.Set},
		"a row of one": of(api.ReCat, a), "a row of none": of(api.ReCat), "one of one": of(api.ReAlt, a), "one of none": of(api.ReAlt), "a row of an empty one": of(api.ReCat, a, empty), "a row in a row": of(api.ReCat, of(api.ReCat, a, a), a), "one of one of": of(api.ReAlt, a, of(api.ReAlt, a, a)), "a row of one of": of(api.ReCat, a, of(api.ReAlt, a, a)), "none in one of": of(api.ReAlt, a, of(api.ReNone)),
		"the group 0": group(0, a), "the group 2": group(2, a), "the group -1": group(-1, a), "the group 10": group(10, a), "twice the group 1": group(1, group(1, a)), "the groups 2 and 1": of(api.ReCat, group(2, a), group(1, a)), "a group of none": {Kind: api.ReGroup, N: 1}, "a group of two": {Kind: api.ReGroup, N: 1, Kids: []api.Re{a, a}},
		"3 up to 2 times": repeat(a, 3, 2), "up to 9 times": repeat(a, 0, 9), "9 times": repeat(a, 9, -1), "-1 times": repeat(a, -1, 1), "up to -2 times": repeat(a, 0, -2), "a beginning, again": repeat(begin, 0, -1), "again and again": repeat(repeat(a, 0, -1), 0, -1), "an empty one, again": repeat(empty, 0, -1), "of none": {Kind: api.ReRepeat, Hi: -1},
		"65 groups": nested(65, a), "201 bytes": of(api.ReCat, slices.Repeat([]api.Re{a}, 201)...), "a kid of a set": {Kind: api.ReSet, Set: a.Set, Kids: []api.Re{a}}, "a kid of an empty one": of(api.ReEmpty, a),
	} {
		if ere.May(r) {
			t.Fatalf("%s: may be", name)
		}
		for _, s := range []string{"", "a", "aa", strings.Repeat("a", 201)} {
			for _, from := range []int{0, len(s) / 2, len(s)} {
				checkNone(t, name, r, s, from, len(s))
			}
		}
	}
	if m, ok := Find(nested(64, a), "a", 0, 1); told(m, ok) != "0-1"+strings.Repeat(" 0-1", 9) {
		t.Errorf("64 groups within one another are %v, %t", m, ok)
	}
	if m, ok := Find(of(api.ReCat, slices.Repeat([]api.Re{a}, 200)...), strings.Repeat("a", 200), 0, 200); told(m, ok) != "0-200" {
		t.Errorf("200 bytes are %v, %t", m, ok)
	}
}

// TestDeepArguments holds that Find ends at deep and at wide expressions, and at all numbers in them (P0).
func TestDeepArguments(t *testing.T) {
	const depth, width = 60000, 200000
	for _, kind := range []int{api.ReGroup, api.ReRepeat, api.ReCat, api.ReAlt, api.ReNone, -1} {
		deep := set('a')
		for range depth {
			deep = api.Re{Kind: kind, Kids: []api.Re{deep}, Hi: -1}
		}
		checkNone(t, "a deep one", deep, "a", 0, 1)
		checkNone(t, "a wide one", api.Re{Kind: kind, Kids: slices.Repeat([]api.Re{set('a')}, width)}, "a", 0, 1)
	}
	for _, n := range []int{math.MinInt, -1 << 31, 1 << 31, math.MaxInt} {
		checkNone(t, "a kind", of(n, set('a')), "a", 0, 1)
		checkNone(t, "a number of a group", group(n, set('a')), "a", 0, 1)
		checkNone(t, "a least number", repeat(set('a'), n, -1), "a", 0, 1)
		checkNone(t, "a greatest number", repeat(set('a'), 0, n), "a", 0, 1)
	}
}

// TestHardRepeats holds that Find ends at repeats within one another whose times, or whose ways, are beyond all bounds (P0), and what their groups are (P6.1).
func TestHardRepeats(t *testing.T) {
	as := strings.Repeat("a", 40)
	within := func(n int, kid, sign string) string {
		return strings.Repeat("(", n) + kid + strings.Repeat(sign, n)
	}
	all := func(cut string, n int) string { return "0-40" + strings.Repeat(" "+cut, n) }
	for _, c := range []struct{ r, s, want string }{
		{within(28, "a", "){0,8}"), as, all("0-40", 9)}, {within(27, "a", "){0,8}") + "b", as, ""}, {within(3, "a", "){8}"), as, ""}, {within(2, "a", "){5,8}"), as, "0-40 32-40 39-40"}, {within(39, "", "){8}"), "", "0-0" + strings.Repeat(" 0-0", 9)}, {within(38, "", "){8}") + "b", as, ""}, {within(39, "a?", "){8}"), as, all("40-40", 9)}, {within(38, "a?", "){8}") + "b", as, ""}, {within(39, "|a", "){8}"), as, "0-40 0-40 0-40 0-40 0-40 0-40 0-40 0-40 0-40 0-40"}, {within(37, "(x)|", "){8}"), "", "0-0" + strings.Repeat(" 0-0", 9)}, {"(x)?" + within(37, "|a", "){8}"), "aa", "0-2 x 0-2 0-2 0-2 0-2 0-2 0-2 0-2 0-2"}, {within(7, "(x)|a?", "){8}"), as, all("40-40", 7)},
		{within(49, "a?", ")*"), as, all("0-40", 9)}, {within(49, "a?", ")+"), as, all("0-40", 9)}, {within(49, "|a", ")+"), as, all("0-40", 9)}, {within(48, "a*", ")*") + "b", as, ""}, {within(48, "|a", ")+") + "b", as, ""}, {within(32, "a*", "){8,}"), as, all("40-40", 9)}, {within(32, "a*", "){8,}") + "b", as, ""}, {within(24, "a", "a){0,8}") + "b", as, ""}, {within(22, "a|aa", "a){1,8}") + "b", as, ""}, {within(16, "|^", "($|)a){0,8}") + "b", as, ""},
		{"(a*)*(a*)*(a*)*(a*)*b", as, ""}, {"(a|aa|aaa|aaaa)*b", as, ""}, {"(a*){8}(a*){8}(a*){8}b", as, ""}, {"(a?){8}(a?){8}(a?){8}(a?){8}a{8}", as, "0-40 7-8 15-16 23-24 31-32"},
	} {
		m, ok := Find(read(t, c.r), c.s, 0, len(c.s))
		if got := told(m, ok); got != c.want {
			t.Errorf("Find(%s, %q) is %s, not %s", c.r, c.s, got, c.want)
		}
	}
}

// TestFewMarks holds that times over no bytes of repeats within one another, millions of them, aren't kept one by one.
func TestFewMarks(t *testing.T) {
	r := read(t, strings.Repeat("(", 9)+"a?"+strings.Repeat("){8}", 9))
	w, ok := newFinder(r, "", 0).waysOf(0, 0).nth(0)
	var marks func(k *mark) int
	marks = func(k *mark) int {
		n := 0
		for ; k != nil && n < 100; k = k.ahead {
			n += 1 + marks(k.within)
		}
		return n
	}
	if n := marks(w.trail); !ok || n == 0 || n >= 100 {
		t.Errorf("the first way, %t, has %d marks", ok, n)
	}
}

// TestLongTexts holds that Find ends at long texts (P0), and what the groups are there (P6.1).
func TestLongTexts(t *testing.T) {
	const n = 100000
	as, abs := strings.Repeat("a", n), strings.Repeat("ab", n/2)
	for _, c := range []struct{ r, s, want string }{
		{"(.*)(.*)", as, "0-100000 0-100000 100000-100000"}, {"(.*)(a)(.*)", abs, "0-100000 0-99998 99998-99999 99999-100000"}, {"(a|b)*", abs, "0-100000 99999-100000"}, {"((a)|b)+", abs, "0-100000 99999-100000 99998-99999"}, {"(a*)*b", as, ""}, {"((a*)+b?)*c", abs, ""}, {"(a*){2}", as, "0-100000 100000-100000"}, {"(a*){2,8}b", as, ""}, {"(a|aa){2,}b", as, ""}, {"((a|b){8}){2,}", abs, "0-100000 99992-100000 99999-100000"}, {"(ab){2,}($)", abs, "0-100000 99998-100000 100000-100000"},
	} {
		m, ok := Find(read(t, c.r), c.s, 0, n)
		if got := told(m, ok); got != c.want {
			t.Errorf("Find(%s) over a long text is %s, not %s", c.r, got, c.want)
		}
	}
}

// TestLibrary holds Find against the library's own expressions, which find the same first ways, as long as nothing that may be over no bytes is repeated (P6.1).
func TestLibrary(t *testing.T) {
	texts := textsOf("ab", 6)
	for _, s := range []string{
		"(a|ab)(c|b|bab)*", "(a|ab|b|ba)*", "((a)|(b)|(ab))*", "((a|ab)(b|ba)?)+", "(a+|b+)*(ab)?", "(a|b){2,4}(a*)(b*)", "((a)|b){0,3}((b)|a){0,3}", "((a|ba){1,2}b?){1,3}", "(a|b|ab|aba)(a|b|ab|aba)(.*)", "(^a|b)*(a|b$)*(ab|)", "(a?)(ab)?(b?)(a*)(b*)(.?)", "((a*)b)*(a|(b))?", "(((a|ab)*b|(aa|b)(b|a)){1,2}(a)?)*(b)?", "((a){2}|(b){1,2}|(ab|a){2,3})*", "(([ab])(a|b+)){2,}.?",
	} {
		want := regexp.MustCompile("(?s)^(?:" + s + ")$")
		for _, text := range texts {
			got, ok := Find(read(t, s), text, 0, len(text))
			cuts := want.FindStringSubmatchIndex(text)
			if ok != (cuts != nil) {
				t.Fatalf("Find(%s, %q) is %t", s, text, ok)
			}
			for i := 0; i < len(cuts); i += 2 {
				if got.Cuts[i/2] != (api.Cut{From: cuts[i], To: cuts[i+1]}) {
					t.Fatalf("Find(%s, %q) is %s, not %v", s, text, told(got, ok), cuts)
				}
			}
		}
	}
}

// TestEachByte holds that a group of a set is gone over by its bytes, and by none else (P6.1, P6.2).
func TestEachByte(t *testing.T) {
	for c := range 256 {
		one := set(byte(c))
		r := of(api.ReAlt, group(1, one), group(2, api.Re{Kind: api.ReSet, Set: api.Set{^one.Set[0], ^one.Set[1], ^one.Set[2], ^one.Set[3]}}))
		for d := range 256 {
			want := "0-1 x 0-1"
			if c == d {
				want = "0-1 0-1"
			}
			m, ok := Find(r, string([]byte{byte(d)}), 0, 1)
			if told(m, ok) != want {
				t.Errorf("the set of %d over the byte %d is %v, %t", c, d, m, ok)
			}
		}
	}
}

// TestArgumentsStay holds that an expression isn't changed, not even behind what it holds, and that Find answers the same each time (R4, R7).
func TestArgumentsStay(t *testing.T) {
	const text = "((a|b[c-e]*){2,}((^)$|x{2,})?){1,2}"
	r := read(t, text)
	kids := append(r.Kids[0].Kids, set('z'))
	r.Kids[0].Kids = kids[:1]
	for range 3 {
		m, ok := Find(r, "abcdabxx", 0, 8)
		if got := told(m, ok); got != "0-8 0-8 5-6 6-8" {
			t.Errorf("Find is %s", got)
		}
		clear(m.Cuts[:])
	}
	if !ere.Same(r, read(t, text)) || !ere.Same(kids[1], set('z')) {
		t.Errorf("the expression has become %v", r)
	}
}

// TestNames holds by hand which pieces a match names (P6.1), at cuts that are none of the text, too.
func TestNames(t *testing.T) {
	const s = "a\x00\xffd"
	texts := map[api.Cut]string{
		{From: 0, To: 4}: s, {From: 0, To: 0}: "", {From: 4, To: 4}: "", {From: 1, To: 3}: "\x00\xff", {From: 3, To: 4}: "d", {From: 0, To: 1}: "a",
		{From: -1, To: -1}: "", {From: -1, To: 2}: "", {From: 0, To: -1}: "", {From: 2, To: 1}: "", {From: 0, To: 5}: "", {From: 4, To: 5}: "", {From: 5, To: 5}: "", {From: 5, To: 4}: "", {From: math.MinInt, To: math.MaxInt}: "", {From: math.MaxInt, To: math.MinInt}: "", {From: 0, To: math.MaxInt}: "", {From: math.MinInt, To: 0}: "", {From: math.MaxInt, To: math.MaxInt}: "",
	}
	for cut, want := range texts {
		for i := range 10 {
			var m api.Match
			m.Cuts[i] = cut
			m.Cuts[(i+1)%10] = api.Cut{From: 1, To: 2}
			var names [10]string
			names[i], names[(i+1)%10] = want, "\x00"
			if got := Names(m, s); got != names {
				t.Errorf("Names(%v, %q) is %q, not %q", m, s, got, names)
			}
			if got := Names(m, ""); got != [10]string{} {
				t.Errorf("Names(%v, \"\") is %q", m, got)
			}
		}
	}
	if m, ok := Find(read(t, "(a|ab)(c|bcd)(x)?"), "xabcd", 1, 5); !ok || Names(m, "xabcd") != [10]string{"abcd", "a", "bcd"} {
		t.Errorf("the example is %v, %t", m, ok)
	}
	if m, ok := Find(read(t, "(a|b)*$"), "abab", 0, 4); told(m, ok) != "0-4 3-4" || Names(m, "abab") != [10]string{"abab", "b"} {
		t.Errorf("the example of README.md is %v, %t", m, ok)
	}
}

// FuzzFind holds Find of any expression over any text against the chapter's words, or, where there are too many ways for that, against what its groups stand for (P6.1, P6.2).
func FuzzFind(f *testing.F) {
	for _, s := range []string{"", "(a|b)*$", "(a|ab)(c|bcd)", "(^a|b$){2,}", "((a{2,3}b?){0,8}.){3}", "(()|(a)|b?)+", "((|a)*(b|()|c)+){2}", "(((a|^){2}b){2}|$)*"} {
		f.Add(s, "abcbaa")
	}
	f.Fuzz(func(t *testing.T, pattern, s string) {
		r, _, err := ere.Parse(pattern)
		if err != api.OK || len(s) > 12 {
			return
		}
		if !ere.May(r) {
			checkNone(t, pattern, r, s, 0, len(s))
			return
		}
		checkText(t, r, s)
	})
}
