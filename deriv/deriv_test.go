package deriv

import (
	"slices"
	"strings"
	"testing"

	"souffleur/api"
	"souffleur/ere"
)

// TestByHand holds by hand to which places expressions stand for the way: with neither a beginning nor an end, with a beginning, with an end, with both (P5.1).
func TestByHand(t *testing.T) {
	none := []int(nil)
	same := func(places ...int) [4][]int { return [4][]int{places, places, places, places} }
	begin := func(places ...int) [4][]int { return [4][]int{none, places, none, places} }
	end := func(places ...int) [4][]int { return [4][]int{none, none, places, places} }
	both := func(places ...int) [4][]int { return [4][]int{none, none, none, places} }
	for _, c := range []struct {
		r, s string
		want [4][]int
	}{
		{"(ab|a)(c|bcd)", "abcd", same(3, 4)}, {"(ab|a)(c|bcd)", "abce", same(3)}, {"(ab|a)(c|bcd)", "abd", same()},
		{"", "", same(0)}, {"", "a", same(0)}, {"a", "", same()}, {"a", "a", same(1)}, {"a", "b", same()}, {"a", "aa", same(1)}, {"ab", "ab", same(2)}, {"ab", "a", same()}, {"ab", "ba", same()}, {"a|b", "b", same(1)}, {"a|ab", "abc", same(1, 2)}, {"|a", "a", same(0, 1)}, {"(a)", "a", same(1)}, {"()", "a", same(0)}, {"(a)(b)|(a)", "ab", same(1, 2)},
		{"a*", "aab", same(0, 1, 2)}, {"a+", "aab", same(1, 2)}, {"a?", "aab", same(0, 1)}, {"a{0}", "aa", same(0)}, {"a{1}", "aa", same(1)}, {"a{2}", "aaa", same(2)}, {"a{2}", "a", same()}, {"a{2,}", "aaaa", same(2, 3, 4)}, {"a{2,}", "a", same()}, {"a{1,3}", "aaaa", same(1, 2, 3)}, {"a{0,2}", "aaaa", same(0, 1, 2)}, {"a{8}", "aaaaaaaaa", same(8)}, {"a{8,}", "aaaaaaaaa", same(8, 9)}, {"a{7,8}", "aaaaaaaaa", same(7, 8)}, {"(ab){2}", "ababab", same(4)}, {"(a|b){2}", "bab", same(2)}, {"(ab|a|b){2}", "aba", same(2, 3)},
		{".*", "\x00\n\xff", same(0, 1, 2, 3)}, {"[^\n]*", "a\n", same(0, 1)}, {"[b-d]+", "bcde", same(1, 2, 3)}, {"[^\x00-\xff]", "\x00", same()}, {"[^\x00-\xff]*b?", "b", same(0, 1)}, {"[^\x00-\xff]|b", "b", same(1)},
		{"(a*)*", "aa", same(0, 1, 2)}, {"(a*)+", "aa", same(0, 1, 2)}, {"()*", "a", same(0)}, {"(|a)+b", "aab", same(3)}, {"(a?){8}", "aaaaaaaaa", same(0, 1, 2, 3, 4, 5, 6, 7, 8)}, {"((a{2}){2}){2}", "aaaaaaaaa", same(8)}, {"(a{1,2}b){2}", "abaabab", same(5)}, {"(a{2,3}){2}", "aaaaaaa", same(4, 5, 6)}, {"(a{3,}|b){2}", "aaabaaa", same(4)}, {"(a{2}b?){2,}", "aaaabaab", same(4, 5, 7, 8)},
		{"^", "", begin(0)}, {"^a", "aa", begin(1)}, {"a^", "aa", same()}, {"^^a", "a", begin(1)}, {"(^a|b)*", "aab", [4][]int{{0}, {0, 1}, {0}, {0, 1}}}, {"(^|b)a", "a", begin(1)}, {"(^|b)a", "ba", same(2)}, {"(a|^)b", "b", begin(1)}, {"a?^b", "b", begin(1)}, {"a?^b", "ab", same()}, {"(a|^){3}", "aaaa", [4][]int{{3}, {0, 1, 2, 3}, {3}, {0, 1, 2, 3}}}, {"(^|a){2,}", "aa", [4][]int{{2}, {0, 1, 2}, {2}, {0, 1, 2}}}, {"(a(^|b)){2}", "abab", same(4)}, {"((^|a){2}b){2}", "babaab", begin()}, {"((^|a){2}b){2}", "baab", begin(4)},
		{"$", "", end(0)}, {"$", "a", same()}, {"a$", "a", end(1)}, {"a$", "aa", same()}, {"a*$", "aa", end(2)}, {"a$|a", "aa", same(1)}, {"$a", "a", same()}, {"a$b*", "a", end(1)}, {"a$b*", "ab", same()}, {"a$$", "a", end(1)}, {"(a|$)*", "aa", same(0, 1, 2)}, {"(a|$){3}", "aa", end(2)}, {"(a|$){3}", "aaaa", same(3)}, {"(a$|b){2}", "ba", end(2)}, {"(a($|b)){2}", "aba", end(3)}, {"((a|$){3}b?){2}", "aaab", end(4)}, {"((a|$){3}b?){2}", "aaaab", same()}, {"((a|$){3}b?){2}", "aaaba", end(5)},
		{"^$", "", both(0)}, {"$^", "", both(0)}, {"^a$", "a", both(1)}, {"$|a", "a", same(1)}, {"(^$|a){2}", "", both(0)}, {"(^|$)(^|$)", "", [4][]int{none, {0}, {0}, {0}}}, {"(^|$)a(^|$)", "a", both(1)}, {"(^$){8}", "", both(0)}, {"(^a|b$)+", "ab", [4][]int{none, {1}, none, {1, 2}}},
	} {
		r := read(t, c.r)
		for i, want := range c.want {
			checkEnds(t, r, c.s, i&1 != 0, i&2 != 0, want)
		}
	}
}

// checkEnds holds to which places r stands for the way, and what comes of that.
func checkEnds(t *testing.T, r api.Re, s string, begin, end bool, want []int) {
	t.Helper()
	text, _ := ere.Print(r)
	if got := Ends(r, s, begin, end); !slices.Equal(got, want) {
		t.Errorf("Ends(%s, %q, %t, %t) is %v, not %v", text, s, begin, end, got, want)
	}
	over := slices.Contains(want, len(s))
	if got := Match(r, s, begin, end); got != over {
		t.Errorf("Match(%s, %q, %t, %t) is %t", text, s, begin, end, got)
	}
	m := New(r, begin)
	for i := range len(s) {
		if got := m.Accepts(false); got != slices.Contains(want, i) || over && !m.Alive() {
			t.Errorf("a machine of %s, begin %t, over %q: accepts %t, alive %t", text, begin, s[:i], got, m.Alive())
		}
		m.Next(s[i])
	}
	if got := m.Accepts(end); got != over || over && !m.Alive() {
		t.Errorf("a machine of %s, begin %t, end %t, over %q: accepts %t, alive %t", text, begin, end, s, got, m.Alive())
	}
}

// TestNothing holds by hand which expressions stand for the way over no bytes, with no beginning and no end (P5.1).
func TestNothing(t *testing.T) {
	for s, want := range map[string]bool{
		"": true, "a": false, "^": false, "$": false, "^$": false, "^|$": false, "a*": true, "a+": false, "a?": true, "a{0}": true, "a{0,3}": true, "a{1,3}": false, "(a*)+": true, "(a?){8}": true, "a|": true, "a|b": false, "a*b*": true, "a*b": false, "()": true, "(^)": false, "(^)*": true, "($)?": true, "(^){0}": true, "($|){3}": true, "($|^){3}": false, "[^\x00-\xff]": false, "[^\x00-\xff]*": true, ".": false,
	} {
		if got := Nothing(read(t, s)); got != want {
			t.Errorf("Nothing(%q) is %t", s, got)
		}
	}
}

// TestEachByte holds that a set stands for the way over its bytes, and over none else (P5.1).
func TestEachByte(t *testing.T) {
	for c := range 256 {
		one := api.Re{Kind: api.ReSet}
		one.Set[c/64] = 1 << (c % 64)
		others := api.Re{Kind: api.ReSet, Set: api.Set{^one.Set[0], ^one.Set[1], ^one.Set[2], ^one.Set[3]}}
		for d := range 256 {
			s := string([]byte{byte(d)})
			m := New(one, false)
			m.Next(byte(d))
			if Match(one, s, false, false) != (c == d) || Match(others, s, true, true) != (c != d) || m.Accepts(false) != (c == d) || len(Ends(one, s, true, false)) == 0 != (c != d) {
				t.Errorf("the set of %d over the byte %d", c, d)
			}
		}
	}
}

func set(c byte) api.Re {
	r := api.Re{Kind: api.ReSet}
	r.Set[c/64] = 1 << (c % 64)
	return r
}

func of(kind int, kids ...api.Re) api.Re {
	return api.Re{Kind: kind, Kids: kids}
}

func group(n int, kid api.Re) api.Re {
	return api.Re{Kind: api.ReGroup, Kids: []api.Re{kid}, N: n}
}

func repeat(kid api.Re, lo, hi int) api.Re {
	return api.Re{Kind: api.ReRepeat, Kids: []api.Re{kid}, Lo: lo, Hi: hi}
}

// nested is n groups within one another around kid.
func nested(n int, kid api.Re) api.Re {
	for ; n > 0; n-- {
		if n <= 9 {
			kid = group(n, kid)
		} else {
			kid = group(0, kid)
		}
	}
	return kid
}

// checkNone holds that r, which may not be, stands for no way at all (P5.1, P0).
func checkNone(t *testing.T, name string, r api.Re) {
	t.Helper()
	if Nothing(r) {
		t.Errorf("%s: Nothing", name)
	}
	for _, s := range []string{"", "a", "aa", "b", "ab", strings.Repeat("a", 201)} {
		for _, begin := range bools {
			m := New(r, begin)
			for i := range len(s) {
				if m.Alive() || m.Accepts(false) || m.Accepts(true) {
					t.Errorf("%s: a machine over %q, begin %t", name, s[:i], begin)
				}
				m.Next(s[i])
			}
			if m.Alive() || m.Accepts(false) || m.Accepts(true) || Match(r, s, begin, false) || Match(r, s, begin, true) || len(Ends(r, s, begin, false)) > 0 || len(Ends(r, s, begin, true)) > 0 {
				t.Errorf("%s: over %q, begin %t", name, s, begin)
			}
		}
	}
}

// TestMayNotBe holds that expressions that may not be stand for no way (P5.1).
func TestMayNotBe(t *testing.T) {
	a, begin, end, empty := set('a'), of(api.ReBegin), of(api.ReEnd), of(api.ReEmpty)
	for name, r := range map[string]api.Re{
		"none": of(api.ReNone), "no kind": of(-1), "another kind": of(9, a), "one number too many": {Kind: api.ReSet, Set: a.Set, N: 1}, "bytes of none": {Kind: api.ReEmpty, Set: a.Set},
		"a row of one": of(api.ReCat, a), "a row of none": of(api.ReCat), "one of one": of(api.ReAlt, a), "one of none": of(api.ReAlt), "a row of an empty one": of(api.ReCat, a, empty), "a row in a row": of(api.ReCat, of(api.ReCat, a, a), a), "one of one of": of(api.ReAlt, a, of(api.ReAlt, a, a)), "a row of one of": of(api.ReCat, a, of(api.ReAlt, a, a)), "none in a row": of(api.ReCat, a, of(api.ReNone)), "none in one of": of(api.ReAlt, a, of(api.ReNone)),
		"the group 0": group(0, a), "the group 2": group(2, a), "the group -1": group(-1, a), "twice the group 1": group(1, group(1, a)), "the groups 2 and 1": of(api.ReCat, group(2, a), group(1, a)), "a group of none": of(api.ReGroup), "a group of two": {Kind: api.ReGroup, N: 1, Kids: []api.Re{a, a}},
		"3 up to 2 times": repeat(a, 3, 2), "up to 9 times": repeat(a, 0, 9), "9 times": repeat(a, 9, -1), "-1 times": repeat(a, -1, 1), "up to -2 times": repeat(a, 0, -2), "a beginning, again": repeat(begin, 0, -1), "an end, again": repeat(end, 0, -1), "again and again": repeat(repeat(a, 0, -1), 0, -1), "a row, again": repeat(of(api.ReCat, a, a), 0, -1), "an empty one, again": repeat(empty, 0, -1), "of none": of(api.ReRepeat), "of two": {Kind: api.ReRepeat, Hi: -1, Kids: []api.Re{a, a}},
		"65 groups": nested(65, a), "201 bytes": of(api.ReCat, slices.Repeat([]api.Re{a}, 201)...), "26 long sets": of(api.ReCat, slices.Repeat([]api.Re{read(t, "[^a]")}, 26)...), "a kid of a set": {Kind: api.ReSet, Set: a.Set, Kids: []api.Re{a}}, "a kid of an empty one": of(api.ReEmpty, a),
	} {
		if ere.May(r) {
			t.Fatalf("%s: may be", name)
		}
		checkNone(t, name, r)
	}
	checkEnds(t, nested(64, a), "aa", false, false, []int{1})
	checkEnds(t, of(api.ReCat, slices.Repeat([]api.Re{a}, 200)...), strings.Repeat("a", 201), true, true, []int{200})
	checkEnds(t, of(api.ReCat, slices.Repeat([]api.Re{read(t, "[^a]")}, 25)...), strings.Repeat("b", 25), true, true, []int{25})
}

// TestDeepArguments holds that the calls end at deep and at wide arguments, at all numbers (P0).
func TestDeepArguments(t *testing.T) {
	const depth, width = 60000, 200000
	for _, kind := range []int{api.ReGroup, api.ReRepeat, api.ReCat, api.ReAlt, api.ReNone, -1} {
		deep := set('a')
		for range depth {
			deep = api.Re{Kind: kind, Kids: []api.Re{deep}, Hi: -1}
		}
		checkNone(t, "a deep one", deep)
		checkNone(t, "a wide one", api.Re{Kind: kind, Kids: slices.Repeat([]api.Re{set('a')}, width)})
	}
	for _, n := range []int{-1 << 63, -1 << 31, 1 << 31, 1<<63 - 1} {
		checkNone(t, "a kind", of(n, set('a')))
		checkNone(t, "a number of a group", group(n, set('a')))
		checkNone(t, "a least number", repeat(set('a'), n, -1))
		checkNone(t, "a greatest number", repeat(set('a'), 0, n))
	}
}

// TestNil holds what there is of a nil machine, and of one that New didn't make (P5.1, R2, P0).
func TestNil(t *testing.T) {
	for _, m := range []*Machine{nil, {}} {
		for range 3 {
			if m.Accepts(false) || m.Accepts(true) || m.Alive() {
				t.Errorf("%v accepts %t, %t, alive %t", m, m.Accepts(false), m.Accepts(true), m.Alive())
			}
			m.Next('a')
		}
	}
	if New(of(api.ReNone), true) == nil {
		t.Error("a machine of an expression that may not be is nil")
	}
}

// TestMachine holds that asking a machine changes nothing, that one machine is no other, and that it is its expression as New was given it that counts (P5.1, R4, R7).
func TestMachine(t *testing.T) {
	const text = "^((a|b){2,3}c?)+$|[d-f]*"
	r := read(t, text)
	m, other := New(r, true), New(r, false)
	for i := range r.Kids {
		r.Kids[i] = of(api.ReNone)
	}
	r = read(t, text)
	for i, s := 0, "abcbaacabab"; i <= len(s); i++ {
		for range 3 {
			if m.Accepts(false) != Match(r, s[:i], true, false) || m.Accepts(true) != Match(r, s[:i], true, true) || !m.Alive() {
				t.Errorf("over %q a machine accepts %t, %t, alive %t", s[:i], m.Accepts(false), m.Accepts(true), m.Alive())
			}
		}
		if i < len(s) {
			m.Next(s[i])
		}
	}
	other.Next('d')
	other.Next('f')
	if !other.Accepts(false) || !other.Accepts(true) || m.Accepts(false) || !m.Accepts(true) {
		t.Error("two machines of one expression aren't two")
	}
	for range 3 {
		m.Next('x')
		if m.Accepts(false) || m.Accepts(true) {
			t.Error("a machine accepts behind what can't be")
		}
	}
}

// TestAlive holds by hand that a machine is alive as long as it may accept (P5.1), and that it isn't when nothing is waited for any more, so that nobody need go on with it.
func TestAlive(t *testing.T) {
	for _, c := range []struct {
		r, s  string
		begin bool
		// dead is how many bytes of s are taken when it is alive no more.
		dead int
	}{
		{"a", "ab", false, 2}, {"ab", "aab", false, 2}, {"abc", "abx", true, 3}, {"abc", "xbc", true, 1}, {"a|bc", "bcc", false, 3}, {"^a", "ab", true, 2}, {"^a", "ab", false, 0}, {"a^b", "ab", true, 1}, {"", "a", false, 1}, {"$", "a", false, 1}, {"a$", "aa", false, 2}, {"a$|ab", "abb", false, 3}, {"(ab){2}", "ababab", false, 5}, {"(a?b){0,3}", "babbbb", true, 5}, {"((a|b){2}c){2}", "abcbacabc", false, 7}, {"a{0}", "aa", false, 1}, {"a*b", "aaaac", false, 5},
	} {
		m := New(read(t, c.r), c.begin)
		for i := range c.dead {
			if !m.Alive() {
				t.Errorf("a machine of %s, begin %t, isn't alive over %q", c.r, c.begin, c.s[:i])
			}
			m.Next(c.s[i])
		}
		if m.Alive() {
			t.Errorf("a machine of %s, begin %t, is alive over %q", c.r, c.begin, c.s[:c.dead])
		}
	}
}

// TestArgumentsStay holds that an expression isn't changed, not even behind what it holds, and that what is answered is the caller's own (R4).
func TestArgumentsStay(t *testing.T) {
	const text = "(a|b[c-e]*){2,}((^)$|x{2,})?"
	r := read(t, text)
	for i := range r.Kids {
		kids := append(r.Kids[i].Kids, set('z'))
		r.Kids[i].Kids = kids[:len(kids)-1]
	}
	want := []int{2, 3, 4}
	for range 2 {
		got := Ends(r, "abcd", true, true)
		if !slices.Equal(got, want) {
			t.Errorf("Ends is %v, not %v", got, want)
		}
		clear(got)
	}
	m := New(r, true)
	m.Next('a')
	m.Accepts(true)
	Match(r, "abab", true, true)
	Nothing(r)
	for _, kid := range r.Kids {
		if behind := kid.Kids[:len(kid.Kids)+1]; !ere.Same(behind[len(kid.Kids)], set('z')) {
			t.Error("what is behind the kids was changed")
		}
	}
	if !ere.Same(r, read(t, text)) {
		t.Errorf("the expression has become %v", r)
	}
}

// TestHardRepeats holds that the calls end at repeats within one another, as many as may be, whose numbers together are beyond all bounds (P0), and that they answer as the chapter's words are (P5.1, P5.2).
func TestHardRepeats(t *testing.T) {
	within := func(n int, kid, sign string) api.Re {
		return read(t, strings.Repeat("(", n)+kid+strings.Repeat(sign, n))
	}
	const n = 120
	var all []int
	for place := range n + 1 {
		all = append(all, place)
	}
	for _, c := range []struct {
		r    api.Re
		want []int
	}{
		{within(28, "a", "){0,8}"), all}, {within(28, "a?", "){7,8}"), all}, {within(39, "a", "){8}"), nil}, {within(2, "a", "){8}"), all[64:65]}, {within(39, "a?", "){8}"), all}, {within(39, "", "){8}"), all[:1]}, {within(33, "a", "){2,}"), nil}, {within(6, "a", "){2,}"), all[64:]}, {within(49, "a?", ")*"), all}, {within(33, "a*", "){8,}"), all}, {within(24, "a", "a){3,8}"), nil},
	} {
		checkEnds(t, c.r, strings.Repeat("a", n), true, true, c.want)
	}
	for _, r := range []api.Re{
		within(24, "a", "a){0,8}"), within(24, "a", "a){1,8}"), within(22, "a|aa", "a){1,8}"), within(17, "a|aa", "|a){1,8}"), within(19, "a?", "b?a){1,8}"), within(16, "|^", "($|)a){1,8}"), within(24, ".*", "b){2,8}"), within(22, "b", "|a){2,}"),
	} {
		for _, s := range []string{strings.Repeat("a", 50), strings.Repeat("a", 20) + strings.Repeat("b", 20), strings.Repeat("aba", 12)} {
			checkEnds(t, r, s, true, true, text{s, true, true}.ends(r))
		}
	}
}

// TestLongTexts holds that what a machine keeps doesn't grow with what it has taken.
func TestLongTexts(t *testing.T) {
	const n = 50000
	for s, want := range map[string]bool{".*": true, ".*(.*x){2}": false, ".*(.*b){2}": false, ".*(.*b){2}a*": true, "(a{0,8}b){0,8}": false, "((a|b){8}){2,}": true, ".*(.{8}){8}$": true, "(.*b.*){8}": true, "((a{0,8}b?){0,8}a?)*": true, "(.*(.*(.*){2,8}x){2,8}y?){2,8}": false} {
		r := read(t, s)
		m := New(r, true)
		for i := range n {
			m.Next("aab"[i%3])
			if len(m.waits) > 99 || len(m.turns) > 99 {
				t.Fatalf("a machine of %s waits at %d, in %d turns, over %d bytes", s, len(m.waits), len(m.turns), i)
			}
		}
		if m.Accepts(true) != want {
			t.Errorf("a machine of %s accepts %t", s, m.Accepts(true))
		}
	}
	as := strings.Repeat("a", n)
	if !Match(read(t, "(a*)*b?$"), as, true, true) || Match(read(t, "(a*)*b"), as, true, true) || len(Ends(read(t, "a*"), as, false, false)) != n+1 {
		t.Error("over a long text")
	}
}

// FuzzMatch holds all calls of any expression over any text against the chapter's words (P5.1, P5.2).
func FuzzMatch(f *testing.F) {
	for _, s := range []string{"", "(a|b)*$", "(ab|a)(c|bcd)", "(^a|b$){2,}", "((a{2,3}b?){0,8}.){3}", "[^a-]", "(((a|^){2}b){2}|$)*"} {
		f.Add(s, "abcbaab")
	}
	f.Fuzz(func(t *testing.T, pattern, s string) {
		r, _, err := ere.Parse(pattern)
		if err != api.OK || len(s) > 60 {
			return
		}
		if !ere.May(r) {
			checkNone(t, pattern, r)
			return
		}
		checkText(t, r, s)
		for _, begin := range bools {
			m := New(r, begin)
			for i := range len(s) {
				m.Next(s[i])
			}
			checkMachine(t, r, *m, text{s, begin, false}, "", 0)
		}
	})
}
