package ere

import (
	"slices"
	"strings"
	"testing"

	"souffleur/api"
)

var (
	empty  = api.Re{Kind: api.ReEmpty}
	begin  = api.Re{Kind: api.ReBegin}
	end    = api.Re{Kind: api.ReEnd}
	anyOne = not("")
)

// setOf is the set of the bytes of s.
func setOf(s string) api.Set {
	var set api.Set
	for i := range len(s) {
		set[s[i]>>6] |= 1 << (s[i] & 63)
	}
	return set
}

// in is one byte of s.
func in(s string) api.Re {
	return api.Re{Kind: api.ReSet, Set: setOf(s)}
}

// not is one byte that isn't in s.
func not(s string) api.Re {
	var rest []byte
	for c := range 256 {
		if strings.IndexByte(s, byte(c)) < 0 {
			rest = append(rest, byte(c))
		}
	}
	return in(string(rest))
}

// span is one byte from lo up to hi.
func span(lo, hi int) api.Re {
	var all []byte
	for c := lo; c <= hi; c++ {
		all = append(all, byte(c))
	}
	return in(string(all))
}

func cat(kids ...api.Re) api.Re {
	return api.Re{Kind: api.ReCat, Kids: kids}
}

func alt(kids ...api.Re) api.Re {
	return api.Re{Kind: api.ReAlt, Kids: kids}
}

func times(kid api.Re, lo, hi int) api.Re {
	return api.Re{Kind: api.ReRepeat, Kids: []api.Re{kid}, Lo: lo, Hi: hi}
}

func group(n int, kid api.Re) api.Re {
	return api.Re{Kind: api.ReGroup, Kids: []api.Re{kid}, N: n}
}

// bytesOf are the bytes of s, one behind the other.
func bytesOf(s string) []api.Re {
	kids := []api.Re{}
	for i := range len(s) {
		kids = append(kids, in(s[i:i+1]))
	}
	return kids
}

// word is the bytes of s as an expression.
func word(s string) api.Re {
	switch len(s) {
	case 0:
		return empty
	case 1:
		return in(s)
	}
	return cat(bytesOf(s)...)
}

// nested is n groups within one another around kid.
func nested(n int, kid api.Re) api.Re {
	for i := n; i > 0; i-- {
		kid = group(groupText(i), kid)
	}
	return kid
}

// groupText is the number of the i-th group.
func groupText(i int) int {
	if i <= 9 {
		return i
	}
	return 0
}

// alike tells whether a and b are the same, in a way of the tests' own.
func alike(a, b api.Re) bool {
	return a.Kind == b.Kind && a.Set == b.Set && a.Lo == b.Lo && a.Hi == b.Hi && a.N == b.N && slices.EqualFunc(a.Kids, b.Kids, alike)
}

// copied is r with memory of its own.
func copied(r api.Re) api.Re {
	r.Kids = slices.Clone(r.Kids)
	for i := range r.Kids {
		r.Kids[i] = copied(r.Kids[i])
	}
	return r
}

// isZero tells whether nothing is in r.
func isZero(r api.Re) bool {
	return alike(r, api.Re{})
}

// checkRead holds that s is read as r.
func checkRead(t *testing.T, s string, r api.Re) {
	t.Helper()
	if got, n, err := Parse(s); !alike(got, r) || n != 0 || err != api.OK {
		t.Errorf("Parse(%q) is %v, %d, error %d; not %v", s, got, n, err, r)
	}
}

// checkRefused holds that s is refused, with the number n and the error want.
func checkRefused(t *testing.T, s string, n int, want api.Errno) {
	t.Helper()
	if got, at, err := Parse(s); !isZero(got) || at != n || err != want {
		t.Errorf("Parse(%q) is %v, %d, error %d; not %d, error %d", s, got, at, err, n, want)
	}
}

// checkPrinted holds that r may be, is printed as want, and read as it was (P4.1, P4.2).
func checkPrinted(t *testing.T, r api.Re, want string) {
	t.Helper()
	if got, err := Print(r); got != want || err != api.OK || !May(r) {
		t.Errorf("Print(%v) is %q, error %d; not %q", r, got, err, want)
	}
	checkRead(t, want, r)
}

// checkNotPrinted holds that r may not be, and is refused with the error want.
func checkNotPrinted(t *testing.T, r api.Re, want api.Errno) {
	t.Helper()
	if s, err := Print(r); s != "" || err != want || May(r) {
		t.Errorf("Print(%v) is %q, error %d; not error %d", r, s, err, want)
	}
}

// TestTexts holds the texts of expressions by hand, printed and read (P4.1, P4.2).
func TestTexts(t *testing.T) {
	a, b, c := in("a"), in("b"), in("c")
	for want, r := range map[string]api.Re{
		"": empty, "a": a, "ab": cat(a, b), "abc": cat(a, b, c), "^": begin, "$": end, ".": anyOne, "^$": cat(begin, end), "$^": cat(end, begin), "^a$": cat(begin, a, end), "^^": cat(begin, begin),
		"|": alt(empty, empty), "||": alt(empty, empty, empty), "a|": alt(a, empty), "|a": alt(empty, a), "a|b": alt(a, b), "a|b|c": alt(a, b, c), "ab|c": alt(cat(a, b), c), "a||b": alt(a, empty, b), "^|$": alt(begin, end), "a*|b+": alt(times(a, 0, -1), times(b, 1, -1)),
		"a*": times(a, 0, -1), "a+": times(a, 1, -1), "a?": times(a, 0, 1), ".*": times(anyOne, 0, -1), "[ac]+": times(in("ac"), 1, -1), `\*?`: times(in("*"), 0, 1),
		"a{0}": times(a, 0, 0), "a{1}": times(a, 1, 1), "a{2}": times(a, 2, 2), "a{8}": times(a, 8, 8), "a{2,}": times(a, 2, -1), "a{8,}": times(a, 8, -1), "a{0,2}": times(a, 0, 2), "a{0,8}": times(a, 0, 8), "a{1,2}": times(a, 1, 2), "a{7,8}": times(a, 7, 8),
		"ab*c": cat(a, times(b, 0, -1), c), "a*b?": cat(times(a, 0, -1), times(b, 0, 1)), "a{2}b": cat(times(a, 2, 2), b),
		"()": group(1, empty), "(a)": group(1, a), "(ab)": group(1, cat(a, b)), "(a|b)": group(1, alt(a, b)), "(a|b)*$": cat(times(group(1, alt(a, b)), 0, -1), end), "(^)": group(1, begin), "(^)*": times(group(1, begin), 0, -1), "($)?": times(group(1, end), 0, 1), "()+": times(group(1, empty), 1, -1), "(a*)*": times(group(1, times(a, 0, -1)), 0, -1), "(|)": group(1, alt(empty, empty)),
		"(a)(b)": cat(group(1, a), group(2, b)), "((a)b)(c)": cat(group(1, cat(group(2, a), b)), group(3, c)), "(a)|(b)": alt(group(1, a), group(2, b)), "(a)*((b)|c)": cat(times(group(1, a), 0, -1), group(2, alt(group(3, b), c))), "a|(b)": alt(a, group(1, b)), "(a){2,}(b)": cat(times(group(1, a), 2, -1), group(2, b)),
		"]": in("]"), "}": in("}"), "-": in("-"), ",": in(","), "a]b}": cat(bytesOf("a]b}")...), "0}": cat(bytesOf("0}")...), "\x00\n\"\xff": cat(bytesOf("\x00\n\"\xff")...), "\u00e4": cat(bytesOf("\xc3\xa4")...),
		`\\`: in(`\`), `\|`: in("|"), `\(`: in("("), `\)`: in(")"), `\*`: in("*"), `\+`: in("+"), `\?`: in("?"), `\{`: in("{"), `\.`: in("."), `\[`: in("["), `\^`: in("^"), `\$`: in("$"), `\\\\`: cat(bytesOf(`\\`)...), `\\*`: times(in(`\`), 0, -1), `\(\)`: cat(bytesOf("()")...),
		"[a-b]": in("ab"), "[a-c]": in("abc"), "[ac]": in("ac"), "[a-ce]": in("abce"), "[a-ce-g]": in("abcefg"), "[0-9A-Z_a-z]": in("0123456789ABCDEFGHIJKLMNOPQRSTUVWXYZ_abcdefghijklmnopqrstuvwxyz"),
		`[\-a]`: in("-a"), `[\]a]`: in("]a"), `[\\a]`: in(`\a`), `[A\^]`: in("A^"), `[\\-\^]`: in(`\]^`), `[\]-\^]`: in("]^"), `[\^-_]`: in("^_"), `[\^-a]`: in("^_`a"), `[\^a]`: in("^a"), `[Z-\^]`: in(`Z[\]^`), `[\^-b]`: in("^_`ab"), "[*-+?{]": in("*+?{"), "[$(-+.?[{-|]": in("$()*+.?[{|"), `[,-\-]`: in(",-"), `[\--.]`: in("-."), "[\x00\xff]": in("\x00\xff"), "[\x00-\xfe]": not("\xff"), "[\x01-\xff]": not("\x00"), "[^\x00-\xff]": in(""), "[\x00-`b-\xff]": not("a"), "[^\x00-\xff]*": times(in(""), 0, -1), `[+\-]`: in("+-"), "[[a]": in("[a"),
	} {
		checkPrinted(t, r, want)
	}
}

// TestOtherTexts holds texts that are read, but not printed (P4.1).
func TestOtherTexts(t *testing.T) {
	a := in("a")
	for s, r := range map[string]api.Re{
		`\a`: a, `\]`: in("]"), `\}`: in("}"), `\-`: in("-"), `\n`: in("n"), `\1`: in("1"), "\\\x00": in("\x00"), "\\\xff": in("\xff"), "\\\n": in("\n"), `\a\b`: cat(a, in("b")), `\a*`: times(a, 0, -1),
		"a{0,1}": times(a, 0, 1), "a{0,}": times(a, 0, -1), "a{1,}": times(a, 1, -1), "a{0,0}": times(a, 0, 0), "a{1,1}": times(a, 1, 1), "a{8,8}": times(a, 8, 8), "(a){0,}": times(group(1, a), 0, -1),
		"[a]": a, "[aa]": a, "[a-a]": a, "[ab]": in("ab"), "[ba]": in("ab"), "[abc]": in("abc"), "[ca-b]": in("abc"), "[a-cb-d]": in("abcd"), "[\x00-\xff]": anyOne, "[.]": in("."), "[*]": in("*"), "[$]": in("$"), "[|]": in("|"), "[(]": in("("), "[)]": in(")"), "[[]": in("["), "[{]": in("{"), "[(a)]": in("(a)"),
		`[\a]`: a, `[\]]`: in("]"), `[\-]`: in("-"), `[\\]`: in(`\`), `[\^]`: in("^"), `[\n]`: in("n"), `[a\^]`: in("a^"), `[\a-\c]`: in("abc"), `[a-\c]`: in("abc"), `[\a-c]`: in("abc"), `[\--\-]`: in("-"), `[\]-\]]`: in("]"), `[\.]`: in("."), "[\\\x00-\\\xff]": anyOne,
		"[a^]": in("a^"), "[a^b]": in("ab^"), "[Z-^]": in(`Z[\]^`), "[+^-a]": in("+^_`a"), "[a^^]": in("a^"),
		"[^a]": not("a"), "[^ab]": not("ab"), "[^a-c]": not("abc"), "[^^]": not("^"), "[^^a]": not("^a"), "[^^-a]": not("^_`a"), `[^\]]`: not("]"), `[^\-]`: not("-"), `[^\^]`: not("^"), `[^\\]`: not(`\`), "[^aa]": not("a"), "[^\x00]": not("\x00"), "[^\xff]": not("\xff"), "[^\x00-\xfe]": in("\xff"), "[^\x01-\xff]": in("\x00"), "[^\x00-ac-\xff]": in("b"), "[^\x00-)+-\xff]": in("*"), "[^\x00-\x7f\x80-\xff]": in(""), "[^b\x00-ac-\xff]": in(""), "[^[]": not("["), "[^.]": not("."),
		"[^a]*": times(not("a"), 0, -1), "([^a])": group(1, not("a")), "[a]{2}": times(a, 2, 2), "[a]|[^a]": alt(a, not("a")), "[a]]": cat(a, in("]")), "[a]-[b]": cat(a, in("-"), in("b")), "[(]a": cat(in("("), a),
	} {
		checkRead(t, s, r)
		printed, err := Print(r)
		if printed == s || err != api.OK {
			t.Errorf("Print(%v) is %q, error %d", r, printed, err)
		}
		checkRead(t, printed, r)
	}
}

// TestRefused holds by hand the places at which texts can't go on (P4.1).
func TestRefused(t *testing.T) {
	for s, place := range map[string]int{
		`\`: 1, `a\`: 2, `\\\`: 3, `(\`: 2, `a|\`: 3, `\a\`: 3,
		"*": 0, "+": 0, "?": 0, "{": 0, "{2}": 0, "*a": 0, "a**": 2, "a*+": 2, "a+*": 2, "a??": 2, "a?{2}": 2, "a{2}{3}": 4, "a{2}*": 4, "a{2,}?": 5, "^*": 1, "$*": 1, "^+": 1, "$?": 1, "^{2}": 1, "a^*": 2, "a$*b": 2, "|*": 1, "a|*": 2, "a|+b": 2, "(*": 1, "(*)": 1, "(?:a)": 1, "(|*)": 2, "(a)**": 4, "()**": 3, "(^*)": 2, "(a|{2})": 3, "[a]**": 4, ".**": 2, `\***`: 3,
		")": 0, "a)": 1, "())": 2, "(a))": 3, "a|)": 2, "(a)b)": 4, "^)": 1, "*)": 0, ")*": 0, "a*)": 2, "[(])": 3, `\()`: 2, ")(": 0,
		"(": 1, "((": 2, "(a": 2, "(a|": 3, "(a)(": 4, "(()": 3, "(a(b)": 5, "a(": 2, "([)]": 4, `(\)`: 3,
		"a{": 2, "a{}": 2, "a{a}": 2, "a{,": 2, "a{,2}": 2, "a{2": 3, "a{2a}": 3, "a{22}": 3, "a{02}": 3, "a{12}": 3, "a{9}": 2, "a{9,}": 2, "a{-1}": 2, "a{ 2}": 2, "a{2 }": 3, "a{2,": 4, "a{2,a}": 4, "a{2,3": 5, "a{2,3a}": 5, "a{2,33}": 5, "a{2,9}": 4, "a{2,1}": 4, "a{1,0}": 4, "a{8,7}": 4, "a{2,,}": 4, "a{2,3,}": 5, "a{2,1": 4, "a{/}": 2, "a{:}": 2, "a{2,/}": 4, "a{0,:}": 4, "a{0,9": 4, "a{2}}{": 6, "a{2}{": 4, "a{\x00}": 2, "a{\xff}": 2, "(a{)": 3, "a{2,)": 4, "a{2)": 3,
		"[": 1, "a[": 2, "[a": 2, "[a-": 3, "[a-b": 4, "[a-bc": 5, `[\`: 2, `[a\`: 3, `[\a`: 3, `[a-\`: 4, `[a-\b`: 5, "[[": 2, `[\]`: 3, "[a][": 4, "[^": 2, "[^a": 3, `[^\`: 3, `[^\^`: 4, "[^a-": 4, "[^^": 3, "([": 2, "([a)": 4,
		"[]": 1, "[]]": 1, "[]a]": 1, "[-": 1, "[-]": 1, "[-a]": 1, "[--a]": 1, "a[]": 2, "[a][]": 4, "[^]": 2, "[^]a]": 2, "[^-]": 2, "[^-a]": 2, "[^]]": 2,
		"[a-]": 3, "[a--]": 3, "[a-]]": 3, `[\a-]`: 4, "[ab-]": 4, "[a-b-c]": 4, "[a-b-]": 4, "[a-bc-]": 6, `[a-b\--]`: 7, "[^a-]": 4, "[^a-b-c]": 5, "[a-b^-]": 6,
		"[b-a]": 3, "[b-a": 3, `[b-\a]`: 4, `[\b-a]`: 4, `[\b-\a]`: 5, `[b-\a`: 4, "[ac-b]": 4, "[\xff-\xfe]": 3, "[\x01-\x00]": 3, `[\]-\\]`: 5, `[\]-\-]`: 5, "[^b-a]": 4, `[^b-\a]`: 5, "[a-^]": 3, `[a-\^]`: 4, "[^a-^]": 4, "[b-ab-a]": 3, "[a-b][b-a]": 8, "([b-a])": 4,
		"[b-a]*)(": 3, "a**)": 2, "(a{9}": 3, "(((a)**": 6, "a|b|)": 4,
	} {
		checkRefused(t, s, place, api.ErrForm)
	}
}

// TestReadBounds holds the most bytes of a text, and that it is told ahead of all else (P4.1).
func TestReadBounds(t *testing.T) {
	for _, s := range []string{"a", "*", "(", ")", "[", `\`, "|", ".", "\xff", "()", "a*", "[^a]", "{"} {
		long := strings.Repeat(s, 201)[:201]
		checkRefused(t, long, 200, api.ErrLong)
		checkRefused(t, long+"a", 200, api.ErrLong)
		checkRefused(t, strings.Repeat(s, 100000), 200, api.ErrLong)
	}
	checkPrinted(t, word(strings.Repeat("a", 200)), strings.Repeat("a", 200))
	checkPrinted(t, word(strings.Repeat("(", 100)), strings.Repeat(`\(`, 100))
	checkPrinted(t, alt(slices.Repeat([]api.Re{empty}, 201)...), strings.Repeat("|", 200))
	checkRead(t, "["+strings.Repeat("a", 198)+"]", in("a"))
	checkRefused(t, strings.Repeat("a", 199)+`\`, 200, api.ErrForm)
	checkRefused(t, strings.Repeat("a", 199)+"[", 200, api.ErrForm)
	checkRefused(t, strings.Repeat("a", 199)+"(", 200, api.ErrForm)
	checkRefused(t, strings.Repeat("a", 199)+")", 199, api.ErrForm)
	checkRefused(t, strings.Repeat("a", 199)+"{", 200, api.ErrForm)
	checkRefused(t, "("+strings.Repeat("a", 199), 200, api.ErrForm)
	checkRefused(t, "["+strings.Repeat("a", 199), 200, api.ErrForm)
}

// TestNest holds how many groups may stand within one another, read and printed (P4.1, P4.2).
func TestNest(t *testing.T) {
	checkPrinted(t, nested(64, empty), strings.Repeat("(", 64)+strings.Repeat(")", 64))
	checkPrinted(t, nested(64, in("a")), strings.Repeat("(", 64)+"a"+strings.Repeat(")", 64))
	checkPrinted(t, nested(64, times(in("("), 0, -1)), strings.Repeat("(", 64)+`\(*`+strings.Repeat(")", 64))
	checkNotPrinted(t, nested(65, empty), api.ErrArg)
	checkNotPrinted(t, nested(65, in("a")), api.ErrArg)
	checkNotPrinted(t, cat(in("a"), nested(65, empty)), api.ErrArg)
	checkNotPrinted(t, times(nested(65, empty), 0, -1), api.ErrArg)
	checkNotPrinted(t, alt(nested(65, empty), empty), api.ErrArg)
	checkNotPrinted(t, nested(2000, empty), api.ErrArg)

	open, shut := strings.Repeat("(", 64), strings.Repeat(")", 64)
	for s, place := range map[string]int{
		open + "(": 64, open + "()" + shut: 64, strings.Repeat("(", 200): 64, "a" + open + "(": 65, "()" + open + "(": 66, open + ")((": 66, "(a)*" + open + "(": 68, open + "|(": 65, open + "a*()": 66, open + "[(](": 67, open + `\((`: 66, "[(]" + open + "(": 67, open + "(*": 64, open + "()" + shut + ")": 64,
	} {
		checkRefused(t, s, place, api.ErrDeep)
	}
	for s, place := range map[string]int{
		open: 64, open + "*": 64, "*" + open + "(": 0, open + "a**(": 66, open + "[b-a](": 67, open + shut + ")": 128, open + shut + "**": 129, open + `\(`: 66, ")" + open + "(": 0, open + ")" + "(": 66,
	} {
		checkRefused(t, s, place, api.ErrForm)
	}
	if r, n, err := Parse(open + shut + "(" + open[1:] + shut[1:] + ")"); n != 200 || err != api.ErrLong || !isZero(r) {
		t.Errorf("of 256 bytes Parse is %d, error %d", n, err)
	}
	wide, _, err := Parse(strings.Repeat("(((())))", 25))
	if err != api.OK || Groups(wide) != 100 || len(wide.Kids) != 25 {
		t.Errorf("of 100 groups side by side, Parse is error %d", err)
	}
}

// TestNumbers holds the numbers of groups: the first nine, by where they begin (P4.1).
func TestNumbers(t *testing.T) {
	side, kids := strings.Repeat("(a)", 12), []api.Re{}
	for i := range 12 {
		kids = append(kids, group(groupText(i+1), in("a")))
	}
	checkPrinted(t, cat(kids...), side)
	checkPrinted(t, alt(kids...), strings.Repeat("(a)|", 11)+"(a)")
	checkPrinted(t, nested(12, in("a")), strings.Repeat("(", 12)+"a"+strings.Repeat(")", 12))
	checkPrinted(t, cat(nested(8, empty), nestedFrom(9, 3)), strings.Repeat("(", 8)+strings.Repeat(")", 8)+"((()))")
	for i := range kids {
		for _, n := range []int{-1, 0, 1, 9, 10, 11, 12, 13} {
			if n == kids[i].N {
				continue
			}
			wrong := copied(cat(kids...))
			wrong.Kids[i].N = n
			checkNotPrinted(t, wrong, api.ErrArg)
		}
	}
	for _, r := range []api.Re{
		group(0, empty), group(2, empty), group(10, empty), group(-1, empty), group(2, group(1, empty)), group(1, group(1, empty)), group(1, group(3, empty)), group(0, group(1, empty)), cat(group(2, empty), group(1, empty)), cat(group(1, empty), group(1, empty)), alt(group(1, empty), group(1, empty)), cat(group(1, group(3, empty)), group(2, empty)), times(group(0, empty), 0, -1), cat(group(1, empty), group(0, empty)),
	} {
		checkNotPrinted(t, r, api.ErrArg)
	}
}

// nestedFrom is n groups within one another, the first one being the i-th.
func nestedFrom(i, n int) api.Re {
	if n == 0 {
		return empty
	}
	return group(groupText(i), nestedFrom(i+1, n-1))
}

// TestLongTexts holds that an expression whose text is too long is refused for it alone (P4.1).
func TestLongTexts(t *testing.T) {
	for _, r := range []api.Re{
		word(strings.Repeat("a", 201)), word(strings.Repeat("(", 101)), cat(slices.Repeat([]api.Re{begin}, 201)...), alt(slices.Repeat([]api.Re{empty}, 202)...), alt(slices.Repeat([]api.Re{in("a")}, 101)...),
		cat(append(bytesOf(strings.Repeat("a", 199)), in("("))...), cat(append(bytesOf(strings.Repeat("a", 199)), times(in("a"), 0, -1))...), cat(append(bytesOf(strings.Repeat("a", 196)), times(in("a"), 2, 3))...), cat(append(bytesOf(strings.Repeat("a", 195)), in(""))...), cat(append(bytesOf(strings.Repeat("a", 199)), group(1, empty))...),
		cat(slices.Repeat([]api.Re{in("ac")}, 51)...), cat(slices.Repeat([]api.Re{in("")}, 34)...), group(1, word(strings.Repeat("a", 199))), times(group(1, word(strings.Repeat("a", 198))), 0, 1), nested(64, word(strings.Repeat("a", 73))), word(strings.Repeat("a", 100000)), alt(slices.Repeat([]api.Re{word(strings.Repeat("a", 1000))}, 100)...),
	} {
		checkNotPrinted(t, r, api.ErrLong)
	}
	for want, r := range map[string]api.Re{
		strings.Repeat("a", 196) + "a{2}": cat(append(bytesOf(strings.Repeat("a", 196)), times(in("a"), 2, 2))...), strings.Repeat("a", 194) + "[^\x00-\xff]": cat(append(bytesOf(strings.Repeat("a", 194)), in(""))...), strings.Repeat("[ac]", 50): cat(slices.Repeat([]api.Re{in("ac")}, 50)...), "(" + strings.Repeat("a", 198) + ")": group(1, word(strings.Repeat("a", 198))), strings.Repeat("(", 64) + strings.Repeat("a", 72) + strings.Repeat(")", 64): nested(64, word(strings.Repeat("a", 72))),
	} {
		checkPrinted(t, r, want)
	}
	// What may not be for another reason as well is refused for that one.
	for _, r := range []api.Re{
		cat(append(bytesOf(strings.Repeat("a", 300)), empty)...), cat(append([]api.Re{empty}, bytesOf(strings.Repeat("a", 300))...)...), cat(append(bytesOf(strings.Repeat("a", 300)), group(2, empty))...), cat(append(bytesOf(strings.Repeat("a", 300)), times(begin, 0, -1))...), nested(65, word(strings.Repeat("a", 300))), alt(word(strings.Repeat("a", 300)), api.Re{Kind: api.ReNone}), cat(append(bytesOf(strings.Repeat("a", 300)), nested(65, empty))...),
	} {
		checkNotPrinted(t, r, api.ErrArg)
	}
}

// TestReadLonger holds that a text may be read whose expression has a longer text, and so may not be (P4.1).
func TestReadLonger(t *testing.T) {
	// The other bytes than a are 8 bytes when they are printed, [, 0 - ` b - 255, and ].
	for n, err := range map[int]api.Errno{25: api.OK, 26: api.ErrLong, 50: api.ErrLong} {
		r, place, read := Parse(strings.Repeat("[^a]", n))
		if place != 0 || read != api.OK || !alike(r, cat(slices.Repeat([]api.Re{not("a")}, n)...)) {
			t.Errorf("of %d sets Parse is %d, error %d", n, place, read)
		}
		if s, got := Print(r); got != err || (err == api.OK) != (len(s) == 8*n) || May(r) != (err == api.OK) {
			t.Errorf("of %d sets Print is %q, error %d", n, s, got)
		}
	}
}

// TestArgumentsStay holds that what is handed in isn't changed, and what is answered is the caller's own (R4).
func TestArgumentsStay(t *testing.T) {
	const text = `(a|b[c-e]*)((^)$|x{2,})?`
	r, _, _ := Parse(text)
	before := copied(r)
	Print(r)
	May(r)
	Same(r, r)
	Groups(r)
	if !alike(r, before) {
		t.Errorf("the expression has become %v", r)
	}
	var grow func(r api.Re)
	grow = func(r api.Re) {
		_ = append(r.Kids, api.Re{Kind: api.ReNone}, api.Re{Kind: api.ReNone})
		for _, kid := range r.Kids {
			grow(kid)
		}
	}
	grow(r)
	if !alike(r, before) {
		t.Errorf("with more behind its kids, the expression has become %v", r)
	}
	var spoil func(r api.Re)
	spoil = func(r api.Re) {
		for i := range r.Kids {
			spoil(r.Kids[i])
			r.Kids[i] = api.Re{Kind: api.ReNone}
		}
	}
	spoil(r)
	checkRead(t, text, before)
}

// TestDeepArguments holds that the calls end at deep and at wide arguments (P0).
func TestDeepArguments(t *testing.T) {
	const depth, width = 60000, 200000
	deep := map[int]api.Re{}
	for _, kind := range []int{api.ReGroup, api.ReRepeat, api.ReCat, api.ReAlt, api.ReNone, -1} {
		r := in("a")
		for range depth {
			r = api.Re{Kind: kind, Kids: []api.Re{r}, Hi: -1}
		}
		deep[kind] = r
		checkDeepRefused(t, r)
		if !Same(r, r) || Same(r, r.Kids[0]) || Same(r.Kids[0], r) {
			t.Errorf("Same of deep ones of the kind %d", kind)
		}
	}
	if n := Groups(deep[api.ReGroup]); n != depth {
		t.Errorf("of %d groups within one another Groups is %d", depth, n)
	}
	if n := Groups(deep[api.ReCat]); n != 0 {
		t.Errorf("of no groups Groups is %d", n)
	}
	wide := cat(slices.Repeat([]api.Re{in("a")}, width)...)
	checkWide(t, wide, 0)
	groups := cat(slices.Repeat([]api.Re{group(0, in("a"))}, width)...)
	for i := range 9 {
		groups.Kids[i].N = i + 1
	}
	checkWide(t, groups, width)
	checkWide(t, alt(slices.Repeat([]api.Re{empty}, width)...), 0)
}

func checkDeepRefused(t *testing.T, r api.Re) {
	t.Helper()
	if s, err := Print(r); s != "" || err != api.ErrArg || May(r) {
		t.Errorf("of a deep one of the kind %d Print is %d bytes, error %d", r.Kind, len(s), err)
	}
}

func checkWide(t *testing.T, r api.Re, groups int) {
	t.Helper()
	if s, err := Print(r); s != "" || err != api.ErrLong || May(r) || Groups(r) != groups || !Same(r, copied(r)) {
		t.Errorf("of a wide one of the kind %d Print is %d bytes, error %d; groups %d", r.Kind, len(s), err, Groups(r))
	}
}
