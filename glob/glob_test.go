package glob

import (
	"slices"
	"strings"
	"testing"

	"souffleur/api"
)

var (
	anyOne = api.Glob{Kind: api.GlobAny}
	many   = api.Glob{Kind: api.GlobMany}
)

func one(c byte) api.Glob {
	return api.Glob{Kind: api.GlobByte, Byte: c}
}

// set is a GlobSet whose spans go from each first byte of bounds to the one behind it.
func set(bounds string) api.Glob {
	spans := []api.Span{}
	for i := 0; i < len(bounds); i += 2 {
		spans = append(spans, api.Span{Lo: bounds[i], Hi: bounds[i+1]})
	}
	return api.Glob{Kind: api.GlobSet, Spans: spans}
}

// ones are the bytes of s, each a piece.
func ones(s string) []api.Glob {
	l := []api.Glob{}
	for i := range len(s) {
		l = append(l, one(s[i]))
	}
	return l
}

// alike tells whether a and b are the same, in a way of the tests' own.
func alike(a, b []api.Glob) bool {
	return slices.EqualFunc(a, b, func(p, q api.Glob) bool {
		return p.Kind == q.Kind && p.Byte == q.Byte && slices.Equal(p.Spans, q.Spans)
	})
}

// copied is l with memory of its own.
func copied(l []api.Glob) []api.Glob {
	l = slices.Clone(l)
	for i := range l {
		l[i].Spans = slices.Clone(l[i].Spans)
	}
	return l
}

// checkRead holds that s is read as the pieces l.
func checkRead(t *testing.T, s string, l []api.Glob) {
	t.Helper()
	if got, n, err := Parse(s); !alike(got, l) || n != 0 || err != api.OK {
		t.Errorf("Parse(%q) is %v, %d, error %d; not %v", s, got, n, err, l)
	}
}

// checkRefused holds that s is refused, with the number n and the error want.
func checkRefused(t *testing.T, s string, n int, want api.Errno) {
	t.Helper()
	if got, at, err := Parse(s); len(got) != 0 || at != n || err != want {
		t.Errorf("Parse(%q) is %v, %d, error %d; not %d, error %d", s, got, at, err, n, want)
	}
}

// checkPrinted holds that l is printed as want, and read as it was (P3.1, P3.2).
func checkPrinted(t *testing.T, l []api.Glob, want string) {
	t.Helper()
	if got, err := Print(l); got != want || err != api.OK {
		t.Errorf("Print(%v) is %q, error %d; not %q", l, got, err, want)
	}
	checkRead(t, want, l)
}

// TestTexts holds the texts of pieces by hand, printed and read (P3.1).
func TestTexts(t *testing.T) {
	for want, l := range map[string][]api.Glob{
		"": nil, "a": {one('a')}, "*": {many}, "?": {anyOne}, "pa[st]*": {one('p'), one('a'), set("sstt"), many},
		`\*`: {one('*')}, `\?`: {one('?')}, `\[`: {one('[')}, `\\`: {one('\\')}, `\\*`: {one('\\'), many}, `\\\*`: {one('\\'), one('*')},
		"]": {one(']')}, "-": {one('-')}, "a-b]": ones("a-b]"), "^!{}()$.|+": ones("^!{}()$.|+"), "\x00\n\"\xff": ones("\x00\n\"\xff"), "\u00e4": ones("\xc3\xa4"),
		"**": {many, many}, "?*?": {anyOne, many, anyOne}, "*[a]": {many, set("aa")},
		"[a]": {set("aa")}, "[ab]": {set("aabb")}, "[a-b]": {set("ab")}, "[a-cb-d]": {set("acbd")}, "[a-bcd-e]": {set("abccde")}, "[aa]": {set("aaaa")},
		"[*]": {set("**")}, "[?]": {set("??")}, "[[]": {set("[[")}, "[*-?]": {set("*?")}, "[[-^]": {set("[^")}, "[^a]": {set("^^aa")}, "[!a]": {set("!!aa")},
		`[\]]`: {set("]]")}, `[\-]`: {set("--")}, `[\\]`: {set(`\\`)}, `[\\-\]]`: {set(`\]`)}, `[\--\]]`: {set("-]")}, `[+-\-]`: {set("+-")}, `[\--a]`: {set("-a")},
		`[a\-b]`: {set("aa--bb")}, `[a-b\-c]`: {set("ab--cc")}, "[\x00-\xff]": {set("\x00\xff")}, "[a][b]": {set("aa"), set("bb")}, "[a]]": {set("aa"), one(']')}, "[a]-[b]": {set("aa"), one('-'), set("bb")},
	} {
		checkPrinted(t, l, want)
	}
}

// TestOtherTexts holds texts that are read, but not printed (P3.1).
func TestOtherTexts(t *testing.T) {
	for s, l := range map[string][]api.Glob{
		`\a`: ones("a"), `\]\-`: ones("]-"), `\^`: ones("^"), `\n\x`: ones("nx"), "\\\x00\\\xff": ones("\x00\xff"), "\\\n": ones("\n"),
		`[\a]`: {set("aa")}, `[\*\?\[]`: {set("**??[[")}, `[\a-\b]`: {set("ab")}, `[a-\b]`: {set("ab")}, `[\n]`: {set("nn")}, "[\\\x00-\\\xff]": {set("\x00\xff")},
		"[a-a]": {set("aa")}, `[\]-\]]`: {set("]]")}, `[\--\-]`: {set("--")}, `[\a-ab]`: {set("aabb")},
	} {
		checkRead(t, s, l)
		if printed, err := Print(l); printed == s || err != api.OK {
			t.Errorf("Print(%v) is %q, error %d", l, printed, err)
		}
	}
}

// TestRefused holds the places at which texts can't go on, by hand (P3.1).
func TestRefused(t *testing.T) {
	for s, place := range map[string]int{
		`\`: 1, `a\`: 2, `\\\`: 3, `*\`: 2, "[": 1, "a[": 2, "[a": 2, "[a-": 3, "[a-b": 4, "[a-bc": 5, `[\`: 2, `[a\`: 3, `[\a`: 3, `[a-\`: 4, `[a-\b`: 5, "[[": 2, `[\]`: 3, "[a][": 4, `[a]\`: 4,
		"[]": 1, "[]]": 1, "[]a]": 1, "[-": 1, "[-]": 1, "[-a]": 1, "[--a]": 1, "a[]": 2, "[a][]": 4,
		"[a-]": 3, "[a--]": 3, "[a-]]": 3, `[\a-]`: 4, "[ab-]": 4, "[a-b-c]": 4, "[a-b-]": 4, "[a-bc-]": 6, `[a-b\--]`: 7,
		"[b-a]": 3, "[b-a": 3, `[b-\a]`: 4, `[\b-a]`: 4, `[\b-\a]`: 5, `[b-\a`: 4, "[ac-b]": 4, "[\xff-\xfe]": 3, "[\x01-\x00]": 3, `[\]-\\]`: 5, `[\]-\-]`: 5, `[\]-a][\]-+]`: 10, "[b-ab-a]": 3, "[a-b][b-a]": 8,
	} {
		checkRefused(t, s, place, api.ErrForm)
	}
}

// TestReadBounds holds the most bytes of a pattern's text (P3.1).
func TestReadBounds(t *testing.T) {
	for _, piece := range []string{"a", "*", "?", "[", "]", `\`, "-", "\xff", "[]", "[b-a]"} {
		long := strings.Repeat(piece, 201)[:201]
		checkRefused(t, long, 200, api.ErrLong)
		checkRefused(t, long+"]", 200, api.ErrLong)
		checkRefused(t, strings.Repeat(piece, 100000), 200, api.ErrLong)
	}
	checkRead(t, strings.Repeat("a", 200), ones(strings.Repeat("a", 200)))
	checkRead(t, strings.Repeat(`\*`, 100), ones(strings.Repeat("*", 100)))
	checkRead(t, "["+strings.Repeat("a", 198)+"]", []api.Glob{set(strings.Repeat("a", 396))})
	checkRead(t, strings.Repeat("a", 199)+"*", append(ones(strings.Repeat("a", 199)), many))
	checkRefused(t, strings.Repeat("a", 199)+`\`, 200, api.ErrForm)
	checkRefused(t, strings.Repeat("a", 199)+"[", 200, api.ErrForm)
	checkRefused(t, "["+strings.Repeat("a", 199), 200, api.ErrForm)
	checkRefused(t, strings.Repeat("a", 198)+"[]", 199, api.ErrForm)
}

// TestPrintBounds holds the most bytes of what is printed (P3.1).
func TestPrintBounds(t *testing.T) {
	checkPrinted(t, ones(strings.Repeat("a", 200)), strings.Repeat("a", 200))
	checkPrinted(t, slices.Repeat([]api.Glob{many}, 200), strings.Repeat("*", 200))
	checkPrinted(t, ones(strings.Repeat("*", 100)), strings.Repeat(`\*`, 100))
	checkPrinted(t, []api.Glob{set(strings.Repeat("-a", 49)), one('x'), one('y')}, "["+strings.Repeat(`\--a`, 49)+"]xy")
	checkPrinted(t, []api.Glob{set(strings.Repeat("aa", 198))}, "["+strings.Repeat("a", 198)+"]")
	for _, l := range [][]api.Glob{
		ones(strings.Repeat("a", 201)), slices.Repeat([]api.Glob{many}, 201), slices.Repeat([]api.Glob{anyOne}, 201), ones(strings.Repeat("?", 101)),
		append(ones(strings.Repeat("a", 199)), one('[')), {set(strings.Repeat("aa", 199))}, {set(strings.Repeat("ab", 67))}, {set(strings.Repeat("]]", 100))},
		slices.Repeat([]api.Glob{set("aa")}, 67), {set(strings.Repeat("aa", 100000))}, slices.Repeat([]api.Glob{many}, 100000),
	} {
		if s, err := Print(l); s != "" || err != api.ErrLong || !May(l) {
			t.Errorf("Print of %d pieces is %q, error %d", len(l), s, err)
		}
	}
	tooLong := append(ones(strings.Repeat("a", 300)), set("ba"))
	if s, err := Print(tooLong); s != "" || err != api.ErrArg {
		t.Errorf("of pieces that may not be, and are too many, Print is %q, error %d", s, err)
	}
}

// mayNotBe are pieces that may not be, each for another reason.
func mayNotBe() [][]api.Glob {
	l := [][]api.Glob{}
	for _, piece := range []api.Glob{
		{Kind: 4}, {Kind: -1}, {Kind: 1 << 62}, {Kind: -1 << 63}, {Kind: 4, Spans: []api.Span{{Lo: 1, Hi: 2}}},
		{Kind: api.GlobByte, Byte: 'a', Spans: []api.Span{{}}}, {Kind: api.GlobByte, Spans: []api.Span{{Lo: 'a', Hi: 'a'}}},
		{Kind: api.GlobAny, Byte: 'a'}, {Kind: api.GlobAny, Spans: []api.Span{{}}}, {Kind: api.GlobMany, Byte: 1}, {Kind: api.GlobMany, Spans: []api.Span{{Hi: 255}}},
		{Kind: api.GlobSet}, {Kind: api.GlobSet, Spans: []api.Span{}}, {Kind: api.GlobSet, Byte: 'a', Spans: []api.Span{{Lo: 'a', Hi: 'a'}}}, {Kind: api.GlobSet, Byte: 'a'},
		set("ba"), set("\xff\xfe"), set("\x01\x00"), set("aaba"), set("baaa"), set("aabacc"),
	} {
		l = append(l, []api.Glob{piece}, []api.Glob{many, piece}, []api.Glob{piece, many}, []api.Glob{one('a'), piece, anyOne})
	}
	return l
}

// TestMay holds which pieces may be (P3.1).
func TestMay(t *testing.T) {
	for _, l := range [][]api.Glob{
		nil, {}, {one(0)}, {one(255)}, {{Kind: api.GlobByte, Byte: '*', Spans: []api.Span{}}}, {anyOne}, {many}, {{Kind: api.GlobMany, Spans: []api.Span{}}}, {many, many},
		{set("aa")}, {set("ab")}, {set("\x00\xff")}, {set("\x00\x00\xff\xff")}, {set("bcab")}, {one('a'), many, set("ab"), anyOne}, ones(strings.Repeat("a", 1000)),
	} {
		if !May(l) {
			t.Errorf("%v may not be", l)
		}
	}
}

// TestMayNot holds that pieces that may not be are refused by May and Print, and match nothing (P3.1).
func TestMayNot(t *testing.T) {
	for _, l := range mayNotBe() {
		if May(l) {
			t.Errorf("%v may be", l)
		}
		if s, err := Print(l); s != "" || err != api.ErrArg {
			t.Errorf("Print(%v) is %q, error %d", l, s, err)
		}
		for _, s := range []string{"", "a", "b", "aa", "aaa", "a\x00a", "\x00"} {
			if Match(l, s) {
				t.Errorf("%q stands for %v", s, l)
			}
		}
	}
}

// TestMatch holds by hand which texts stand for patterns (P3.1).
func TestMatch(t *testing.T) {
	for _, c := range []struct {
		pattern  string
		yes, not []string
	}{
		{"pa[st]*", []string{"password", "pas", "pat", "past"}, []string{"", "pa", "pax", "xpas", "Pas", "p", "pa["}},
		{"", []string{""}, []string{"a", "\x00"}},
		{"a", []string{"a"}, []string{"", "b", "aa", "ab", "ba", "A"}},
		{"?", []string{"a", "\x00", "\xff", "\n", "?"}, []string{"", "aa", "\u00e4"}},
		{"*", []string{"", "a", "\x00\n\xff", "\u00e4"}, nil},
		{"**", []string{"", "a", "ab"}, nil},
		{"?*", []string{"a", "ab"}, []string{""}},
		{"*?", []string{"a", "ab"}, []string{""}},
		{"*?*?*", []string{"ab", "abc"}, []string{"", "a"}},
		{"a*", []string{"a", "ab", "aa"}, []string{"", "b", "ba"}},
		{"*a", []string{"a", "ba", "aa", "aba"}, []string{"", "ab", "b"}},
		{"*a*", []string{"a", "bab", "aa"}, []string{"", "b"}},
		{"a*b*c", []string{"abc", "axbxc", "abbcc", "abcbc"}, []string{"ac", "acb", "abcx", "xabc", "ab"}},
		{"*ab", []string{"ab", "aab", "abab"}, []string{"aba", "b", "a"}},
		{"*aab*b", []string{"aabb", "aaabab", "aabaabb"}, []string{"aab", "abab", "aabba"}},
		{"*ab?d", []string{"abcd", "ababcd", "abxdabcd"}, []string{"abd", "abcdx", "abccd"}},
		{"[b-d]", []string{"b", "c", "d"}, []string{"", "a", "e", "bb", "-"}},
		{"[b-df]", []string{"b", "d", "f"}, []string{"a", "e", "g"}},
		{"[fb-d]", []string{"b", "d", "f"}, []string{"a", "e", "g"}},
		{"[^a]", []string{"^", "a"}, []string{"b", ""}},
		{`[\]\-\\]`, []string{"]", "-", `\`}, []string{"[", "a", "", `\]`}},
		{"[\x80-\xff]", []string{"\x80", "\xff"}, []string{"\x7f", "\x00", "\u00e4"}},
		{"[*?]", []string{"*", "?"}, []string{"a", ""}},
		{`\*\?\[\\`, []string{`*?[\`}, []string{`*?[`, `\*\?\[\\`, "a"}},
		{"]-", []string{"]-"}, []string{"]", "-"}},
		{"*[ab]c", []string{"ac", "bc", "xbac"}, []string{"c", "abx", "xc", "acb"}},
	} {
		l, _, err := Parse(c.pattern)
		if err != api.OK {
			t.Errorf("%q isn't read, error %d", c.pattern, err)
		}
		for _, s := range c.yes {
			if !Match(l, s) {
				t.Errorf("%q doesn't stand for %q", s, c.pattern)
			}
		}
		for _, s := range c.not {
			if Match(l, s) {
				t.Errorf("%q stands for %q", s, c.pattern)
			}
		}
	}
}

// stands tells whether s stands for l, as the chapter's words are.
func stands(l []api.Glob, s string) bool {
	if len(l) == 0 {
		return s == ""
	}
	if l[0].Kind == api.GlobMany {
		return stands(l[1:], s) || s != "" && stands(l, s[1:])
	}
	if s == "" || l[0].Kind == api.GlobByte && s[0] != l[0].Byte {
		return false
	}
	outside := func(span api.Span) bool { return s[0] < span.Lo || s[0] > span.Hi }
	if l[0].Kind == api.GlobSet && !slices.ContainsFunc(l[0].Spans, func(span api.Span) bool { return !outside(span) }) {
		return false
	}
	return stands(l[1:], s[1:])
}

// listsOf answers all lists of up to most of the things.
func listsOf[T any](things []T, most int) [][]T {
	all, from := [][]T{nil}, 0
	for range most {
		to := len(all)
		for _, l := range all[from:to] {
			for _, thing := range things {
				all = append(all, append(slices.Clone(l), thing))
			}
		}
		from = to
	}
	return all
}

// TestMatchAll holds all short lists of pieces and all short texts against the chapter's words (P3.1).
func TestMatchAll(t *testing.T) {
	for _, l := range listsOf([]api.Glob{one('a'), one('b'), anyOne, many, set("ac"), set("bbaa")}, 4) {
		for _, s := range listsOf([]byte("abc"), 5) {
			if got, want := Match(l, string(s)), stands(l, string(s)); got != want {
				t.Fatalf("Match(%v, %q) is %t", l, s, got)
			}
		}
	}
	for _, l := range listsOf([]api.Glob{one('a'), anyOne, many}, 7) {
		for _, s := range listsOf([]byte("ab"), 6) {
			if got, want := Match(l, string(s)), stands(l, string(s)); got != want {
				t.Fatalf("Match(%v, %q) is %t", l, s, got)
			}
		}
	}
}

// TestMatchEachByte holds each byte against pieces of each byte (P3.1).
func TestMatchEachByte(t *testing.T) {
	for c := range 256 {
		s := string([]byte{byte(c)})
		if !Match([]api.Glob{anyOne}, s) || !Match([]api.Glob{set("\x00\xff")}, s) || !Match([]api.Glob{many}, s) {
			t.Errorf("%q is no byte", s)
		}
		for d := range 256 {
			if Match([]api.Glob{one(byte(d))}, s) != (c == d) {
				t.Errorf("%q and the piece of the byte %d", s, d)
			}
			span := api.Glob{Kind: api.GlobSet, Spans: []api.Span{{Lo: byte(min(d, 100)), Hi: byte(max(d, 100))}}}
			if Match([]api.Glob{span}, s) != (min(d, 100) <= c && c <= max(d, 100)) {
				t.Errorf("%q and the piece %v", s, span)
			}
		}
	}
}

// byteTexts answers how a byte of the letters may be written where those of signs need a \.
func byteTexts(letters, signs string) map[string]byte {
	texts := map[string]byte{}
	for i := range len(letters) {
		texts[`\`+letters[i:i+1]] = letters[i]
		if !strings.Contains(signs, letters[i:i+1]) {
			texts[letters[i:i+1]] = letters[i]
		}
	}
	return texts
}

// itemTexts answers all texts of one item of the letters.
func itemTexts(letters string) map[string]api.Span {
	texts := map[string]api.Span{}
	for lo, from := range byteTexts(letters, `]-\`) {
		texts[lo] = api.Span{Lo: from, Hi: from}
		for hi, to := range byteTexts(letters, `]-\`) {
			if from <= to {
				texts[lo+"-"+hi] = api.Span{Lo: from, Hi: to}
			}
		}
	}
	return texts
}

// pieceTexts answers all texts of one piece, of the letters and of up to most bytes.
func pieceTexts(letters string, most int) map[string]api.Glob {
	texts := map[string]api.Glob{"*": many, "?": anyOne}
	for s, c := range byteTexts(letters, `*?[\`) {
		texts[s] = one(c)
	}
	items := itemTexts(letters)
	sets := map[string][]api.Span{"": nil}
	for len(sets) > 0 {
		longer := map[string][]api.Span{}
		for s, spans := range sets {
			for item, span := range items {
				if grown := "[" + s + item + "]"; len(grown) <= most {
					longer[s+item] = append(slices.Clone(spans), span)
					texts[grown] = api.Glob{Kind: api.GlobSet, Spans: longer[s+item]}
				}
			}
		}
		sets = longer
	}
	return texts
}

// patternTexts answers all patterns' texts of the letters and of up to most bytes, and the pieces of each.
func patternTexts(letters string, most int) map[string][]api.Glob {
	pieces := pieceTexts(letters, most)
	all, last := map[string][]api.Glob{"": nil}, map[string][]api.Glob{"": nil}
	for len(last) > 0 {
		longer := map[string][]api.Glob{}
		for s, l := range last {
			for text, piece := range pieces {
				if len(s)+len(text) <= most {
					longer[s+text] = append(slices.Clone(l), piece)
				}
			}
		}
		for s, l := range longer {
			all[s] = l
		}
		last = longer
	}
	return all
}

// TestReadAll holds all short texts against all that the chapter's words make (P3.1).
func TestReadAll(t *testing.T) {
	for _, letters := range []string{`[]-\a`, `[]-\ab*`, `[-b?`} {
		const most = 4
		patterns := patternTexts(letters, most+2)
		beginnings := map[string]int{}
		for s := range patterns {
			for n := range len(s) + 1 {
				beginnings[s[:n]] = n
			}
		}
		for _, bytes := range listsOf([]byte(letters), most) {
			s := string(bytes)
			if l, is := patterns[s]; is {
				checkRead(t, s, l)
				continue
			}
			// Two bytes more end each beginning that may go on: one that is no less than all others, and a ].
			place := 0
			for place < len(s) && beginnings[s[:place+1]] > 0 {
				place++
			}
			checkRefused(t, s, place, api.ErrForm)
		}
	}
}

// TestReadEachByte sets each byte behind each beginning that waits for something else (P3.1).
func TestReadEachByte(t *testing.T) {
	for c := range 256 {
		s := string([]byte{byte(c)})
		asPiece, asItem := strings.Contains(`*?[\`, s), strings.Contains(`]-\`, s)
		if !asPiece {
			checkPrinted(t, ones("a"+s), "a"+s)
		} else {
			checkPrinted(t, ones("a"+s), `a\`+s)
		}
		checkRead(t, `\`+s, ones(s))
		checkRead(t, `[\`+s+`]`, []api.Glob{set(s + s)})
		checkRead(t, `[\`+s+"-\xff]", []api.Glob{set(s + "\xff")})
		checkRead(t, "[\x00-\\"+s+`]`, []api.Glob{set("\x00" + s)})
		switch {
		case !asItem:
			checkPrinted(t, []api.Glob{set(s + s)}, "["+s+"]")
			checkPrinted(t, []api.Glob{set("\x00\x00" + s + s)}, "[\x00"+s+"]")
			checkRead(t, "[\x00-"+s+"]", []api.Glob{set("\x00" + s)})
		case s == `\`:
			checkRefused(t, `[\`, 2, api.ErrForm)
			checkRefused(t, `[a-\`, 4, api.ErrForm)
		default:
			checkRefused(t, "["+s+"]", 1, api.ErrForm)
			checkRefused(t, "[\x00-"+s+"]", 3, api.ErrForm)
		}
		for d := range 256 {
			if text := string([]byte{'[', '\\', byte(c), '-', '\\', byte(d), ']'}); d < c {
				checkRefused(t, text, 5, api.ErrForm)
			} else {
				checkRead(t, text, []api.Glob{set(s + string([]byte{byte(d)}))})
			}
		}
	}
}

// TestPrintedIsParsed goes through spans of all bytes, and short lists of pieces (P3.2).
func TestPrintedIsParsed(t *testing.T) {
	lists := listsOf([]api.Glob{one('a'), one('*'), one('['), one(']'), one('-'), one('\\'), anyOne, many, set("aa"), set("]]-a"), set("--aa"), set(`\]--`)}, 3)
	for lo := range 256 {
		lists = append(lists, []api.Glob{one(byte(lo))})
		for hi := lo; hi < 256; hi++ {
			lists = append(lists, []api.Glob{{Kind: api.GlobSet, Spans: []api.Span{{Lo: byte(lo), Hi: byte(hi)}, {Lo: '+', Hi: '+'}}}})
		}
	}
	for _, l := range lists {
		s, err := Print(l)
		if err != api.OK {
			t.Fatalf("Print(%v) is %q, error %d", l, s, err)
		}
		checkPrinted(t, l, s)
	}
}

// TestSame holds which pieces are the same, also of those that may not be (P3.1).
func TestSame(t *testing.T) {
	lists := [][]api.Glob{
		nil, {one('a')}, {one('b')}, {one(0)}, {anyOne}, {many}, {many, many}, {one('a'), one('b')}, {one('b'), one('a')}, {one('a'), many}, {many, one('a')}, {{Kind: 4}}, {{Kind: -1}},
		{{Kind: api.GlobAny, Byte: 1}}, {{Kind: api.GlobMany, Byte: 1}}, {{Kind: api.GlobByte, Byte: 'a', Spans: []api.Span{{}}}}, {{Kind: api.GlobSet}}, {{Kind: api.GlobSet, Byte: 'a', Spans: []api.Span{{Lo: 'a', Hi: 'a'}}}},
		{set("aa")}, {set("ab")}, {set("bb")}, {set("ba")}, {set("aabb")}, {set("bbaa")}, {set("aaaa")}, {set("aa"), set("aa")}, {set("aabbcc")}, {set("aa"), one('a')}, ones("aaaa"), ones("aaab"), ones("baaa"),
	}
	for i, a := range lists {
		for j, b := range lists {
			if Same(a, copied(b)) != (i == j) {
				t.Errorf("Same(%v, %v) is %t", a, b, i != j)
			}
		}
	}
	if !Same(nil, []api.Glob{}) || !Same([]api.Glob{}, nil) || !Same([]api.Glob{many}, []api.Glob{{Kind: api.GlobMany, Spans: []api.Span{}}}) {
		t.Error("a list of nothing isn't the same as no list")
	}
}

// TestArgumentsStay holds that what is handed in isn't changed, and what is answered is the caller's own (R4).
func TestArgumentsStay(t *testing.T) {
	const text = `a[b-d\]]*?\*[e]`
	l := []api.Glob{one('a'), set("bd]]"), many, anyOne, one('*'), set("ee")}
	before := copied(l)
	May(l)
	Print(l)
	Match(l, "abxy*e")
	Same(l, l)
	if !alike(l, before) {
		t.Errorf("the pieces have become %v", l)
	}
	read, _, _ := Parse(text)
	for i := range read {
		_ = append(read[i].Spans, api.Span{})
	}
	if !alike(read, before) {
		t.Errorf("with more behind its spans, what was read has become %v", read)
	}
	for i := range read {
		for j := range read[i].Spans {
			read[i].Spans[j] = api.Span{Lo: 'z', Hi: 'z'}
		}
		read[i].Byte = 'z'
	}
	checkRead(t, text, before)
}

// TestLong holds that the calls end at long arguments (P0).
func TestLong(t *testing.T) {
	const n = 200000
	long := strings.Repeat("ab", n)
	for _, c := range []struct {
		l    []api.Glob
		s    string
		want bool
	}{
		{slices.Repeat([]api.Glob{many}, n), long, true}, {slices.Repeat([]api.Glob{one('a'), one('b')}, n), long, true}, {slices.Repeat([]api.Glob{anyOne}, n), long, false},
		{[]api.Glob{many, one('c')}, long, false}, {slices.Repeat([]api.Glob{many, one('b')}, 100), long[1:] + "a", false}, {slices.Repeat([]api.Glob{many, one('a'), set("cc"), many}, 100), long, false},
		{[]api.Glob{set(strings.Repeat("cc", n) + "aa")}, "a", true}, {slices.Repeat([]api.Glob{many, one('a')}, n), "aaa", false}, {slices.Repeat([]api.Glob{many}, n), "", true},
	} {
		if got := Match(c.l, c.s); got != c.want {
			t.Errorf("of %d pieces and %d bytes Match is %t", len(c.l), len(c.s), got)
		}
	}
	if l := slices.Repeat([]api.Glob{set("aa"), many}, n); !May(l) || !Same(l, copied(l)) || Same(l, l[1:]) {
		t.Error("many pieces")
	}
}

// FuzzParse holds P3.1 and P3.2 at any text: it is refused where it may be refused, and what is read is printed to what is read again.
func FuzzParse(f *testing.F) {
	for _, s := range []string{"", "pa[st]*", `\`, "[b-a]", `[\]-\-]`, "[^a-]", "a[", "**?"} {
		f.Add(s)
	}
	f.Fuzz(func(t *testing.T, s string) {
		l, n, err := Parse(s)
		switch {
		case len(s) > api.MaxPattern:
			checkRefused(t, s, api.MaxPattern, api.ErrLong)
		case err == api.OK:
			printed, printErr := Print(l)
			if n != 0 || printErr != api.OK || len(printed) > len(s) {
				t.Fatalf("Parse(%q) is %v, %d, printed as %q, error %d", s, l, n, printed, printErr)
			}
			checkPrinted(t, l, printed)
		case err != api.ErrForm || len(l) != 0 || n < 0 || n > len(s):
			t.Fatalf("Parse(%q) is %v, %d, error %d", s, l, n, err)
		default:
			checkPlace(t, s, n)
		}
	})
}

// checkPlace holds that s may go on as far as to the place n, and no farther.
func checkPlace(t *testing.T, s string, n int) {
	if len(s)+2 > api.MaxPattern {
		return
	}
	mayGoOn := func(s string) bool {
		for _, rest := range []string{"", "a", "]", "\xff]"} {
			if _, _, err := Parse(s + rest); err == api.OK {
				return true
			}
		}
		return false
	}
	if !mayGoOn(s[:n]) || n < len(s) && mayGoOn(s[:n+1]) {
		t.Fatalf("Parse(%q) tells the place %d", s, n)
	}
}

// FuzzMatch holds P3.1 at any short text, against the chapter's words.
func FuzzMatch(f *testing.F) {
	f.Add("pa[st]*", "password")
	f.Add("*a?b*[b-d]", "aabbcd")
	f.Fuzz(func(t *testing.T, pattern, s string) {
		if strings.Count(pattern, "*") > 5 || len(s) > 30 {
			return
		}
		if l, _, err := Parse(pattern); Match(l, s) != stands(l, s) {
			t.Fatalf("Match(%v, %q) is %t; the pattern %q, error %d", l, s, !stands(l, s), pattern, err)
		}
	})
}
