package ere

import (
	"slices"
	"strings"
	"testing"

	"souffleur/api"
)

// words reads texts as the chapter's words make them: each text is looked at in all ways in which it may be cut, and never from the left.
// Numbers of groups are left out. Each answer is a list of nothing, or of the one thing that the text is.
type words struct {
	signs             map[string]api.Re
	rows, expressions map[string][]api.Re
}

func newWords() words {
	return words{signs: signs(), rows: map[string][]api.Re{}, expressions: map[string][]api.Re{}}
}

// signs are all that may stand behind an atom.
func signs() map[string]api.Re {
	all := map[string]api.Re{"*": {Lo: 0, Hi: -1}, "+": {Lo: 1, Hi: -1}, "?": {Lo: 0, Hi: 1}}
	digits := "012345678"
	for lo := range digits {
		all["{"+digits[lo:lo+1]+"}"] = api.Re{Lo: lo, Hi: lo}
		all["{"+digits[lo:lo+1]+",}"] = api.Re{Lo: lo, Hi: -1}
		for hi := lo; hi < len(digits); hi++ {
			all["{"+digits[lo:lo+1]+","+digits[hi:hi+1]+"}"] = api.Re{Lo: lo, Hi: hi}
		}
	}
	return all
}

// byteOf tells whether s is a byte's text, where signs need a \, and of which byte.
func byteOf(s, signs string) (byte, bool) {
	switch {
	case len(s) == 1 && !strings.Contains(signs, s):
		return s[0], true
	case len(s) == 2 && s[0] == '\\':
		return s[1], true
	}
	return 0, false
}

// itemOf answers the bytes of the item s; none, if it isn't one.
func itemOf(s string) string {
	if c, ok := byteOf(s, `]-\`); ok {
		return string([]byte{c})
	}
	for i := 1; i < len(s); i++ {
		lo, okLo := byteOf(s[:i], `]-\`)
		hi, okHi := byteOf(s[i+1:], `]-\`)
		if s[i] == '-' && okLo && okHi && lo <= hi {
			return string(bytesFrom(lo, hi))
		}
	}
	return ""
}

func bytesFrom(lo, hi byte) []byte {
	var all []byte
	for c := int(lo); c <= int(hi); c++ {
		all = append(all, byte(c))
	}
	return all
}

// itemsOf tells whether s is items, one at least, and of which bytes.
func itemsOf(s string) (string, bool) {
	if bytes := itemOf(s); bytes != "" {
		return bytes, true
	}
	for i := 1; i < len(s); i++ {
		if first := itemOf(s[:i]); first != "" {
			if rest, ok := itemsOf(s[i:]); ok {
				return first + rest, true
			}
		}
	}
	return "", false
}

// setText tells whether s is the text of a set that begins with [, and answers it.
func setText(s string) []api.Re {
	if len(s) < 3 || s[0] != '[' || s[len(s)-1] != ']' {
		return nil
	}
	inner := s[1 : len(s)-1]
	if inner[0] == '^' {
		if bytes, ok := itemsOf(inner[1:]); ok {
			return []api.Re{not(bytes)}
		}
		return nil
	}
	if bytes, ok := itemsOf(inner); ok {
		return []api.Re{in(bytes)}
	}
	return nil
}

func (w words) atom(s string) []api.Re {
	switch s {
	case "":
		return nil
	case "^":
		return []api.Re{begin}
	case "$":
		return []api.Re{end}
	case ".":
		return []api.Re{anyOne}
	}
	if c, ok := byteOf(s, `\|()*+?{.[^$`); ok {
		return []api.Re{in(string([]byte{c}))}
	}
	if len(s) > 1 && s[0] == '(' && s[len(s)-1] == ')' {
		if kid := w.expression(s[1 : len(s)-1]); len(kid) > 0 {
			return []api.Re{group(0, kid[0])}
		}
	}
	return setText(s)
}

func (w words) piece(s string) []api.Re {
	if all := w.atom(s); len(all) > 0 {
		return all
	}
	for n := 1; n <= 5 && n < len(s); n++ {
		r, ok := w.signs[s[len(s)-n:]]
		if !ok {
			continue
		}
		kid := w.atom(s[:len(s)-n])
		if len(kid) > 0 && kid[0].Kind != api.ReBegin && kid[0].Kind != api.ReEnd {
			return []api.Re{times(kid[0], r.Lo, r.Hi)}
		}
	}
	return nil
}

// row holds that there is one way at most in which s is a row.
func (w words) row(s string) []api.Re {
	if s == "" {
		return []api.Re{empty}
	}
	if all, ok := w.rows[s]; ok {
		return all
	}
	all := w.piece(s)
	for i := 1; i < len(s); i++ {
		first := w.piece(s[:i])
		if len(first) == 0 {
			continue
		}
		for _, rest := range w.row(s[i:]) {
			if rest.Kind == api.ReCat {
				all = append(all, cat(append(first, rest.Kids...)...))
			} else {
				all = append(all, cat(first[0], rest))
			}
		}
	}
	w.rows[s] = all
	return all
}

func (w words) expression(s string) []api.Re {
	if all, ok := w.expressions[s]; ok {
		return all
	}
	all := slices.Clone(w.row(s))
	for i := range len(s) {
		first := w.row(s[:i])
		if s[i] != '|' || len(first) == 0 {
			continue
		}
		for _, rest := range w.expression(s[i+1:]) {
			if rest.Kind == api.ReAlt {
				all = append(all, alt(append([]api.Re{first[0]}, rest.Kids...)...))
			} else {
				all = append(all, alt(first[0], rest))
			}
		}
	}
	w.expressions[s] = all
	return all
}

// withNumbers numbers the groups of r, behind so many, and answers how many there are then.
func withNumbers(r *api.Re, groups int) int {
	if r.Kind == api.ReGroup {
		groups++
		r.N = groupText(groups)
	}
	for i := range r.Kids {
		groups = withNumbers(&r.Kids[i], groups)
	}
	return groups
}

// mayGoOn tells whether there is a text that begins with s; of short s alone.
func (w words) mayGoOn(s string) bool {
	for shut := range strings.Count(s, "(") + 1 {
		for _, rest := range []string{"", "\xff", "\xff]", "]", "0}", "}"} {
			if len(w.expression(s+rest+strings.Repeat(")", shut))) > 0 {
				return true
			}
		}
	}
	return false
}

// TestReadAll holds all short texts of a few letters against the chapter's words (P4.1, P4.2).
func TestReadAll(t *testing.T) {
	for letters, most := range map[string]int{
		"a(|)*": 6, "a()|^": 5, "[^]-a": 5, `[\]-ab`: 5, `\a()[]`: 5, "a{0,}": 6, "a{2,1}": 6, "a{}8,9": 5, "(a)*{1}": 5, "^$*.?a": 4, "+?*|a(": 4, `.\^$|)`: 4, `[]^a-b\`: 4, "[](a|)*": 4,
	} {
		w := newWords()
		beginnings := map[string]bool{"": true}
		texts := []string{""}
		for len(texts) > 0 {
			s := texts[0]
			texts = texts[1:]
			checkByWords(t, w, s, beginnings)
			for i := 0; len(s) < most && i < len(letters); i++ {
				longer := s + letters[i:i+1]
				// Where s can't go on, one byte more suffices to hold that it is refused at the same place.
				if beginnings[s] || len(s) > 0 && beginnings[s[:len(s)-1]] {
					texts = append(texts, longer)
				}
			}
		}
	}
}

// checkByWords holds that s is read, or refused, as the chapter's words are, and notes whether it may go on.
func checkByWords(t *testing.T, w words, s string, beginnings map[string]bool) {
	t.Helper()
	is := w.expression(s)
	if len(is) > 1 {
		t.Fatalf("%q is %v", s, is)
	}
	beginnings[s] = len(is) > 0 || (s == "" || beginnings[s[:len(s)-1]]) && w.mayGoOn(s)
	if len(is) == 0 {
		place := 0
		for place < len(s) && beginnings[s[:place+1]] {
			place++
		}
		checkRefused(t, s, place, api.ErrForm)
		return
	}
	r := copied(is[0])
	groups := withNumbers(&r, 0)
	checkRead(t, s, r)
	printed, err := Print(r)
	if err != api.OK || !May(r) || Groups(r) != groups {
		t.Errorf("Print(%v) is %q, error %d; groups %d", r, printed, err, Groups(r))
	}
	checkRead(t, printed, r)
}

// suchLevel answers the first level of which r is, as the chapter's words are: 0 an atom, 1 a piece, 2 a row, 3 an expression, 4 none; groups' numbers are left out.
func suchLevel(r api.Re) int {
	bare := api.Re{Kind: r.Kind}
	level := 4
	all := func(most int) bool {
		return !slices.ContainsFunc(r.Kids, func(kid api.Re) bool { return suchLevel(kid) > most })
	}
	switch r.Kind {
	case api.ReEmpty:
		level = 2
	case api.ReSet:
		bare.Set, level = r.Set, 0
	case api.ReBegin, api.ReEnd:
		level = 0
	case api.ReGroup:
		if bare.N, bare.Kids = r.N, r.Kids; len(r.Kids) == 1 && all(3) {
			level = 0
		}
	case api.ReRepeat:
		if bare.Lo, bare.Hi, bare.Kids = r.Lo, r.Hi, r.Kids; len(r.Kids) == 1 && all(0) && r.Kids[0].Kind != api.ReBegin && r.Kids[0].Kind != api.ReEnd && slices.Contains([]int{0, 1, 2, 3, 4, 5, 6, 7, 8}, r.Lo) && (r.Hi == -1 || slices.Contains([]int{0, 1, 2, 3, 4, 5, 6, 7, 8}[r.Lo:], r.Hi)) {
			level = 1
		}
	case api.ReCat:
		if bare.Kids = r.Kids; len(r.Kids) > 1 && all(1) {
			level = 2
		}
	case api.ReAlt:
		if bare.Kids = r.Kids; len(r.Kids) > 1 && all(2) {
			level = 3
		}
	}
	if !alike(bare, r) {
		return 4
	}
	return level
}

// numbersFit tells whether the groups of r have their numbers.
func numbersFit(r api.Re) bool {
	other := copied(r)
	withNumbers(&other, 0)
	return alike(r, other)
}

// trees answers the kids, and all that may be made of one or two of them.
func trees(kids []api.Re) []api.Re {
	all := slices.Clone(kids)
	lists := [][]api.Re{nil}
	for _, a := range kids {
		lists = append(lists, []api.Re{a})
		for _, n := range []int{0, 1, 2} {
			all = append(all, group(n, a))
		}
		all = append(all, times(a, 0, -1), times(a, 2, 1))
		for _, b := range kids {
			lists = append(lists, []api.Re{a, b})
		}
	}
	for _, l := range lists {
		all = append(all, cat(l...), alt(l...))
	}
	return all
}

// TestMayAll holds all small expressions, and such as aren't, against the chapter's words (P4.1, P4.2).
func TestMayAll(t *testing.T) {
	leaves := []api.Re{empty, in("a"), begin, end, {Kind: api.ReNone}, {Kind: api.ReGroup, N: 1}, {Kind: api.ReRepeat, Hi: -1}, {Kind: api.ReBegin, N: 1}}
	small := trees(leaves[:5])
	small = append(small, leaves[5:]...)
	some := trees([]api.Re{empty, in("a")})
	for _, l := range [][]api.Re{trees(small), trees(some), small} {
		for _, r := range l {
			checkSuch(t, r)
		}
	}
	for _, r := range trees(some) {
		for _, outer := range []api.Re{group(1, r), times(r, 1, 1), cat(r, empty), cat(in("a"), r), alt(r, r), cat(r, group(1, empty)), group(0, r)} {
			checkSuch(t, outer)
		}
	}
}

// checkSuch holds whether r, which is small, may be, and that what is printed is parsed to itself.
func checkSuch(t *testing.T, r api.Re) {
	t.Helper()
	if suchLevel(r) > 3 || !numbersFit(r) {
		checkNotPrinted(t, r, api.ErrArg)
		return
	}
	s, err := Print(r)
	if err != api.OK || !May(r) {
		t.Errorf("Print(%v) is %q, error %d", r, s, err)
	}
	checkRead(t, s, r)
}

// TestMayFields sets each field to something else, in each kind, alone and within others (P4.1).
func TestMayFields(t *testing.T) {
	for _, r := range []api.Re{empty, in("a"), in(""), begin, end, cat(in("a"), in("b")), alt(in("a"), empty), times(in("a"), 0, -1), times(in("a"), 2, 3), group(1, in("a"))} {
		others := []api.Re{}
		for n := -2; n <= 11; n++ {
			o := r
			o.Lo = n
			others = append(others, o)
			o = r
			o.Hi = n
			others = append(others, o)
			o = r
			o.N = n
			others = append(others, o)
			o = r
			o.Kind = n
			others = append(others, o)
			for hi := -2; hi <= 11; hi++ {
				o = r
				o.Lo, o.Hi = n, hi
				others = append(others, o)
			}
		}
		for _, n := range []int{1 << 62, -1 << 63, 1<<63 - 1, 1 << 32, 1<<32 + 1} {
			others = append(others, api.Re{Kind: r.Kind, Set: r.Set, Kids: r.Kids, Lo: n, Hi: -1}, api.Re{Kind: r.Kind, Set: r.Set, Kids: r.Kids, Lo: 1, Hi: n}, api.Re{Kind: r.Kind, Set: r.Set, Kids: r.Kids, N: n}, api.Re{Kind: n, Set: r.Set, Kids: r.Kids})
		}
		for _, c := range []string{"", "a", "\x00", "\x40", "\x80", "\xff"} {
			others = append(others, api.Re{Kind: r.Kind, Set: setOf(c), Kids: r.Kids, Lo: r.Lo, Hi: r.Hi, N: r.N})
		}
		for _, kids := range [][]api.Re{nil, {}, {empty}, {in("a")}, {in("a"), in("a")}, {in("a"), in("a"), in("a")}, {begin}, {begin, end}, {{}, {}}} {
			others = append(others, api.Re{Kind: r.Kind, Set: r.Set, Kids: kids, Lo: r.Lo, Hi: r.Hi, N: r.N})
		}
		for _, o := range others {
			checkSuch(t, o)
			for _, outer := range []api.Re{group(1, o), alt(o, in("b")), alt(in("b"), o), cat(in("b"), o), cat(o, in("b")), times(o, 0, 1), group(1, alt(o, empty))} {
				checkSuch(t, outer)
			}
		}
	}
}

// TestReadEachByte sets each byte where a byte may stand (P4.1, P4.2).
func TestReadEachByte(t *testing.T) {
	for i := range 256 {
		s := string([]byte{byte(i)})
		if !strings.Contains(`\|()*+?{.[^$`, s) {
			checkPrinted(t, cat(in("a"), in(s)), "a"+s)
			checkPrinted(t, in(s), s)
		} else {
			checkPrinted(t, cat(in("a"), in(s)), `a\`+s)
			checkPrinted(t, in(s), `\`+s)
		}
		checkRead(t, `\`+s, in(s))
		checkRead(t, `[\`+s+`]`, in(s))
		checkRead(t, `[^\`+s+`]`, not(s))
		checkRead(t, `[\`+s+"-\xff]", span(i, 255))
		checkRead(t, "[\x00-\\"+s+`]`, span(0, i))
		switch {
		case s == "^":
			checkRefused(t, "[^]", 2, api.ErrForm)
			checkRead(t, "[a^]", in("a^"))
			checkRead(t, "[^^]", not("^"))
		case !strings.Contains(`]-\`, s):
			checkRead(t, "["+s+"]", in(s))
			checkRead(t, "[^"+s+"]", not(s))
			checkRead(t, "["+s+"-\xff]", span(i, 255))
			checkRead(t, "[\x00-"+s+"]", span(0, i))
		case s == `\`:
			checkRefused(t, `[\`, 2, api.ErrForm)
			checkRefused(t, `[^\`, 3, api.ErrForm)
		default:
			checkRefused(t, "["+s+"]", 1, api.ErrForm)
			checkRefused(t, "[^"+s+"]", 2, api.ErrForm)
			checkRefused(t, "[\x00-"+s+"]", 3, api.ErrForm)
		}
		if s < "0" || s > "8" {
			checkRefused(t, "a{"+s+"}", 2, api.ErrForm)
			if s != "}" {
				checkRefused(t, "a{0,"+s+"}", 4, api.ErrForm)
			}
		} else {
			checkRead(t, "a{"+s+"}", times(in("a"), i-'0', i-'0'))
			checkRead(t, "a{0,"+s+"}", times(in("a"), 0, i-'0'))
		}
		if s != "," && s != "}" {
			checkRefused(t, "a{3"+s, 3, api.ErrForm)
		}
	}
}

// TestSpans holds the texts of all runs of bytes, and of two bytes each (P4.1, P4.2).
func TestSpans(t *testing.T) {
	text := func(c int, signs string) string {
		s := string([]byte{byte(c)})
		if strings.Contains(signs, s) {
			return `\` + s
		}
		return s
	}
	for lo := range 256 {
		for hi := range 256 {
			from, to := text(lo, `]-\^`), text(hi, `]-\^`)
			both := string([]byte{'[', '\\', byte(lo), '-', '\\', byte(hi), ']'})
			switch {
			case hi < lo:
				checkRefused(t, both, 5, api.ErrForm)
				continue
			case lo == hi:
				checkPrinted(t, in(string([]byte{byte(lo)})), text(lo, `\|()*+?{.[^$`))
			case lo == 0 && hi == 255:
				checkPrinted(t, span(0, 255), ".")
			default:
				checkPrinted(t, span(lo, hi), "["+from+"-"+to+"]")
			}
			checkRead(t, both, span(lo, hi))
			if lo+1 < hi {
				checkPrinted(t, in(string([]byte{byte(lo), byte(hi)})), "["+from+to+"]")
			}
		}
	}
}

// TestManySets holds sets of many runs: every n-th byte, and the others (P4.2).
func TestManySets(t *testing.T) {
	for n := 2; n <= 256; n++ {
		for first := 0; first < n && first < 256; first++ {
			var every []byte
			for c := first; c < 256; c += n {
				every = append(every, byte(c))
			}
			for _, r := range []api.Re{in(string(every)), not(string(every))} {
				s, err := Print(r)
				switch {
				case err == api.OK:
					checkPrinted(t, r, s)
				case err != api.ErrLong || len(every) < 50:
					t.Errorf("of a set of every %d-th byte from %d on Print is error %d", n, first, err)
				}
			}
		}
	}
}

// TestSame holds which expressions are the same, also of those that may not be (P4.1).
func TestSame(t *testing.T) {
	a, b := in("a"), in("b")
	all := []api.Re{
		empty, a, b, in(""), anyOne, in("ab"), in("\x00"), in("\x40"), in("\x80"), in("\xc0"), begin, end, cat(a, b), cat(b, a), cat(a), cat(), cat(a, b, a), cat(a, cat(b, a)), cat(cat(a, b), a), alt(a, b), alt(b, a), alt(a), alt(a, empty), alt(empty, a), alt(a, b, a), alt(empty, empty), alt(cat(a, b), cat(a, b)), alt(cat(a, b), cat(b, a)), alt(cat(a, b), cat(a, begin)), alt(cat(a, b), cat(a, end)),
		times(a, 0, -1), times(a, 1, -1), times(a, 0, 1), times(a, 0, 0), times(a, 1, 1), times(a, 2, 3), times(a, 3, 2), times(b, 0, -1), times(a, 0, -2), group(0, a), group(1, a), group(2, a), group(1, b), group(1, group(2, a)), group(2, group(1, a)), group(1, group(2, b)), group(1, cat(a, b)), cat(group(1, a), group(2, b)), cat(group(2, a), group(1, b)), {Kind: api.ReGroup}, {Kind: api.ReRepeat}, {Kind: api.ReNone}, {Kind: 9}, {Kind: -1}, {Kind: 1 << 40},
		{N: 1}, {Lo: 1}, {Hi: 1}, {Hi: -1}, {Set: setOf("a")}, {Kids: []api.Re{{}}}, {Kids: []api.Re{{}, {}}}, {Kind: api.ReSet, Set: setOf("a"), N: 1}, {Kind: api.ReSet, Set: setOf("a"), Kids: []api.Re{a}}, nested(64, a), nested(64, b), nested(63, a), nested(65, a),
	}
	for i, x := range all {
		for j, y := range all {
			if Same(x, copied(y)) != (i == j) {
				t.Errorf("Same(%v, %v) is %t", x, y, i != j)
			}
		}
	}
	if !Same(api.Re{}, api.Re{Kids: []api.Re{}}) || !Same(cat([]api.Re{}...), cat()) || !Same(group(1, api.Re{Kids: []api.Re{}}), group(1, empty)) {
		t.Error("a list of nothing isn't the same as no list")
	}
}

// TestGroups holds how many groups there are, also in expressions that may not be (P4.1).
func TestGroups(t *testing.T) {
	a := in("a")
	for i, c := range []struct {
		r    api.Re
		want int
	}{
		{empty, 0}, {a, 0}, {begin, 0}, {group(1, a), 1}, {group(0, a), 1}, {api.Re{Kind: api.ReGroup}, 1}, {cat(group(1, a), group(2, a)), 2}, {group(1, group(2, a)), 2}, {alt(a, times(group(1, cat(a, group(2, a))), 0, -1)), 2}, {nested(100, a), 100}, {times(group(1, a), 8, 8), 1}, {times(group(1, a), 0, 0), 1},
		{api.Re{Kind: api.ReSet, Kids: []api.Re{group(5, a)}}, 1}, {api.Re{Kind: api.ReNone, Kids: []api.Re{group(1, a), group(1, a)}}, 2}, {api.Re{Kind: -7, Kids: []api.Re{a, {Kind: 99, Kids: []api.Re{group(1, a)}}}}, 1}, {api.Re{Kind: api.ReGroup, Kids: []api.Re{group(1, a), group(1, group(1, a))}}, 4}, {api.Re{Kind: api.ReRepeat}, 0}, {api.Re{Kind: api.ReSet, N: 7}, 0},
	} {
		if got := Groups(c.r); got != c.want {
			t.Errorf("%d: Groups is %d, not %d", i, got, c.want)
		}
	}
	for s, want := range map[string]int{"(a|b)*$": 1, "": 0, "((a)(b))|(c)": 4, `\((a)`: 1, "[(](a)": 1, "()()()()()()()()()()()": 11} {
		if r, _, err := Parse(s); Groups(r) != want || err != api.OK {
			t.Errorf("Groups of %q is %d, error %d", s, Groups(r), err)
		}
	}
}

// FuzzParse holds P4.1 and P4.2 at any text: it is refused where it may be refused, and what is read is printed to what is read again.
func FuzzParse(f *testing.F) {
	for _, s := range []string{"", "(a|b)*$", `\`, "[b-a]", `[\]-\-]`, "[^a-]", "a{2,", "a{0,8}+", "((", "^|$", ")"} {
		f.Add(s)
	}
	f.Fuzz(func(t *testing.T, s string) {
		r, n, err := Parse(s)
		switch {
		case len(s) > api.MaxPattern:
			checkRefused(t, s, api.MaxPattern, api.ErrLong)
		case err == api.OK:
			checkReadAgain(t, s, r, n)
		case !isZero(r) || n < 0 || n > len(s) || err == api.ErrDeep && (n == len(s) || s[n] != '(') || err != api.ErrDeep && err != api.ErrForm:
			t.Fatalf("Parse(%q) is %v, %d, error %d", s, r, n, err)
		default:
			checkPlace(t, s, n, err)
		}
	})
}

// checkReadAgain holds that r, which is read from s, is such, and is read again from its text, if it has one.
func checkReadAgain(t *testing.T, s string, r api.Re, n int) {
	t.Helper()
	printed, err := Print(r)
	if n != 0 || suchLevel(r) > 3 || !numbersFit(r) || err != api.OK && err != api.ErrLong || May(r) != (err == api.OK) {
		t.Fatalf("Parse(%q) is %v, %d, printed as %q, error %d", s, r, n, printed, err)
	}
	if err == api.OK {
		checkPrinted(t, r, printed)
	}
}

// checkPlace holds that s may go on as far as to the place n, and no farther.
func checkPlace(t *testing.T, s string, n int, err api.Errno) {
	t.Helper()
	if len(s)+70 > api.MaxPattern {
		return
	}
	mayGoOn := func(s string) bool {
		for shut := range 65 {
			for _, rest := range []string{"", "\xff", "\xff]", "]", "0}", "}"} {
				if _, _, err := Parse(s + rest + strings.Repeat(")", shut)); err == api.OK {
					return true
				}
			}
		}
		return false
	}
	if !mayGoOn(s[:n]) || n < len(s) && mayGoOn(s[:n+1]) {
		t.Fatalf("Parse(%q) tells the place %d, error %d", s, n, err)
	}
}
