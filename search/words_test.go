package search

import (
	"regexp"
	"slices"
	"strings"
	"testing"

	"souffleur/api"
	"souffleur/deriv"
	"souffleur/ere"
	"souffleur/glob"
	"souffleur/group"
)

// words finds a pattern that may be as the chapter's words are: it looks at each piece of a text.
type words struct {
	api.Pattern
	pieces []api.Glob
	re     api.Re
}

// wordsOf are the words for p, and whether it may be.
func wordsOf(p api.Pattern) (words, bool) {
	w := words{Pattern: p}
	err := api.ErrArg
	switch {
	case p.Kind == api.Exact && len(p.Text) <= 200:
		err = api.OK
	case p.Kind == api.Shell:
		w.pieces, _, err = glob.Parse(p.Text)
	case p.Kind == api.Regex:
		w.re, _, err = ere.Parse(p.Text)
	}
	return w, err == api.OK
}

// ends are the places to which the pattern stands in s from a place, rising.
func (w words) ends(s string, from int) []int {
	var places []int
	if w.Kind == api.Regex {
		for _, n := range deriv.Ends(w.re, s[from:], from == 0, true) {
			places = append(places, from+n)
		}
		return places
	}
	for to := from; to <= len(s); to++ {
		if w.Kind == api.Exact && s[from:to] == w.Text || w.Kind == api.Shell && glob.Match(w.pieces, s[from:to]) {
			places = append(places, to)
		}
	}
	return places
}

// from is what is found in s from a place on, and whether anything is.
func (w words) from(s string, at int) (api.Match, bool) {
	for from := at; from <= len(s); from++ {
		ends := w.ends(s, from)
		if len(ends) == 0 {
			continue
		}
		to := ends[len(ends)-1]
		if w.Kind == api.Regex {
			return group.Find(w.re, s, from, to)
		}
		return cuts(from, to), true
	}
	return api.Match{}, false
}

// all is what is found in s, one behind the other.
func (w words) all(s string) []api.Match {
	var all []api.Match
	m, ok := w.from(s, 0)
	for ok {
		all = append(all, m)
		at := m.Cuts[0].To
		if m.Cuts[0].From == at {
			at++
		}
		m, ok = w.from(s, at)
	}
	return all
}

// cuts is a match of the pieces from each of the places to the one behind it; there is none of others.
func cuts(places ...int) api.Match {
	var m api.Match
	for i := range m.Cuts {
		m.Cuts[i] = api.Cut{From: -1, To: -1}
	}
	for i := 0; i < len(places); i += 2 {
		m.Cuts[i/2] = api.Cut{From: places[i], To: places[i+1]}
	}
	return m
}

// check holds all calls of p over s against the words (P7.1), and tells how many are found.
func check(t *testing.T, p api.Pattern, s string) int {
	t.Helper()
	w, may := wordsOf(p)
	if May(p) != may {
		t.Fatalf("May(%v) is %t", p, !may)
	}
	for at := -1; at <= len(s)+1; at++ {
		var want api.Match
		found := false
		if may && at >= 0 {
			want, found = w.from(s, at)
		}
		if got, ok := From(p, s, at); ok != found || got != want {
			t.Fatalf("From(%v, %q, %d) is\n%v, %t, not\n%v, %t", p, s, at, got, ok, want, found)
		}
		if at != 0 {
			continue
		}
		if got, ok := Find(p, s); ok != found || got != want {
			t.Fatalf("Find(%v, %q) is\n%v, %t, not\n%v, %t", p, s, got, ok, want, found)
		}
	}
	var want []api.Match
	if may {
		want = w.all(s)
	}
	if got := slices.Collect(All(p, s)); !slices.Equal(got, want) {
		t.Fatalf("All(%v, %q) is\n%v, not\n%v", p, s, got, want)
	}
	if got := Count(p, s); got != len(want) {
		t.Fatalf("Count(%v, %q) is %d, not %d", p, s, got, len(want))
	}
	return len(want)
}

// textsOf are all texts of at most so many of the letters.
func textsOf(letters string, most int) []string {
	texts := []string{""}
	for i := 0; i < len(texts); i++ {
		for j := 0; len(texts[i]) < most && j < len(letters); j++ {
			texts = append(texts, texts[i]+letters[j:j+1])
		}
	}
	return texts
}

// checkSigns holds the patterns of a kind that are made of at most so many of the signs, those that may not be, too, over all texts of at most so many letters, a or b.
func checkSigns(t *testing.T, kind int, signs string, most, letters int) {
	t.Helper()
	texts, found := textsOf("ab", letters), 0
	for _, text := range textsOf(signs, most) {
		p := api.Pattern{Kind: kind, Text: text}
		if !May(p) {
			check(t, p, "ab")
			continue
		}
		for _, s := range texts {
			found += check(t, p, s)
		}
	}
	if found == 0 {
		t.Fatalf("nothing of %s is found", signs)
	}
}

// TestAllExact holds all short texts against the words (P7.1).
func TestAllExact(t *testing.T) {
	checkSigns(t, api.Exact, "ab", 4, 7)
	checkSigns(t, api.Exact, "a*.", 3, 4)
}

// TestAllShell holds all short patterns as a shell has them against the words (P7.1).
func TestAllShell(t *testing.T) {
	checkSigns(t, api.Shell, "ab*?", 5, 4)
	checkSigns(t, api.Shell, "a*b", 6, 5)
	checkSigns(t, api.Shell, `*[a-b]\`, 5, 3)
}

// TestAllRegex holds all short expressions against the words (P7.1).
func TestAllRegex(t *testing.T) {
	checkSigns(t, api.Regex, "ab(|)*", 5, 3)
	checkSigns(t, api.Regex, "a^$|()", 5, 2)
	checkSigns(t, api.Regex, "ab^$|*", 4, 3)
	checkSigns(t, api.Regex, "a.?+{2}", 4, 4)
}

// TestLongPatterns holds patterns of many parts against the words (P7.1).
func TestLongPatterns(t *testing.T) {
	texts := append(textsOf("ab", 6), "abcabdabc", "ccabbaccab", "bacabacabcacb", "aaaaaaaaaaaaaa")
	for _, p := range []api.Pattern{
		{Kind: api.Exact, Text: "abcab"}, {Kind: api.Exact, Text: "ca"}, {Kind: api.Exact, Text: "aaaaaaa"},
		{Kind: api.Shell, Text: "a*b*a"}, {Kind: api.Shell, Text: "*a?b*"}, {Kind: api.Shell, Text: "a?*b?*a"}, {Kind: api.Shell, Text: "[ac]b*[^b-c]*?a"}, {Kind: api.Shell, Text: "**ab**ba**"}, {Kind: api.Shell, Text: "?a??b"}, {Kind: api.Shell, Text: "ab*ab*b"}, {Kind: api.Shell, Text: "aa*aa*aa*aa"}, {Kind: api.Shell, Text: "b*[b-c]*c"}, {Kind: api.Shell, Text: "a**"}, {Kind: api.Shell, Text: "*ab*ab"},
		{Kind: api.Regex, Text: "(a|ab)(c|bcd)?"}, {Kind: api.Regex, Text: "(a*)(b*)a"}, {Kind: api.Regex, Text: "((a)|(b)|c)+"}, {Kind: api.Regex, Text: "(^|b)a{2,3}(b|$)"}, {Kind: api.Regex, Text: "b.*b|a.*c|(aba)"}, {Kind: api.Regex, Text: "(aa|b){2,}"}, {Kind: api.Regex, Text: "^(a)|(b)$|ab(b)"}, {Kind: api.Regex, Text: "(a?){3}(^|b)|$"}, {Kind: api.Regex, Text: "(.)(.)(.)(.)(.)(.)"}, {Kind: api.Regex, Text: "[^a](a[^b]?)*"}, {Kind: api.Regex, Text: "(b|^)*a"}, {Kind: api.Regex, Text: "b?($|^a)"}, {Kind: api.Regex, Text: "(x)?(x)?(x)?(x)?(x)?(x)?(x)?(x)?(a|b)(b)"},
	} {
		for _, s := range texts {
			check(t, p, s)
		}
	}
}

// checkLibrary holds what is found of p in s against what a library's expression finds, of all ways that begin first the longest.
func checkLibrary(t *testing.T, p api.Pattern, want *regexp.Regexp, s string) {
	t.Helper()
	m, ok := Find(p, s)
	cut := want.FindStringIndex(s)
	if ok != (cut != nil) || ok && m.Cuts[0] != (api.Cut{From: cut[0], To: cut[1]}) {
		t.Fatalf("Find(%v, %q) is %v, %t, not %v", p, s, m, ok, cut)
	}
}

// TestLibrary holds Find against the library's own expressions (P7.1).
func TestLibrary(t *testing.T) {
	quoted := strings.NewReplacer("*", ".*", "?", ".")
	texts := textsOf("ab", 6)
	for _, text := range append(textsOf("ab*?", 4), "a*[b]*b", "[a]?*a?b", "*a*b*a*b", "[a-b][b-c]*aa") {
		want := regexp.MustCompile("(?s)" + quoted.Replace(text))
		want.Longest()
		for _, s := range texts {
			checkLibrary(t, api.Pattern{Kind: api.Shell, Text: text}, want, s)
		}
	}
	for _, text := range append(textsOf("ab|.", 4), "(a|ab)(b|ba)?", "(a+|b+)*bb", "a{2,3}b|ab{2}", "^a*b|b$", "b(a|b)*b", "(^|b)(a|$)", "(aa|b)+(ab)?", "((a)|(ba)|()){2,3}", "[^a]a*[^b]") {
		want := regexp.MustCompile("(?s)" + text)
		want.Longest()
		for _, s := range texts {
			checkLibrary(t, api.Pattern{Kind: api.Regex, Text: text}, want, s)
		}
	}
}

// FuzzFrom holds all calls of any pattern over any text against the words (P7.1).
func FuzzFrom(f *testing.F) {
	for _, s := range []string{"", "a", "a*b?", "*[b-c]*", "(a|b)*$", "^(a|ab)(c|bcd)", "((a{2,3}b?){0,8}.){3}", "[", "a{9}", "\\"} {
		for kind := range 4 {
			f.Add(kind, s, "abcbaab")
		}
	}
	f.Fuzz(func(t *testing.T, kind int, text, s string) {
		if len(s) <= 16 {
			check(t, api.Pattern{Kind: kind, Text: text}, s)
		}
	})
}
