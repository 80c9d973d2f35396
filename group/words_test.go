package group

import (
	"slices"
	"testing"

	"souffleur/api"
	"souffleur/deriv"
	"souffleur/ere"
)

// course is a way of an expression, told by the ways of its Kids, in the order in which they are gone over; of a ReAlt by that of the one that is taken, too.
type course struct {
	from, to int
	taken    int
	kids     []*course
}

// reader finds all ways in a text as the chapter's words are.
type reader struct {
	text  string
	known map[start][]*course
	// many tells that there are too many of them.
	many bool
}

type start struct {
	r    *api.Re
	from int
}

// mostWays are so many that a test needs no more of one expression from one place.
const mostWays = 3000

// ways are all ways of r from a place, in no order, but those with times over no bytes behind Lo others, which are never taken.
func (d *reader) ways(r *api.Re, from int) []*course {
	at := start{r, from}
	all, ok := d.known[at]
	if !ok && !d.many {
		all = d.waysFrom(r, from)
		d.many = d.many || len(all) > mostWays
		d.known[at] = all
	}
	return all
}

func (d *reader) waysFrom(r *api.Re, from int) []*course {
	here := []*course{{from: from, to: from}}
	switch r.Kind {
	case api.ReEmpty:
		return here
	case api.ReBegin:
		if from == 0 {
			return here
		}
	case api.ReEnd:
		if from == len(d.text) {
			return here
		}
	case api.ReSet:
		if from < len(d.text) && r.Set[d.text[from]/64]>>(d.text[from]%64)&1 == 1 {
			return []*course{{from: from, to: from + 1}}
		}
	case api.ReGroup:
		return d.onward(here, &r.Kids[0], 0)
	case api.ReAlt:
		var all []*course
		for i := range r.Kids {
			all = append(all, d.onward(here, &r.Kids[i], i)...)
		}
		return all
	case api.ReCat:
		for i := range r.Kids {
			here = d.onward(here, &r.Kids[i], 0)
		}
		return here
	case api.ReRepeat:
		return d.times(r, here)
	}
	return nil
}

// onward are the ways that go on by r from where those ahead have come to.
func (d *reader) onward(ahead []*course, r *api.Re, taken int) []*course {
	var all []*course
	for _, w := range ahead {
		for _, kid := range d.ways(r, w.to) {
			all = append(all, &course{w.from, kid.to, taken, append(slices.Clone(w.kids), kid)})
		}
		d.many = d.many || len(all) > mostWays
		if d.many {
			return nil
		}
	}
	return all
}

// times are the ways of a repeat, by how many times it is gone over.
func (d *reader) times(r *api.Re, here []*course) []*course {
	var all []*course
	for n := 0; len(here) > 0 && (r.Hi < 0 || n <= r.Hi); n++ {
		if n >= r.Lo {
			all = append(all, here...)
		}
		here = slices.DeleteFunc(d.onward(here, &r.Kids[0], 0), func(w *course) bool {
			last := w.kids[n]
			return n >= r.Lo && last.from == last.to
		})
	}
	return all
}

// compare tells, below 0, that a comes ahead of b, of ways of r from one place.
func compare(r *api.Re, a, b *course) int {
	if a.taken != b.taken {
		return a.taken - b.taken
	}
	for i := range min(len(a.kids), len(b.kids)) {
		kid := 0
		switch r.Kind {
		case api.ReAlt:
			kid = a.taken
		case api.ReCat:
			kid = i
		}
		if c := compare(&r.Kids[kid], a.kids[i], b.kids[i]); c != 0 {
			return c
		}
	}
	// Of a repeat, the one that goes on comes ahead; of others there are as many.
	return len(b.kids) - len(a.kids)
}

// tell puts into m the groups of a way of r, the later ones over those ahead.
func tell(m *api.Match, r *api.Re, w *course) {
	for i, kid := range w.kids {
		switch r.Kind {
		case api.ReAlt:
			tell(m, &r.Kids[w.taken], kid)
		case api.ReCat:
			tell(m, &r.Kids[i], kid)
		default:
			tell(m, &r.Kids[0], kid)
		}
	}
	if r.Kind == api.ReGroup && r.N > 0 {
		m.Cuts[r.N] = api.Cut{From: w.from, To: w.to}
	}
}

// first are the groups of the first way of r from a place of the text to another one, by the words; false, if there is none.
func (d *reader) first(r *api.Re, from, to int) (api.Match, bool) {
	all := slices.DeleteFunc(slices.Clone(d.ways(r, from)), func(w *course) bool { return w.to != to })
	if len(all) == 0 {
		return api.Match{}, false
	}
	m := none()
	m.Cuts[0] = api.Cut{From: from, To: to}
	tell(&m, r, slices.MinFunc(all, func(a, b *course) int { return compare(r, a, b) }))
	return m, true
}

// none is the match of no groups.
func none() api.Match {
	var m api.Match
	for i := range m.Cuts {
		m.Cuts[i] = api.Cut{From: -1, To: -1}
	}
	return m
}

// read is the expression that is read from s.
func read(t testing.TB, s string) api.Re {
	t.Helper()
	r, _, err := ere.Parse(s)
	if err != api.OK {
		t.Fatalf("ere.Parse(%q) is error %d", s, err)
	}
	return r
}

// stander tells for which ways in a text an expression stands (5), and the Kid of each of its groups with an N from 1 on.
type stander struct {
	text string
	// res are the Kids by their N, each as an expression by itself; the whole one has 0.
	res   map[int]api.Re
	known map[[2]int][]int
}

func newStander(r api.Re, text string) stander {
	all := stander{text, map[int]api.Re{0: r}, map[[2]int][]int{}}
	all.add(r)
	return all
}

func (all stander) add(r api.Re) {
	if r.Kind == api.ReGroup && r.N > 0 {
		n := 0
		all.res[r.N] = renumbered(r.Kids[0], &n)
	}
	for _, kid := range r.Kids {
		all.add(kid)
	}
}

// renumbered is r with its groups counted from 1 on.
func renumbered(r api.Re, n *int) api.Re {
	if r.Kind == api.ReGroup {
		*n++
		r.N = *n
		if r.N > 9 {
			r.N = 0
		}
	}
	r.Kids = slices.Clone(r.Kids)
	for i := range r.Kids {
		r.Kids[i] = renumbered(r.Kids[i], n)
	}
	return r
}

// stand tells whether there is a group n, and its Kid stands for the way of the cut.
func (all stander) stand(n int, cut api.Cut) bool {
	r, there := all.res[n]
	if !there || cut.From < 0 || cut.From > len(all.text) {
		return false
	}
	at := [2]int{n, cut.From}
	ends, met := all.known[at]
	if !met {
		ends = deriv.Ends(r, all.text[cut.From:], cut.From == 0, true)
		all.known[at] = ends
	}
	return slices.Contains(ends, cut.To-cut.From)
}

// checkPieces holds that there are groups just if there is a way (P6.1), and that each one's piece is within that, and one for which its Kid stands (P6.2).
func (all stander) checkPieces(t *testing.T, from, to int) (api.Match, bool) {
	t.Helper()
	m, ok := Find(all.res[0], all.text, from, to)
	wrong := ok != all.stand(0, api.Cut{From: from, To: to})
	for n, cut := range m.Cuts {
		if ok && cut != (api.Cut{From: -1, To: -1}) {
			wrong = wrong || cut.From < from || cut.To > to || !all.stand(n, cut)
		}
	}
	if wrong {
		text, _ := ere.Print(all.res[0])
		t.Fatalf("Find(%s, %q, %d, %d) is %v, %t", text, all.text, from, to, m, ok)
	}
	return m, ok
}

// checkText holds Find over a text, from all places to all, against the chapter's words (P6.1, P6.2). It tells whether there weren't too many ways for that.
func checkText(t *testing.T, r api.Re, text string) bool {
	t.Helper()
	words := reader{text: text, known: map[start][]*course{}}
	all := newStander(r, text)
	for from := range len(text) + 1 {
		for to := from; to <= len(text); to++ {
			got, ok := all.checkPieces(t, from, to)
			want, there := words.first(&r, from, to)
			if !words.many && (ok != there || got != want) {
				text, _ := ere.Print(r)
				t.Fatalf("Find(%s, %q, %d, %d) is\n%v, not\n%v", text, words.text, from, to, got, want)
			}
		}
	}
	return !words.many
}

// textsOf are all texts of at most so many of the letters.
func textsOf(letters string, most int) []string {
	texts := []string{""}
	for i := 0; i < len(texts); i++ {
		for j := 0; len(texts[i]) < most && j < len(letters); j++ {
			texts = append(texts, texts[i]+letters[j:j+1])
		}
	}
	return texts
}

// checkTexts holds Find over texts of so many of the letters, and of one or none, against the chapter's words. The texts of numbers between are pieces of those.
func checkTexts(t *testing.T, r api.Re, letters string, most int) {
	t.Helper()
	for _, text := range textsOf(letters, most) {
		if len(text) > 1 && len(text) < most {
			continue
		}
		if few := checkText(t, r, text); !few {
			t.Fatalf("%v has too many ways over %q", r, text)
		}
	}
}

// TestAllExpressions holds all expressions that are read from short texts of a few signs against the chapter's words (P6.1, P6.2).
func TestAllExpressions(t *testing.T) {
	for _, c := range []struct {
		letters, signs string
		most           int
	}{{"ab", "(|)*", 6}, {"a", "()|+", 7}, {"a", "^$|()", 5}, {"a", "(^$)*", 5}, {"a", "()|?*", 6}} {
		for _, s := range textsOf(c.letters+c.signs, c.most) {
			if r, _, err := ere.Parse(s); err == api.OK {
				checkTexts(t, r, c.letters, 3)
			}
		}
	}
}

// TestRepeats holds repeats of many numbers, of many things, alone, within one another, and with something behind, against the chapter's words (P6.1, P6.2).
func TestRepeats(t *testing.T) {
	kids := []string{"a", "(a|b)", "(a|ab)", "(ab|a)", "(a?)", "(|a)", "(|(a)|(b))", "((a)||(b))", "((a)|(b)|)", "(()|(^)|a)", "(a*)", "((a*)(b*))", "((a|b)?(|a))", "($|a)", "(a|$)", "((a)(^|b))", "(^a|b)", "(a(|b)|(b))"}
	for _, kid := range kids {
		for _, sign := range []string{"*", "+", "?", "{0}", "{1}", "{2}", "{3}", "{2,}", "{3,}", "{0,2}", "{0,3}", "{1,2}", "{1,3}", "{2,3}", "{2,4}"} {
			for _, behind := range []string{"", "b*", "(a|b)?", "($)"} {
				checkTexts(t, read(t, kid+sign+behind), "ab", 4)
			}
		}
	}
	few := []string{"*", "+", "?", "{2}", "{0,2}", "{2,}", "{1,2}"}
	for _, kid := range kids {
		for _, inner := range few {
			for _, outer := range few {
				for _, s := range []string{"(" + kid + inner + ")" + outer, "(" + kid + inner + "(b)?)" + outer, "((b)|" + kid + inner + "|a)" + outer, "((b)||" + kid + inner + ")" + outer} {
					checkTexts(t, read(t, s), "ab", 2)
				}
				checkText(t, read(t, "("+kid+inner+"(b)?)"+outer), "aba")
				checkText(t, read(t, "((b)||"+kid+inner+")"+outer), "bab")
				for _, around := range []string{"*", "+"} {
					r := read(t, "(("+kid+inner+")"+outer+"|(b))"+around)
					checkText(t, r, "")
					checkText(t, r, "ab")
				}
			}
		}
	}
}
