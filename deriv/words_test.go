package deriv

import (
	"math/bits"
	"slices"
	"testing"

	"souffleur/api"
	"souffleur/ere"
)

// text is a text of fewer than 64 bytes, with a beginning and an end or without. Its places are told as bits.
type text struct {
	bytes      string
	begin, end bool
}

// reader finds the ways in a text as the chapter's words are, each way of each expression within r once.
type reader struct {
	text
	known map[way]uint64
}

// way is a way of r from a place.
type way struct {
	r    *api.Re
	from int
}

// ways answers the places to which r stands for the way from one of the places from.
func (s reader) ways(r *api.Re, from uint64) uint64 {
	var to uint64
	for ; from != 0; from &= from - 1 {
		w := way{r, bits.TrailingZeros64(from)}
		if _, ok := s.known[w]; !ok {
			s.known[w] = s.waysFrom(r, w.from)
		}
		to |= s.known[w]
	}
	return to
}

func (s reader) waysFrom(r *api.Re, from int) uint64 {
	same := uint64(1) << from
	switch r.Kind {
	case api.ReEmpty:
		return same
	case api.ReSet:
		if from < len(s.bytes) && r.Set[s.bytes[from]>>6]&(1<<(s.bytes[from]&63)) != 0 {
			return same << 1
		}
	case api.ReBegin:
		if s.begin && from == 0 {
			return same
		}
	case api.ReEnd:
		if s.end && from == len(s.bytes) {
			return same
		}
	case api.ReCat:
		for i := range r.Kids {
			same = s.ways(&r.Kids[i], same)
		}
		return same
	case api.ReAlt:
		var to uint64
		for i := range r.Kids {
			to |= s.ways(&r.Kids[i], same)
		}
		return to
	case api.ReRepeat:
		return s.waysOfTimes(r, same)
	case api.ReGroup:
		return s.ways(&r.Kids[0], same)
	}
	return 0
}

// waysOfTimes goes through the numbers of times one by one. Of any number so many suffice: of more than Lo times and one for each byte one goes over no bytes, and may be left out.
func (s reader) waysOfTimes(r *api.Re, from uint64) uint64 {
	var to uint64
	most := r.Hi
	if most < 0 {
		most = r.Lo + len(s.bytes)
	}
	for times := 0; times <= most; times++ {
		if times >= r.Lo {
			to |= from
		}
		from = s.ways(&r.Kids[0], from)
	}
	return to
}

// ends are the places of ways from place 0, rising.
func (s text) ends(r api.Re) []int {
	var places []int
	for to := (reader{s, map[way]uint64{}}).ways(&r, 1); to != 0; to &= to - 1 {
		places = append(places, bits.TrailingZeros64(to))
	}
	return places
}

// stands tells whether r stands for the way over all of s.
func (s text) stands(r api.Re) bool {
	return slices.Contains(s.ends(r), len(s.bytes))
}

var bools = []bool{false, true}

// read is the expression that is read from s.
func read(t testing.TB, s string) api.Re {
	t.Helper()
	r, _, err := ere.Parse(s)
	if err != api.OK {
		t.Fatalf("ere.Parse(%q) is error %d", s, err)
	}
	return r
}

// checkText holds all calls of r over one text against the chapter's words (P5.1).
func checkText(t *testing.T, r api.Re, bytes string) {
	t.Helper()
	for _, begin := range bools {
		for _, end := range bools {
			s := text{bytes, begin, end}
			want := s.ends(r)
			if got := Ends(r, bytes, begin, end); !slices.Equal(got, want) {
				t.Fatalf("Ends(%v, %q, %t, %t) is %v, not %v", r, bytes, begin, end, got, want)
			}
			if got := Match(r, bytes, begin, end); got != slices.Contains(want, len(bytes)) {
				t.Fatalf("Match(%v, %q, %t, %t) is %t", r, bytes, begin, end, got)
			}
		}
	}
}

// checkMachine holds the machine m of r, which has taken the bytes, and all machines that take so many more of the letters behind them, against the chapter's words (P5.1, P5.2). It tells whether one of them accepts.
func checkMachine(t *testing.T, r api.Re, m Machine, taken text, letters string, more int) bool {
	t.Helper()
	any := false
	for _, end := range bools {
		s := text{taken.bytes, taken.begin, end}
		want := s.stands(r)
		any = any || want
		if got := m.Accepts(end); got != want {
			t.Fatalf("a machine of %v, begin %t, end %t, over %q accepts: %t", r, s.begin, end, s.bytes, got)
		}
	}
	for i := 0; i < len(letters) && more > 0; i++ {
		next := m
		next.Next(letters[i])
		further := text{taken.bytes + letters[i:i+1], taken.begin, false}
		any = checkMachine(t, r, next, further, letters, more-1) || any
	}
	if any && !m.Alive() {
		t.Fatalf("a machine of %v, begin %t, over %q isn't alive", r, taken.begin, taken.bytes)
	}
	return any
}

// checkAll holds all calls of r over all texts of at most so many of the letters against the chapter's words (P5.1, P5.2).
func checkAll(t *testing.T, r api.Re, letters string, most int) {
	t.Helper()
	for _, begin := range bools {
		checkMachine(t, r, *New(r, begin), text{"", begin, false}, letters, most)
	}
	if got := Nothing(r); got != (text{}).stands(r) {
		t.Fatalf("Nothing(%v) is %t", r, got)
	}
	for _, s := range textsOf(letters, most) {
		if len(s) == most {
			checkText(t, r, s)
		}
	}
}

// textsOf are all texts of at most so many of the letters.
func textsOf(letters string, most int) []string {
	texts := []string{""}
	for i := 0; i < len(texts); i++ {
		for j := 0; len(texts[i]) < most && j < len(letters); j++ {
			texts = append(texts, texts[i]+letters[j:j+1])
		}
	}
	return texts
}

// TestAllExpressions holds all expressions that are read from short texts of a few signs against the chapter's words (P5.1, P5.2).
func TestAllExpressions(t *testing.T) {
	for signs, most := range map[string]int{"ab(|)*": 6, "a^$|()": 5, "a(^$)*": 5, "ab^$|*": 5, "a(b)?+": 5, "a.b|^$": 4} {
		for _, s := range textsOf(signs, most) {
			if r, _, err := ere.Parse(s); err == api.OK {
				checkAll(t, r, "ab", 3)
			}
		}
	}
}

// TestAllRepeats holds repeats of all numbers, of many things, alone and within one another, against the chapter's words (P5.1, P5.2).
func TestAllRepeats(t *testing.T) {
	signs := []string{"*", "+", "?"}
	for lo := range 9 {
		digit := string(rune('0' + lo))
		signs = append(signs, "{"+digit+"}", "{"+digit+",}")
		for hi := lo; hi <= 8; hi++ {
			signs = append(signs, "{"+digit+","+string(rune('0'+hi))+"}")
		}
	}
	for _, kid := range []string{"a", "(ab)", "(a|ab)", "(a?)", "(a|^)", "(^a|b)", "(a$|b)", "($|a)", "()", "(a*b)", "(^|$|ab?)", "(a|aa)", "(aab?|b)"} {
		for _, sign := range signs {
			checkAll(t, read(t, kid+sign), "ab", 4)
			checkText(t, read(t, kid+sign+"b*"), "abaabaaabaa")
			checkText(t, read(t, kid+sign), "aaaaaaaaaaaaaaaaaaab")
		}
	}
	few := []string{"*", "{2}", "{0,2}", "{2,}", "{1,3}", "{3,4}", "{0}", "{7,8}", "{2,3}"}
	for _, kid := range []string{"a", "(ab?)", "(a|^|bb)", "($|a)", "(a|aaa)"} {
		for _, inner := range few {
			for _, outer := range few {
				for _, s := range []string{"(" + kid + inner + ")" + outer, "(" + kid + inner + "b?)" + outer, "(b|^" + kid + inner + "$|a)" + outer, "(" + kid + inner + "a" + kid + outer + ")" + inner} {
					checkAll(t, read(t, s), "ab", 3)
					checkText(t, read(t, s), "aaabaaaababaa")
				}
			}
		}
	}
}
