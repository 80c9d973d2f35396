package peer

import (
	"math"
	"math/rand"
	"reflect"
	"regexp"
	"slices"
	"strconv"
	"strings"
	"testing"

	"souffleur/api"
	"souffleur/glob"
	"souffleur/quote"
	"souffleur/token"
)

// keywords are the words that mean something, each with the letter that stands for it below.
const keywords = "cap=c at=a echo=e emit=m line=l shut=s after=f ever=v goto=g"

// Peers, places and edges, each token by its letter: n is a further name, w a word that is none; N a number; T a text without variables, V one with them; x another token.
const (
	nameForm  = "[caemlsfvgn]"
	edgeForm  = "(?:mTfN[Nv]g" + nameForm + "|lTg" + nameForm + "|sfN[Nv])"
	placeForm = "a" + nameForm + "e?{" + edgeForm + "*}"
)

// likely is a row that goes through all that may stand somewhere.
const likely = "cNan{mTfNNgnlTgnsfNN}aae{}"

// letterOf is the letter of a token.
func letterOf(t api.Token) string {
	switch t.Kind {
	case api.TokWord:
		for _, pair := range strings.Fields(keywords) {
			if word, letter, _ := strings.Cut(pair, "="); word == t.Word {
				return letter
			}
		}
		if quote.Name(t.Word) {
			return "n"
		}
		return "w"
	case api.TokNum:
		return "N"
	case api.TokText:
		if slices.ContainsFunc(t.Parts, func(p api.Part) bool { return p.Name != "" }) {
			return "V"
		}
		return "T"
	case api.TokSign:
		if t.Word == "{" || t.Word == "}" {
			return t.Word
		}
	}
	return "x"
}

// oracle answers as the chapter's words say.
type oracle struct {
	whole, edge, place *regexp.Regexp
	met                map[string]int
}

func newOracle() *oracle {
	return &oracle{regexp.MustCompile("^cN(?:" + placeForm + ")+$"), regexp.MustCompile(edgeForm), regexp.MustCompile(placeForm), map[string]int{}}
}

// mayGoOn tells whether a peer may begin with these letters.
func (o *oracle) mayGoOn(letters string) bool {
	if n, met := o.met[letters]; met {
		return n == 1
	}
	n := 0
	for i := range len(likely) + 1 {
		if o.whole.MatchString(letters + likely[i:]) {
			n = 1
		}
	}
	if len(letters) < 8 {
		o.met[letters] = n
	}
	return n == 1
}

// formed answers at which of the letters they can't go on, how many there are, if at none, and whether they are a peer's.
func (o *oracle) formed(letters string) (int, bool) {
	if o.whole.MatchString(letters) {
		return len(letters), true
	}
	// It may go on up to a place, and not from there on.
	lo, hi := 0, len(letters)
	for lo < hi {
		middle := (lo + hi + 1) / 2
		if o.mayGoOn(letters[:middle]) {
			lo = middle
		} else {
			hi = middle - 1
		}
	}
	return lo, false
}

// wrongs answers by places in tokens what is wrong there, of a row that has the form of a peer; and the peer, if nothing is.
func (o *oracle) wrongs(l []api.Token, letters string) (map[int]api.Errno, api.Peer) {
	all := map[int]api.Errno{}
	p := api.Peer{Cap: int(l[1].N)}
	if l[1].N < 1 || l[1].N > 16 {
		all[1] = api.ErrLong
	}
	numbers := map[string]int{}
	places := o.place.FindAllStringIndex(letters[2:], -1)
	for i, place := range places {
		from := place[0] + 2
		if i >= 16 {
			all[from] = api.ErrFull
		}
		if _, met := numbers[l[from+1].Word]; met {
			all[from+1] = api.ErrMet
		} else {
			numbers[l[from+1].Word] = i
		}
	}
	for _, place := range places {
		from, to := place[0]+2, place[1]+2
		edges := from + strings.Index(letters[from:], "{") + 1
		one := api.Place{Name: l[from+1].Word, Echo: edges == from+4}
		for i, edge := range o.edge.FindAllStringIndex(letters[edges:to-1], -1) {
			if i >= 8 {
				all[edges+edge[0]] = api.ErrFull
			}
			one.Edges = append(one.Edges, edgeByWords(l[edges+edge[0]:edges+edge[1]], p.Cap, numbers, func(n int, err api.Errno) { all[edges+edge[0]+n] = err }))
		}
		p.Places = append(p.Places, one)
	}
	return all, p
}

// edgeByWords is the edge of these tokens; what is wrong in it is told.
func edgeByWords(l []api.Token, most int, numbers map[string]int, tell func(int, api.Errno)) api.Edge {
	e := api.Edge{Kind: map[string]int{"emit": 1, "line": 2, "shut": 3}[l[0].Word]}
	if e.Kind != 3 {
		e.Text, _ = quote.Plain(l[1].Parts)
		last := len(l) - 1
		to, is := numbers[l[last].Word]
		if e.To = to; !is {
			tell(last, api.ErrName)
		}
	}
	if _, _, err := glob.Parse(e.Text); e.Kind == 1 && (e.Text == "" || len(e.Text) > most) || e.Kind == 2 && err != api.OK {
		tell(1, api.ErrArg)
	}
	if e.Kind == 2 {
		return e
	}
	first := 3
	if e.Kind == 3 {
		first = 2
	}
	e.Lo, e.Hi = int(l[first].N), -1
	if l[first].N > 9 {
		tell(first, api.ErrLong)
	}
	if second := l[first+1]; second.Kind == api.TokNum {
		e.Hi = int(second.N)
		if second.N > 9 {
			tell(first+1, api.ErrLong)
		} else if second.N < l[first].N {
			tell(first+1, api.ErrArg)
		}
	}
	return e
}

// tokensIn are those of a text, without their places.
func tokensIn(s string) []api.Token {
	l, _, err := token.Scan(s)
	if err != api.OK {
		panic("no tokens: " + s)
	}
	for i := range l {
		l[i].At = 0
	}
	return l
}

// gaps are what may stand between tokens.
func gaps() []string {
	return []string{" ", "\n", "\t", "  ", "#\n", " # at {\n"}
}

// checkTokens holds that a row of tokens is read or refused as the words say, and answers the error.
func checkTokens(t testing.TB, o *oracle, l []api.Token, gap string) api.Errno {
	t.Helper()
	s, letters := gap, ""
	var at []int
	for _, one := range l {
		word, err := token.Text(one)
		if err != api.OK {
			t.Fatalf("%v is no token", one)
		}
		at = append(at, len(s))
		s += word + gap
		letters += letterOf(one)
	}
	if len(s) > 1000 {
		return api.ErrLong
	}
	at = append(at, len(s))
	wrong, place := api.ErrForm, 0
	var want api.Peer
	n, formed := o.formed(letters)
	if formed {
		var all map[int]api.Errno
		all, want = o.wrongs(l, letters)
		wrong, n = api.OK, len(l)
		for i := range l {
			if err, is := all[i]; is && wrong == api.OK {
				wrong, n = err, i
			}
		}
	}
	if wrong != api.OK {
		want, place = api.Peer{}, at[n]
	}
	got, gotPlace, err := Parse(s)
	if !reflect.DeepEqual(bare(got), bare(want)) || gotPlace != place || err != wrong {
		t.Fatalf("Parse(%q) is %v, %d, error %d; not %v, %d, error %d", s, got, gotPlace, err, want, place, wrong)
	}
	if err == api.OK {
		checkOwn(t, got)
	}
	return err
}

// checkOwn holds that p, which was read, may be, is printed as the words say, and is read again.
func checkOwn(t testing.TB, p api.Peer) {
	t.Helper()
	want := written(p)
	s, err := Print(p)
	if !May(p) || len(want) <= 1000 && (s != want || err != api.OK) || len(want) > 1000 && (s != "" || err != api.ErrLong) {
		t.Fatalf("Print(%v) is %q, error %d, not %q; May is %v", p, s, err, want, May(p))
	}
	if err != api.OK {
		return
	}
	if again, n, wrong := Parse(s); !reflect.DeepEqual(bare(again), bare(p)) || n != 0 || wrong != api.OK || !Same(again, p) {
		t.Fatalf("%q is read as %v, %d, error %d", s, again, n, wrong)
	}
}

// written is the text of p, as the words have it; whatever is in its fields.
func written(p api.Peer) string {
	return strings.Join(writtenWords(p), " ")
}

// writtenWords are those of the text of p.
func writtenWords(p api.Peer) []string {
	l := []string{"cap", strconv.Itoa(p.Cap)}
	for _, place := range p.Places {
		l = append(l, "at", place.Name)
		if place.Echo {
			l = append(l, "echo")
		}
		l = append(l, "{")
		for _, e := range place.Edges {
			text := `""`
			if e.Text != "" {
				text, _ = quote.Print([]api.Part{{Text: e.Text}})
			}
			hi := strconv.Itoa(e.Hi)
			if e.Hi == -1 {
				hi = "ever"
			}
			to := "?"
			if e.To >= 0 && e.To < len(p.Places) {
				to = p.Places[e.To].Name
			}
			delays := []string{"after", strconv.Itoa(e.Lo), hi}
			switch e.Kind {
			case api.EdgeEmit:
				l = append(append(append(l, "emit", text), delays...), "goto", to)
			case api.EdgeLine:
				l = append(l, "line", text, "goto", to)
			case api.EdgeShut:
				l = append(append(l, "shut"), delays...)
			default:
				l = append(l, "?")
			}
		}
		l = append(l, "}")
	}
	return l
}

// mayByWords tells whether p may be: such are those that are what their text is read as, however long it is.
func mayByWords(o *oracle, p api.Peer) bool {
	var l []api.Token
	letters := ""
	for _, word := range writtenWords(p) {
		one, _, err := token.Scan(word)
		if err != api.OK || len(one) != 1 {
			return false
		}
		l = append(l, one[0])
		letters += letterOf(one[0])
	}
	if _, formed := o.formed(letters); !formed {
		return false
	}
	all, read := o.wrongs(l, letters)
	return len(all) == 0 && reflect.DeepEqual(bare(read), bare(p))
}

// alphabet is a token of each sort.
func alphabet() []api.Token {
	return tokensIn(`cap at echo emit line shut after ever goto a b exceptions 0 1 9 10 17 "" "a" "[" "${a}" $a { } ( - -i`)
}

// TestShortRows holds how all short rows of tokens are read, by themselves and behind others (P13.1, P13.2).
func TestShortRows(t *testing.T) {
	o := newOracle()
	all := alphabet()
	counts := map[api.Errno]int{}
	count := 0
	for ahead, behind := range map[string]string{
		"": "", "cap": "at a { }", "cap 1": "", "cap 1 at": "", "cap 1 at a": "", "cap 1 at a {": "}", "cap 1 at a { } at": "", "cap 1 at a { emit": "} at b { }", `cap 1 at a { emit "a"`: "goto a }", `cap 1 at a { emit "a" after`: "goto a }", `cap 1 at a { emit "a" after 1 2`: "} at b { }", "cap 1 at a { line": "}", `cap 1 at a { line "a"`: "}", "cap 1 at a { shut": "}", "cap 1 at a { shut after": "}", "cap 1 at a { shut after 1": "} at a { }", "cap 1 at a { shut after 1 2": "}", "cap 1 at a { } ": "{ }",
	} {
		first, last := tokensIn(ahead), tokensIn(behind)
		var add func(l []api.Token, n int)
		add = func(l []api.Token, n int) {
			count++
			gap := gaps()[count%len(gaps())]
			counts[checkTokens(t, o, slices.Concat(first, l), gap)]++
			counts[checkTokens(t, o, slices.Concat(first, l, last), gap)]++
			for i := 0; n > 0 && i < len(all); i++ {
				add(append(slices.Clone(l), all[i]), n-1)
			}
		}
		add(nil, 2)
	}
	for _, err := range []api.Errno{api.OK, api.ErrForm, api.ErrLong, api.ErrArg, api.ErrName} {
		if counts[err] < 5 {
			t.Errorf("error %d: %d", err, counts[err])
		}
	}
}

// peers makes peers, of which many may be.
type peers struct {
	random *rand.Rand
	// odd tells how many of a thousand pieces aren't as they may be.
	odd int
}

func (m peers) isOdd() bool {
	return m.random.Intn(1000) < m.odd
}

func (m peers) pick(l ...string) string {
	return l[m.random.Intn(len(l))]
}

func (m peers) name(i int) string {
	if m.isOdd() {
		return m.pick("a", "b", "cap", "echo")
	}
	return []string{"a", "b", "cap", "at", "echo", "emit", "line", "shut", "after", "ever", "goto", "x_1", "abcdefgh", "c", "d", "e", "f", "g", "h"}[i%19]
}

// edge is one of a peer with so many places, from which so many bytes may be under way.
func (m peers) edge(most, places int) api.Edge {
	e := api.Edge{Kind: 1 + m.random.Intn(3)}
	if e.Kind != api.EdgeShut {
		e.To = m.random.Intn(places)
		if m.isOdd() {
			e.To = m.random.Intn(places+4) - 2
		}
	}
	switch e.Kind {
	case api.EdgeEmit:
		for range 1 + m.random.Intn(max(most, 1)) {
			e.Text += m.pick("a", "0", "\n", "\"", "$", "\xff", "[", "\\")
		}
		if m.isOdd() {
			e.Text = m.pick("", e.Text+"x", e.Text+e.Text)
		}
	case api.EdgeLine:
		e.Text = m.pick("", "a", "*", "a?", "[a-c]*", `\*`, `\[\\`, "\x00[\xf0-\xff]")
		if m.isOdd() {
			e.Text = m.pick("[", "[]", "\\", "[c-a]", strings.Repeat("ab", 101))
		}
	}
	if e.Kind != api.EdgeLine {
		e.Lo = m.random.Intn(10)
		e.Hi = e.Lo + m.random.Intn(10-e.Lo)
		if m.random.Intn(4) == 0 {
			e.Hi = -1
		}
		if m.isOdd() {
			e.Lo = m.random.Intn(13) - 1
		}
		if m.isOdd() {
			e.Hi = m.random.Intn(14) - 2
		}
	}
	return e
}

// few is a small number, mostly, and sometimes one around most.
func (m peers) few(most int) int {
	switch {
	case m.isOdd():
		return most + 1 + m.random.Intn(2)
	case m.random.Intn(10) == 0:
		return most
	}
	return m.random.Intn(4)
}

func (m peers) peer() api.Peer {
	p := api.Peer{Cap: 1 + m.random.Intn(16)}
	if m.isOdd() {
		p.Cap = m.random.Intn(20) - 1
	}
	n := max(1, m.few(16))
	for i := range n {
		place := api.Place{Name: m.name(i), Echo: m.random.Intn(3) == 0}
		for range m.few(8) {
			place.Edges = append(place.Edges, m.edge(p.Cap, n))
		}
		p.Places = append(p.Places, place)
	}
	return p
}

// TestMade holds how many made peers, of which some may not be, are written and read (P13.1, P13.2).
func TestMade(t *testing.T) {
	o := newOracle()
	counts := map[api.Errno]int{}
	for i := range 20000 {
		m := peers{rand.New(rand.NewSource(int64(i))), i % 4 * 8}
		p := m.peer()
		want := mayByWords(o, p)
		s, err := Print(p)
		switch {
		case May(p) != want:
			t.Fatalf("May(%v) is not %v", p, want)
		case want:
			checkOwn(t, p)
		case s != "" || err != api.ErrArg:
			t.Fatalf("Print(%v) is %q, error %d", p, s, err)
		}
		counts[err]++
	}
	if counts[api.OK] < 1000 || counts[api.ErrArg] < 1000 || counts[api.ErrLong] < 50 {
		t.Errorf("the errors are %v", counts)
	}
}

// TestWrong holds how texts of peers that may not be are refused, and texts that are nearly those of peers (P13.1).
func TestWrong(t *testing.T) {
	o := newOracle()
	all := alphabet()
	counts := map[api.Errno]int{}
	for i := range 30000 {
		m := peers{rand.New(rand.NewSource(int64(i))), i % 4 * 25}
		s := strings.NewReplacer("?", "z", "-1", "77", "-2", "9223372036854775807").Replace(written(m.peer()))
		l, _, err := token.Scan(s)
		if err != api.OK {
			continue
		}
		for range i % 3 {
			at := m.random.Intn(len(l) + 1)
			to := min(len(l), at+m.random.Intn(2))
			l = slices.Concat(l[:at], all[m.random.Intn(len(all)):][:m.random.Intn(2)], l[to:])
		}
		counts[checkTokens(t, o, l, gaps()[i%len(gaps())])]++
	}
	for _, err := range []api.Errno{api.OK, api.ErrForm, api.ErrLong, api.ErrArg, api.ErrName, api.ErrMet, api.ErrFull} {
		if counts[err] < 100 {
			t.Errorf("error %d: %d", err, counts[err])
		}
	}
}

// TestAllSmall holds of many small peers whether they may be, against the words of the chapter (P13.1).
func TestAllSmall(t *testing.T) {
	o := newOracle()
	count := 0
	check := func(p api.Peer) {
		want := mayByWords(o, p)
		_, err := Print(p)
		if May(p) != want || (err == api.OK) != want || !want && err != api.ErrArg {
			t.Fatalf("May(%v) is %v, not %v; Print: error %d", p, May(p), want, err)
		}
		if want {
			count++
		}
	}
	for kind := -1; kind <= 5; kind++ {
		for _, s := range []string{"", "a", "ab", "abc", "[", "a*"} {
			for _, lo := range []int{0, 1, 9, 10, -1, math.MaxInt, math.MinInt} {
				for _, hi := range []int{0, 1, 9, 10, -1, -2, math.MaxInt, math.MinInt} {
					for _, to := range []int{0, 1, 2, -1, math.MaxInt, math.MinInt} {
						for most := range 4 {
							check(peerOf(most, at("a", api.Edge{Kind: kind, Text: s, Lo: lo, Hi: hi, To: to}), echoes(at("b"))))
						}
					}
				}
			}
		}
	}
	// 11 times 9 times 2 that emit, 5 times 2 times 3 of lines, 9 times 3 that shut.
	if count != 255 {
		t.Errorf("%d of them may be", count)
	}
}

// FuzzParse reads any texts, and rows of tokens, each made of a byte.
func FuzzParse(f *testing.F) {
	for s := range texts() {
		f.Add(s)
	}
	for _, marked := range cantGoOn() {
		f.Add(marked)
	}
	all := alphabet()
	o := newOracle()
	f.Fuzz(func(t *testing.T, s string) {
		if l, _, err := token.Scan(s); err == api.OK {
			checkTokens(t, o, l, " ")
		}
		var l []api.Token
		for _, c := range []byte(s[:min(len(s), 100)]) {
			l = append(l, all[int(c)%len(all)])
		}
		checkTokens(t, o, l, "\n")
		if p, n, err := Parse(s); err != api.OK && (!reflect.DeepEqual(p, api.Peer{}) || n < 0 || n > len(s)) {
			t.Fatalf("Parse(%q) is %v, %d, error %d", s, p, n, err)
		}
	})
}

// FuzzPrint writes peers that a number makes, some of them odd, as the words say.
func FuzzPrint(f *testing.F) {
	f.Add(int64(1), 0)
	f.Add(int64(2), 100)
	o := newOracle()
	f.Fuzz(func(t *testing.T, seed int64, odd int) {
		p := peers{rand.New(rand.NewSource(seed)), odd}.peer()
		want := mayByWords(o, p)
		s, err := Print(p)
		if May(p) != want || (err == api.ErrArg) == want {
			t.Fatalf("May(%v) is %v, not %v; Print is %q, error %d", p, May(p), want, s, err)
		}
		if want {
			checkOwn(t, p)
		}
	})
}
