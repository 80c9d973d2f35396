package script

import (
	"math"
	"math/rand"
	"reflect"
	"slices"
	"strings"
	"testing"

	"souffleur/api"
	"souffleur/expr"
	"souffleur/quote"
	"souffleur/token"
)

// grammar is the chapter's: what is written in capitals stands for tokens of a kind, what begins no row for itself.
const grammar = `
script = cmds
cmds =
cmds = cmds cmd
cmd = set NAME TEXT
cmd = let NAME ( e )
cmd = incr NAME NUM
cmd = incr NAME - NUM
cmd = if ( e ) block
cmd = if ( e ) block else block
cmd = while ( e ) block
cmd = proc NAME block
cmd = call NAME
cmd = spawn NUM
cmd = use NUM
cmd = send TEXT
cmd = timeout NUM
cmd = timeout never
cmd = expect { rules }
cmd = expect_before { rules }
cmd = expect_after { rules }
cmd = exp_continue
cmd = exit
block = { cmds }
rules = rule
rules = rules rule
rule = heeded block
rule = -i NUM heeded block
rule = timeout block
rule = default block
heeded = -ex PLAIN
heeded = -gl PLAIN
heeded = -re PLAIN
heeded = eof
e = NUM
e = VAR
e = - e
e = ! e
e = ( e )
e = e OP e
`

// line is one of the grammar.
type line struct {
	name string
	of   []string
}

// spot is a line that is read up to a place, from a token on.
type spot struct {
	row, at, from int
}

// earley goes through all ways in which tokens may be read.
type earley struct {
	rows  []line
	sets  [][]spot
	names map[string][]int
}

func newEarley() *earley {
	g := &earley{names: map[string][]int{}}
	for _, written := range strings.Split(strings.TrimSpace(grammar), "\n") {
		name, of, _ := strings.Cut(written, " =")
		g.names[name] = append(g.names[name], len(g.rows))
		g.rows = append(g.rows, line{name, strings.Fields(of)})
	}
	g.sets = [][]spot{g.closed([]spot{{0, 0, 0}}, 0)}
	return g
}

// wanted answers what stands next at s; empty, if nothing does.
func (g *earley) wanted(s spot) string {
	if of := g.rows[s.row].of; s.at < len(of) {
		return of[s.at]
	}
	return ""
}

// closed are the spots l of the set n, and all that come of them without a token.
func (g *earley) closed(l []spot, n int) []spot {
	met := map[spot]int{}
	for _, s := range l {
		met[s] = 1
	}
	add := func(s spot) {
		if met[s] == 0 {
			met[s] = 1
			l = append(l, s)
		}
	}
	for i := 0; i < len(l); i++ {
		s := l[i]
		name := g.wanted(s)
		for _, next := range g.names[name] {
			add(spot{next, 0, n})
		}
		// The one that may be empty is read at once.
		if name == "cmds" {
			add(spot{s.row, s.at + 1, s.from})
		}
		if name != "" {
			continue
		}
		outer := l
		if s.from < n {
			outer = g.sets[s.from]
		}
		for _, o := range outer {
			if g.wanted(o) == g.rows[s.row].name {
				add(spot{o.row, o.at + 1, o.from})
			}
		}
	}
	return l
}

// stands tells whether the token may stand where the grammar has what.
func stands(t api.Token, what string) bool {
	plain, is := quote.Plain(t.Parts)
	switch what {
	case "NAME":
		return t.Kind == api.TokWord && quote.Name(t.Word)
	case "TEXT":
		return t.Kind == api.TokText
	case "PLAIN":
		return t.Kind == api.TokText && is && (plain != "" || len(t.Parts) == 0)
	case "NUM":
		return t.Kind == api.TokNum
	case "VAR":
		return t.Kind == api.TokVar
	case "OP":
		return t.Kind == api.TokSign && slices.Contains(strings.Fields("|| && == != < > <= >= + - * / %"), t.Word)
	}
	s, _ := token.Text(t)
	return s == what
}

// read tells whether the token may stand next; only then it is read.
func (g *earley) read(t api.Token) bool {
	var l []spot
	for _, s := range g.sets[len(g.sets)-1] {
		if what := g.wanted(s); what != "" && g.names[what] == nil && stands(t, what) {
			l = append(l, spot{s.row, s.at + 1, s.from})
		}
	}
	if len(l) > 0 {
		g.sets = append(g.sets, g.closed(l, len(g.sets)))
	}
	return len(l) > 0
}

// unread takes the last token back.
func (g *earley) unread() {
	g.sets = g.sets[:len(g.sets)-1]
}

// whole tells whether what is read is a script.
func (g *earley) whole() bool {
	return slices.Contains(g.sets[len(g.sets)-1], spot{0, 1, 0})
}

// refusal answers what Parse must of a row of tokens, if its expressions are shallow: at which of them it can't go on, how many there are, if at none, and why.
func (g *earley) refusal(l []api.Token) (int, api.Errno) {
	g.sets = g.sets[:1]
	open := 0
	for i, t := range l {
		if !g.read(t) {
			return i, api.ErrForm
		}
		if t.Kind == api.TokSign && t.Word == "{" {
			open++
		}
		if t.Kind == api.TokSign && t.Word == "}" {
			open--
		}
		if open > 16 {
			return i, api.ErrDeep
		}
	}
	if !g.whole() {
		return len(l), api.ErrForm
	}
	return len(l), api.OK
}

// gaps are what may stand between tokens.
func gaps() []string {
	return []string{" ", "\n", "\t", "  ", "#\n", " # exit {\n", "\n\n\t#\"\n"}
}

// checkTokens holds that a row of tokens, whose expressions are shallow, is read or refused as the words say.
func checkTokens(t testing.TB, g *earley, l []api.Token, gap string) {
	t.Helper()
	s := gap
	at := []int{}
	for _, one := range l {
		word, err := token.Text(one)
		if err != api.OK {
			t.Fatalf("%v is no token", one)
		}
		at = append(at, len(s))
		s += word + gap
	}
	if len(s) > 2000 {
		return
	}
	at = append(at, len(s))
	n, wrong := g.refusal(l)
	got, place, err := Parse(s)
	if wrong != api.OK {
		if len(got) != 0 || place != at[n] || err != wrong {
			t.Fatalf("Parse(%q) is %v, %d, error %d; not %d, error %d", s, got, place, err, at[n], wrong)
		}
		return
	}
	if place != 0 || err != api.OK {
		t.Fatalf("Parse(%q) is %v, %d, error %d", s, got, place, err)
	}
	checkOwn(t, s, got)
}

// checkOwn holds that l, which was read from s, may be, is printed as the words say, and is read again.
func checkOwn(t testing.TB, s string, l []api.Cmd) {
	t.Helper()
	want, _ := token.Join(written(l))
	printed, err := Print(l)
	if printed != want || err != api.OK && (err != api.ErrLong || len(s) < 1000) || !May(l) {
		t.Fatalf("of %q Print is %q, error %d, not %q; May is %v", s, printed, err, want, May(l))
	}
	again, n, wrong := Parse(printed)
	if err == api.OK && (!reflect.DeepEqual(bare(again), bare(l)) || n != 0 || wrong != api.OK) {
		t.Fatalf("%q is read as %v, %d, error %d", printed, again, n, wrong)
	}
}

// words are the words of the commands, by their kinds, as the chapter has them.
func words() []string {
	return strings.Fields("- set let incr if while proc call spawn use send timeout expect expect_before expect_after exp_continue exit")
}

// tokensOf are those of a text.
func tokensOf(s string) []api.Token {
	l, _, err := token.Scan(s)
	if err != api.OK {
		panic("no tokens: " + s)
	}
	for i := range l {
		l[i].At = 0
	}
	return l
}

// written are the tokens of l, as the words have them, whatever is in its fields.
func written(l []api.Cmd) []api.Token {
	var out []api.Token
	put := func(more ...api.Token) { out = append(out, more...) }
	for _, c := range l {
		if c.Kind < 1 || c.Kind > 16 {
			return append(out, api.Token{})
		}
		put(api.Token{Kind: api.TokWord, Word: words()[c.Kind]})
		switch c.Kind {
		case api.CmdSet, api.CmdLet, api.CmdIncr, api.CmdProc, api.CmdCall:
			put(api.Token{Kind: api.TokWord, Word: c.Name})
		}
		switch number := (api.Token{Kind: api.TokNum, N: c.N}); {
		case c.Kind == api.CmdSet, c.Kind == api.CmdSend:
			put(api.Token{Kind: api.TokText, Parts: c.Parts})
		case c.Kind == api.CmdIncr && c.N < 0:
			number.N = -number.N
			put(tokensOf("-")[0], number)
		case c.Kind == api.CmdTimeout && c.N == -1:
			put(tokensOf("never")...)
		case c.Kind == api.CmdIncr, c.Kind == api.CmdSpawn, c.Kind == api.CmdUse, c.Kind == api.CmdTimeout:
			put(number)
		case c.Kind == api.CmdLet, c.Kind == api.CmdIf, c.Kind == api.CmdWhile:
			cond, _ := expr.Tokens(c.Cond)
			put(slices.Concat(tokensOf("("), cond, tokensOf(")"))...)
		}
		switch c.Kind {
		case api.CmdIf, api.CmdWhile, api.CmdProc:
			put(block(c.Body)...)
		case api.CmdExpect, api.CmdBefore, api.CmdAfter:
			put(tokensOf("{")...)
			for _, r := range c.Rules {
				put(writtenRule(r)...)
			}
			put(tokensOf("}")...)
		}
		if c.Kind == api.CmdIf && len(c.Else) > 0 {
			put(append(tokensOf("else"), block(c.Else)...)...)
		}
	}
	return out
}

func block(l []api.Cmd) []api.Token {
	return slices.Concat(tokensOf("{"), written(l), tokensOf("}"))
}

// writtenRule are the tokens of r, as the words have them, whatever is in its fields.
func writtenRule(r api.Rule) []api.Token {
	var out []api.Token
	if r.Peer != -1 {
		out = append(tokensOf("-i"), api.Token{Kind: api.TokNum, N: r.Peer})
	}
	switch {
	case r.Kind == api.RulePattern && r.Pattern.Kind >= 0 && r.Pattern.Kind <= 2:
		plain := api.Token{Kind: api.TokText}
		if r.Pattern.Text != "" {
			plain.Parts = text(r.Pattern.Text)
		}
		out = append(append(out, tokensOf([]string{"-ex", "-gl", "-re"}[r.Pattern.Kind])...), plain)
	case r.Kind >= api.RuleTimeout && r.Kind <= api.RuleDefault:
		out = append(out, tokensOf([]string{"timeout", "eof", "default"}[r.Kind-2])...)
	default:
		out = append(out, api.Token{})
	}
	return append(out, block(r.Body)...)
}

// mayByWords tells whether l may be, by the chapter's words: commands that may be are those for which there are tokens.
func mayByWords(g *earley, l []api.Cmd) bool {
	tokens := written(l)
	s, err := token.Join(tokens)
	if err != api.OK {
		return false
	}
	if _, wrong := g.refusal(tokens); wrong != api.OK {
		return false
	}
	read, _, _ := Parse(s)
	return reflect.DeepEqual(bare(read), bare(l))
}

// alphabet is a token of each sort.
func alphabet() []api.Token {
	return tokensOf(`set let incr if while proc call spawn use send timeout never expect expect_before expect_after exp_continue exit else eof default p exceptions 1 0 "" "a" "${a}" "a${b}" $a { } ( ) - ! + < -i -ex -gl -re`)
}

// TestShortRows holds how all short rows of tokens are read, against the grammar (P10.1, P10.2).
func TestShortRows(t *testing.T) {
	all := alphabet()
	g := newEarley()
	var prefix []api.Token
	count := 0
	var add func(n int)
	add = func(n int) {
		count++
		checkTokens(t, newEarley(), prefix, gaps()[count%len(gaps())])
		if n == 0 {
			return
		}
		for i, one := range all {
			prefix = append(prefix, one)
			if g.read(one) {
				add(n - 1)
				g.unread()
			} else {
				// Of what is behind it nothing counts.
				prefix = append(prefix, all[(i+count)%len(all)])
				checkTokens(t, newEarley(), prefix[:len(prefix)-count%2], " ")
				prefix = prefix[:len(prefix)-1]
			}
			prefix = prefix[:len(prefix)-1]
		}
	}
	add(4)
	for _, ahead := range []string{"if (1)", "if (1) {", "if (1) { } else", "expect {", "expect { eof", "expect { -i 0", "expect { eof { } ", "proc p {", "while (1) { } ", "let a ($a", "expect { -ex \"a\" { exit }"} {
		g = newEarley()
		prefix = tokensOf(ahead)
		for _, one := range prefix {
			if !g.read(one) {
				t.Fatalf("%q can't be", ahead)
			}
		}
		add(3)
	}
	if count < 10000 {
		t.Errorf("there are %d", count)
	}
}

// scripts makes commands that may be.
type scripts struct {
	random *rand.Rand
}

func (m scripts) pick(l ...string) string {
	return l[m.random.Intn(len(l))]
}

func (m scripts) name() string {
	return m.pick("a", "b", "p", "q", "set", "if", "else", "never", "eof", "x_1", "abcdefgh")
}

func (m scripts) number() int64 {
	return []int64{0, 1, 2, 9, 10, 77, math.MaxInt64 - 1, math.MaxInt64}[m.random.Intn(8)]
}

func (m scripts) parts() []api.Part {
	var l []api.Part
	for range m.random.Intn(4) {
		if n := len(l); m.random.Intn(2) == 0 || n > 0 && l[n-1].Text != "" {
			l = append(l, api.Part{Name: m.pick("0", "7", m.name())})
		} else {
			l = append(l, api.Part{Text: m.pick("x", "\n", "\"}", "\xff\x00", "{ $a", "# ", "ab c")})
		}
	}
	return l
}

func (m scripts) cond(n int) api.Expr {
	switch k := m.random.Intn(6); {
	case n == 0 || k == 0:
		return num(m.number())
	case k == 1:
		return variable(m.name())
	case k == 2:
		return api.Expr{Kind: api.ExprNeg + m.random.Intn(2), Kids: []api.Expr{m.cond(n - 1)}}
	}
	return bin(m.cond(n-1), m.pick("||", "&&", "==", "!=", "<", ">", "<=", ">=", "+", "-", "*", "/", "%"), m.cond(n-1))
}

func (m scripts) cmds(most, room int) []api.Cmd {
	var l []api.Cmd
	for range m.random.Intn(most + 1) {
		l = append(l, m.cmd(room))
	}
	return l
}

// cmd is a command in which no more than room { stand within one another.
func (m scripts) cmd(room int) api.Cmd {
	c := api.Cmd{Kind: 1 + m.random.Intn(16)}
	switch c.Kind {
	case api.CmdSet, api.CmdLet, api.CmdIncr, api.CmdProc, api.CmdCall:
		c.Name = m.name()
	}
	switch c.Kind {
	case api.CmdSet, api.CmdSend:
		c.Parts = m.parts()
	case api.CmdIncr, api.CmdSpawn, api.CmdUse, api.CmdTimeout:
		c.N = m.number()
	case api.CmdLet, api.CmdIf, api.CmdWhile:
		c.Cond = m.cond(3)
	}
	switch {
	case c.Kind == api.CmdIncr && m.random.Intn(2) == 0:
		c.N = -c.N
	case c.Kind == api.CmdTimeout && m.random.Intn(3) == 0:
		c.N = -1
	}
	switch c.Kind {
	case api.CmdIf, api.CmdWhile, api.CmdProc:
		if room == 0 {
			return exit()
		}
		c.Body = m.cmds(2, room-1)
		if c.Kind == api.CmdIf {
			c.Else = m.cmds(2, room-1)
		}
	case api.CmdExpect, api.CmdBefore, api.CmdAfter:
		if room < 2 {
			return again()
		}
		for range 1 + m.random.Intn(3) {
			c.Rules = append(c.Rules, m.rule(room-2))
		}
	}
	return c
}

func (m scripts) rule(room int) api.Rule {
	r := rule(api.RuleTimeout+m.random.Intn(3), m.cmds(2, room)...)
	if m.random.Intn(2) == 0 {
		r.Kind = api.RulePattern
		r.Pattern = api.Pattern{Kind: m.random.Intn(3), Text: m.pick("", "a", "a*", "[", "\xff", "\"", "${a}", "}{")}
	}
	if (r.Kind == api.RulePattern || r.Kind == api.RuleEof) && m.random.Intn(2) == 0 {
		r.Peer = m.number()
	}
	return r
}

// TestMade holds how many commands that may be are written and read (P10.1, P10.2).
func TestMade(t *testing.T) {
	m := scripts{rand.New(rand.NewSource(1))}
	g := newEarley()
	deep := 0
	for i := range 6000 {
		l := m.cmds(3, 16)
		tokens := written(l)
		s, err := token.Join(tokens)
		if got, wrong := Print(l); got != s || wrong != err || !May(l) {
			t.Fatalf("Print is %q, error %d; not %q, error %d; May is %v", got, wrong, s, err, May(l))
		}
		if err != api.OK {
			continue
		}
		read, n, err := Parse(s)
		if !reflect.DeepEqual(bare(read), bare(l)) || n != 0 || err != api.OK || !Same(l, read) || Count(l) != Count(read) {
			t.Fatalf("%q is read as %v, %d, error %d", s, read, n, err)
		}
		if strings.Contains(s, "} } } } } }") {
			deep++
		}
		if i%4 == 0 {
			checkTokens(t, g, tokens, gaps()[i/4%len(gaps())])
		}
	}
	if deep < 100 {
		t.Errorf("%d are deep", deep)
	}
}

// TestMutated holds how texts are refused that are nearly such, against the grammar (P10.1).
func TestMutated(t *testing.T) {
	m := scripts{rand.New(rand.NewSource(2))}
	all := alphabet()
	g := newEarley()
	for i := range 3000 {
		l := written(m.cmds(2, 16))
		if len(l) > 150 {
			continue
		}
		for range 1 + m.random.Intn(2) {
			at := m.random.Intn(len(l) + 1)
			to := min(len(l), at+m.random.Intn(2))
			l = slices.Concat(l[:at], all[m.random.Intn(len(all)):][:m.random.Intn(2)], l[to:])
		}
		checkTokens(t, g, l, gaps()[i%len(gaps())])
	}
}

// TestAllSmall holds of many small commands whether they may be, against the words of the chapter (P10.1).
func TestAllSmall(t *testing.T) {
	g := newEarley()
	count := 0
	check := func(c api.Cmd) {
		l := []api.Cmd{c}
		want := mayByWords(g, l)
		_, err := Print(l)
		if May(l) != want || (err == api.OK) != want || !want && err != api.ErrArg {
			t.Fatalf("May(%v) is %v, not %v; Print: error %d", l, May(l), want, err)
		}
		if want {
			count++
		}
	}
	for kind := -1; kind <= 17; kind++ {
		for _, n := range []int64{0, 1, -1, -2, math.MinInt64, -math.MaxInt64} {
			for _, name := range []string{"", "a", "0", "exit", "A", "abcdefghi"} {
				for _, parts := range [][]api.Part{nil, text("a"), {{}}} {
					for _, cond := range []api.Expr{num(0), num(1), num(-1), {Kind: 4}} {
						for _, body := range [][]api.Cmd{nil, {exit()}, {{}}} {
							for _, other := range [][]api.Cmd{nil, {again()}} {
								for _, rules := range [][]api.Rule{nil, {rule(api.RuleEof)}} {
									check(api.Cmd{Kind: kind, Name: name, N: n, Parts: parts, Cond: cond, Body: body, Else: other, Rules: rules, At: 7})
								}
							}
						}
					}
				}
			}
		}
	}
	for kind := -1; kind <= 5; kind++ {
		for _, peer := range []int64{0, 1, -1, -2, math.MinInt64, math.MaxInt64} {
			for form := -1; form <= 3; form++ {
				for _, s := range []string{"", "a", "\x00$"} {
					for _, body := range [][]api.Cmd{nil, {exit()}, {{}}} {
						check(expect(api.Rule{Kind: kind, Peer: peer, Pattern: api.Pattern{Kind: form, Text: s}, Body: body, At: 7}))
					}
				}
			}
		}
	}
	if count != 134 {
		t.Errorf("%d of them may be", count)
	}
}

// FuzzParse reads any texts, and rows of tokens, each made of a byte.
func FuzzParse(f *testing.F) {
	for s := range texts() {
		f.Add(s)
	}
	f.Add("if (1) { expect { -i 0 -re \"a\" { exp_continue } timeout {")
	all := alphabet()
	g := newEarley()
	f.Fuzz(func(t *testing.T, s string) {
		l, n, err := Parse(s)
		if err != api.OK {
			if len(l) != 0 || n < 0 || n > len(s) {
				t.Fatalf("Parse(%q) is %v, %d, error %d", s, l, n, err)
			}
		} else {
			checkOwn(t, s, l)
		}
		if tokens, _, err := token.Scan(s); err == api.OK && len(tokens) <= 64 {
			checkTokens(t, g, tokens, " ")
		}
		var row []api.Token
		for _, c := range []byte(s[:min(len(s), 64)]) {
			row = append(row, all[int(c)%len(all)])
		}
		checkTokens(t, g, row, "\n")
	})
}

// FuzzPrint writes commands that a number makes, each with another field perhaps, as the words say.
func FuzzPrint(f *testing.F) {
	f.Add(int64(1), 0, int64(0))
	f.Add(int64(2), 3, int64(-1))
	g := newEarley()
	f.Fuzz(func(t *testing.T, seed int64, which int, n int64) {
		m := scripts{rand.New(rand.NewSource(seed))}
		l := []api.Cmd{m.cmd(5), m.cmd(3)}
		c := &l[m.random.Intn(2)]
		for _, inner := range [][]api.Cmd{c.Body, c.Else} {
			if len(inner) > 0 && m.random.Intn(2) == 0 {
				c = &inner[0]
			}
		}
		switch which % 10 {
		case 0:
			c.Kind = int(n)
		case 1:
			c.N = n
		case 2:
			c.Name = m.pick("", "a", "0", "A", m.name())
		case 3:
			c.Parts = m.parts()
		case 4:
			c.Cond = m.cond(2)
		case 5:
			c.Body = m.cmds(2, 3)
		case 6:
			c.Else = m.cmds(2, 3)
		case 7:
			c.Rules = append(c.Rules, m.rule(3))
		case 8:
			for i := range c.Rules {
				c.Rules[i].Peer = n
			}
		case 9:
			for i := range c.Rules {
				c.Rules[i].Kind = int(n)
			}
		}
		s, err := Print(l)
		if want := mayByWords(g, l); err != api.ErrLong && (May(l) != want || (err == api.OK) != want) {
			t.Fatalf("May(%v) is %v, not %v; Print is %q, error %d", l, May(l), want, s, err)
		}
	})
}
