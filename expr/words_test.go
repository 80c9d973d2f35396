package expr

import (
	"math/rand"
	"reflect"
	"slices"
	"strings"
	"testing"

	"souffleur/api"
	"souffleur/quote"
	"souffleur/token"
)

// wordOps are the ops, by how tightly they bind, as the chapter's words have them.
var wordOps = [...]string{"", " || ", " && ", " == != ", " < > <= >= ", " + - ", " * / % "}

// binds answers the strength of op, 0 of what is none.
func binds(op string) int {
	for n, row := range wordOps {
		if op != "" && strings.Contains(row, " "+op+" ") {
			return n
		}
	}
	return 0
}

// yard reads a row of tokens by two stacks: what counts at a token, and what has been read of the expression.
type yard struct {
	open []string
	done []api.Expr
}

// close ends whatever counts and is as tight as n at least; a - or ! is 7, a ( never ends by this.
func (y *yard) close(n int) {
	for len(y.open) > 0 {
		last := y.open[len(y.open)-1]
		top := len(y.done) - 1
		switch {
		case last == "-u":
			y.done[top] = neg(y.done[top])
		case last == "!u":
			y.done[top] = not(y.done[top])
		case last != "(" && binds(last) >= n:
			y.done = append(y.done[:top-1], bin(y.done[top-1], last, y.done[top]))
		default:
			return
		}
		y.open = y.open[:len(y.open)-1]
	}
}

// begin counts one more, and tells whether it isn't one too many.
func (y *yard) begin(what string) bool {
	y.open = append(y.open, what)
	return len(y.open) <= 64
}

// signOf answers the sign that a token is, or what else an expression may have; empty, if it has no place in one.
func signOf(t api.Token) string {
	if len(t.Parts) != 0 {
		return ""
	}
	switch {
	case t.Kind == api.TokNum && t.N >= 0 && t.Word == "", t.Kind == api.TokVar && t.N == 0 && quote.Name(t.Word):
		return "operand"
	case t.Kind == api.TokSign && t.N == 0 && (binds(t.Word) > 0 || t.Word == "(" || t.Word == ")" || t.Word == "!"):
		return t.Word
	}
	return ""
}

// wanted answers what Parse must, by the chapter's words.
func wanted(l []api.Token, at int) (api.Expr, int, api.Errno) {
	if at < 0 || at > len(l) {
		return api.Expr{}, 0, api.ErrForm
	}
	y, behind := yard{}, false // whether the token stands behind an operand
	for ; at < len(l); at++ {
		s := signOf(l[at])
		switch {
		case !behind && s == "operand":
			kind := api.ExprNum
			if l[at].Kind == api.TokVar {
				kind = api.ExprVar
			}
			y.done = append(y.done, api.Expr{Kind: kind, N: l[at].N, Name: l[at].Word})
			y.close(7)
			behind = true
		case !behind && (s == "-" || s == "!" || s == "("):
			if s != "(" {
				s += "u"
			}
			if !y.begin(s) {
				return api.Expr{}, at, api.ErrDeep
			}
		case !behind:
			return api.Expr{}, at, api.ErrForm
		case binds(s) > 0:
			y.close(binds(s))
			if !y.begin(s) {
				return api.Expr{}, at, api.ErrDeep
			}
			behind = false
		case s == ")" && slices.Contains(y.open, "("):
			y.close(1)
			y.open = y.open[:len(y.open)-1]
			y.close(7)
		case slices.Contains(y.open, "("):
			return api.Expr{}, at, api.ErrForm
		default:
			y.close(1)
			return y.done[0], at, api.OK
		}
	}
	if !behind || slices.Contains(y.open, "(") {
		return api.Expr{}, at, api.ErrForm
	}
	y.close(1)
	return y.done[0], at, api.OK
}

// checkWanted holds that the row l is read from the place at on as the words say.
func checkWanted(t testing.TB, l []api.Token, at int) {
	t.Helper()
	e, n, err := Parse(l, at)
	want, place, wrong := wanted(l, at)
	if !reflect.DeepEqual(e, want) || n != place || err != wrong {
		s, _ := token.Join(l)
		t.Fatalf("Parse(%.300q, %d) is %v, %d, error %d; not %v, %d, error %d", s, at, e, n, err, want, place, wrong)
	}
}

// rows calls f with all rows of up to n tokens of the alphabet.
func rows(alphabet []api.Token, n int, f func([]api.Token)) {
	row := make([]api.Token, 0, n)
	var add func()
	add = func() {
		f(row)
		if len(row) == n {
			return
		}
		for _, t := range alphabet {
			row = append(row, t)
			add()
			row = row[:len(row)-1]
		}
	}
	add()
}

// TestShortRows holds how all short rows are read, against the words of the chapter (P9.1).
func TestShortRows(t *testing.T) {
	all := row(t, `1 $a ( ) + - * / % < > <= >= == != ! && || { } b -ex "c"`)
	all = append(all, api.Token{}, api.Token{Kind: api.TokSign, Word: "+", N: 1}, api.Token{Kind: api.TokNum, N: -1}, api.Token{Kind: api.TokVar, Word: "A"})
	rows(all, 3, func(l []api.Token) {
		for at := -1; at <= len(l)+1; at++ {
			checkWanted(t, l, at)
		}
	})
	rows(all, 4, func(l []api.Token) { checkWanted(t, l, 0) })
	rows(row(t, "1 ( ) - * ! <"), 6, func(l []api.Token) { checkWanted(t, l, 0) })
	rows(row(t, "$a ( ) - *"), 8, func(l []api.Token) { checkWanted(t, l, 0) })
}

// TestLongRows holds how rows are read in which many stand within one another, against the words of the chapter (P9.1).
func TestLongRows(t *testing.T) {
	random := rand.New(rand.NewSource(1))
	operands, signs, ops := row(t, "1 $a 20"), row(t, "( ( ( - !"), row(t, "+ - * / % < > <= >= == != && ||")
	found := map[api.Errno]int{}
	for range 20000 {
		var l []api.Token
		for behind, n := false, random.Intn(400); len(l) < n; {
			switch {
			case random.Intn(300) == 0:
				l = append(l, signs[random.Intn(len(signs))])
			case !behind && random.Intn(3) > 0:
				l = append(l, signs[random.Intn(len(signs))])
			case !behind:
				l, behind = append(l, operands[random.Intn(len(operands))]), true
			case random.Intn(3) == 0:
				l = append(l, row(t, ")")...)
			default:
				l, behind = append(l, ops[random.Intn(len(ops))]), false
			}
		}
		checkWanted(t, l, 0)
		_, _, err := Parse(l, 0)
		found[err]++
	}
	if found[api.OK] < 1000 || found[api.ErrDeep] < 1000 || found[api.ErrForm] < 1000 {
		t.Errorf("too few of a kind: %v", found)
	}
}

// bracketed are the tokens of e with ( ) around whatever has Kids.
func bracketed(e api.Expr) []api.Token {
	sign := func(s string) api.Token { return api.Token{Kind: api.TokSign, Word: s} }
	l := []api.Token{sign("(")}
	switch e.Kind {
	case api.ExprNum:
		return []api.Token{{Kind: api.TokNum, N: e.N}}
	case api.ExprVar:
		return []api.Token{{Kind: api.TokVar, Word: e.Name}}
	case api.ExprNeg:
		l = append(append(l, sign("-")), bracketed(e.Kids[0])...)
	case api.ExprNot:
		l = append(append(l, sign("!")), bracketed(e.Kids[0])...)
	default:
		l = append(append(append(l, bracketed(e.Kids[0])...), sign(e.Op)), bracketed(e.Kids[1])...)
	}
	return append(l, sign(")"))
}

// without are the tokens l without the ( at a place and its ).
func without(l []api.Token, at int) []api.Token {
	open, end := 0, at
	for ; ; end++ {
		switch l[end].Word {
		case "(":
			open++
		case ")":
			open--
		}
		if open == 0 {
			return slices.Concat(l[:at], l[at+1:end], l[end+1:])
		}
	}
}

// fewest are the tokens of e with no ( ) that may be left out: ( ) stand just where something else would be read without them.
func fewest(e api.Expr) []api.Token {
	l := bracketed(e)
	for at := 0; at < len(l); {
		if l[at].Word == "(" {
			less := without(l, at)
			if read, n, err := wanted(less, 0); err == api.OK && n == len(less) && Same(read, e) {
				l = less
				continue
			}
		}
		at++
	}
	return l
}

// checkPrinted holds how e, which may be, and in which not too many stand within one another, is written and read again.
func checkPrinted(t testing.TB, e api.Expr) {
	t.Helper()
	l, err := Tokens(e)
	if want := fewest(e); !May(e) || !reflect.DeepEqual(l, want) || err != api.OK {
		t.Fatalf("Tokens(%v) is %v, error %d; not %v", e, l, err, want)
	}
	text, wrong := token.Join(l)
	if s, err := Print(e); s != text || err != wrong {
		t.Fatalf("Print(%v) is %q, error %d; not %q, error %d", e, s, err, text, wrong)
	}
	if read, n, err := Parse(l, 0); !Same(read, e) || n != len(l) || err != api.OK {
		t.Fatalf("%q is read as %v, %d, error %d", text, read, n, err)
	}
	if again, _, err := token.Scan(text); wrong == api.OK && (err != api.OK || !reflect.DeepEqual(withoutPlaces(again), l)) {
		t.Fatalf("%q is scanned as %v, error %d", text, again, err)
	}
}

// shapes are all expressions with n of those that have Kids.
func shapes(n int, ops []string) []api.Expr {
	if n == 0 {
		return []api.Expr{num(1)}
	}
	var all []api.Expr
	for _, kid := range shapes(n-1, ops) {
		all = append(all, neg(kid), not(kid))
	}
	for left := range n {
		for _, a := range shapes(left, ops) {
			for _, b := range shapes(n-1-left, ops) {
				for _, op := range ops {
					all = append(all, bin(a, op, b))
				}
			}
		}
	}
	return all
}

// TestAllShapes holds how all small expressions are written, against the words of the chapter, and that they are read to themselves (P9.1, P9.2).
func TestAllShapes(t *testing.T) {
	all := strings.Fields(strings.Join(wordOps[:], " "))
	for n := range 3 {
		for _, e := range shapes(n, all) {
			checkPrinted(t, e)
		}
	}
	for _, e := range shapes(3, []string{"||", "==", "-", "+", "*", "%"}) {
		checkPrinted(t, e)
	}
	for _, e := range shapes(4, []string{"&&", "-", "*"}) {
		checkPrinted(t, e)
	}
}

// mayByWords tells whether e may be, by the chapter's words, and how many with Kids stand within one another.
func mayByWords(e api.Expr) (bool, int) {
	bare, deep := e, 0
	bare.Kids = nil
	for _, kid := range e.Kids {
		may, n := mayByWords(kid)
		if !may {
			return false, 0
		}
		deep = max(deep, n)
	}
	such := false
	switch e.Kind {
	case api.ExprNum:
		such = len(e.Kids) == 0 && reflect.DeepEqual(bare, api.Expr{N: e.N}) && e.N >= 0
	case api.ExprVar:
		such = len(e.Kids) == 0 && reflect.DeepEqual(bare, variable(e.Name)) && quote.Name(e.Name)
	case api.ExprNeg, api.ExprNot:
		such = len(e.Kids) == 1 && reflect.DeepEqual(bare, api.Expr{Kind: e.Kind})
	case api.ExprBin:
		such = len(e.Kids) == 2 && reflect.DeepEqual(bare, api.Expr{Kind: e.Kind, Op: e.Op}) && binds(e.Op) > 0
	}
	if len(e.Kids) > 0 {
		deep++
	}
	return such && deep <= 64, deep
}

// TestAllSmall holds of all small values whether they may be, against the words of the chapter (P9.1).
func TestAllSmall(t *testing.T) {
	var all []api.Expr
	for kind := -1; kind <= 5; kind++ {
		for _, n := range []int64{-1, 0, 1} {
			for _, name := range []string{"", "a", "0", "A", "+"} {
				for _, op := range []string{"", "+", "||", "!", "a"} {
					all = append(all, api.Expr{Kind: kind, N: n, Name: name, Op: op})
				}
			}
		}
	}
	kids := [][]api.Expr{nil, {}, {num(1)}, {num(-1)}, {variable("a"), num(2)}, {variable("A"), num(2)}, {num(2), variable("")}, {num(1), num(1), num(1)}, {{Kind: 5}}, {neg(num(1)), not(num(0))}, {bin(num(1), "-", num(1))}, {bin(num(1), "?", num(1))}}
	count := 0
	for _, e := range all {
		for _, e.Kids = range kids {
			want, _ := mayByWords(e)
			l, err := Tokens(e)
			if May(e) != want || (err == api.OK) != want || (len(l) > 0) != want || !want && err != api.ErrArg {
				t.Fatalf("May(%v) is %v, not %v; Tokens %v, error %d", e, May(e), want, l, err)
			}
			if want {
				checkPrinted(t, e)
				count++
			}
		}
	}
	if count != 16 {
		t.Errorf("%d of them may be, not 16", count)
	}
}

// FuzzParse reads rows of tokens, each made of a byte, as the words say.
func FuzzParse(f *testing.F) {
	all := row(f, `1 $a ( ) + - * / % < > <= >= == != ! && || { } b -ex "c" 30 $9`)
	f.Add([]byte{0, 4, 1}, 0)
	f.Add([]byte{2, 5, 0, 6, 1, 3, 18}, 0)
	f.Add([]byte(strings.Repeat("\x02\x05", 40)), 3)
	f.Fuzz(func(t *testing.T, b []byte, at int) {
		var l []api.Token
		for i, c := range b {
			one := all[int(c)%len(all)]
			one.At = i
			l = append(l, one)
		}
		checkWanted(t, l, at)
		checkWanted(t, l, 0)
	})
}

// FuzzPrint writes expressions, made of bytes as a stack makes them, and reads them again.
func FuzzPrint(f *testing.F) {
	ops := strings.Fields(strings.Join(wordOps[:], " "))
	f.Add([]byte{0, 1, 5, 3, 2, 12})
	f.Add([]byte{0, 0, 0, 17, 17, 3})
	f.Fuzz(func(t *testing.T, b []byte) {
		l := []api.Expr{num(0)}
		for _, c := range b[:min(len(b), 60)] {
			top := len(l) - 1
			switch n := int(c) % (4 + len(ops)); {
			case n == 0:
				l = append(l, num(int64(c)))
			case n == 1:
				l = append(l, variable(string(rune('a'+c%26))))
			case n == 2:
				l[top] = neg(l[top])
			case n == 3:
				l[top] = not(l[top])
			case top > 0:
				l = append(l[:top-1], bin(l[top-1], ops[n-4], l[top]))
			}
		}
		e := l[len(l)-1]
		if _, _, err := wanted(bracketed(e), 0); err == api.OK {
			checkPrinted(t, e)
		}
		if may, _ := mayByWords(e); May(e) != may {
			t.Errorf("May(%v) is not %v", e, may)
		}
	})
}
