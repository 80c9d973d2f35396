package expr

import (
	"math"
	"reflect"
	"slices"
	"strings"
	"testing"

	"souffleur/api"
	"souffleur/token"
)

func num(n int64) api.Expr {
	return api.Expr{Kind: api.ExprNum, N: n}
}

func variable(name string) api.Expr {
	return api.Expr{Kind: api.ExprVar, Name: name}
}

func neg(kid api.Expr) api.Expr {
	return api.Expr{Kind: api.ExprNeg, Kids: []api.Expr{kid}}
}

func not(kid api.Expr) api.Expr {
	return api.Expr{Kind: api.ExprNot, Kids: []api.Expr{kid}}
}

func bin(a api.Expr, op string, b api.Expr) api.Expr {
	return api.Expr{Kind: api.ExprBin, Op: op, Kids: []api.Expr{a, b}}
}

// leftRow is n ops, each but one of them the first Kid of another.
func leftRow(n int) api.Expr {
	e := num(1)
	for range n {
		e = bin(e, "+", num(1))
	}
	return e
}

// rightRow is n ops, each but one of them the second Kid of another.
func rightRow(n int) api.Expr {
	e := num(1)
	for range n {
		e = bin(num(1), "+", e)
	}
	return e
}

// row are the tokens of s, which may be a script of any length.
func row(t testing.TB, s string) []api.Token {
	t.Helper()
	var all []api.Token
	for _, word := range strings.Fields(s) {
		l, _, err := token.Scan(word)
		if err != api.OK {
			t.Fatalf("%.40q is no row of tokens", word)
		}
		all = append(all, l...)
	}
	return all
}

// checkRead holds that s, from its token at on, is read as want, up to the token to.
func checkRead(t *testing.T, s string, at int, want api.Expr, to int) {
	t.Helper()
	if got, n, err := Parse(row(t, s), at); !Same(got, want) || n != to || err != api.OK {
		t.Errorf("Parse(%.60q, %d) is %v, %d, error %d; not %v, %d", s, at, got, n, err, want, to)
	}
}

// checkRefused holds that s, from its token at on, is refused, with the number n and the error want.
func checkRefused(t *testing.T, s string, at, n int, want api.Errno) {
	t.Helper()
	if got, place, err := Parse(row(t, s), at); !reflect.DeepEqual(got, api.Expr{}) || place != n || err != want {
		t.Errorf("Parse(%.60q, %d) is %v, %d, error %d; not %d, error %d", s, at, got, place, err, n, want)
	}
}

// texts are expressions by their texts.
func texts() map[string]api.Expr {
	a, b, c, d := variable("a"), variable("b"), variable("c"), variable("d")
	return map[string]api.Expr{
		"0": num(0), "12": num(12), "9223372036854775807": num(math.MaxInt64),
		"$a": a, "$0": variable("0"), "$9": variable("9"), "$abcdefg_": variable("abcdefg_"),
		"- 1": neg(num(1)), "! $a": not(a), "- - ! 1": neg(neg(not(num(1)))), "! - $a": not(neg(a)),
		"1 + 2 * 3 - 4":                    bin(bin(num(1), "+", bin(num(2), "*", num(3))), "-", num(4)),
		"( 1 + 2 ) * 3":                    bin(bin(num(1), "+", num(2)), "*", num(3)),
		"1 - ( 2 - 3 )":                    bin(num(1), "-", bin(num(2), "-", num(3))),
		"1 - ( 2 + 3 )":                    bin(num(1), "-", bin(num(2), "+", num(3))),
		"1 - 2 - 3":                        bin(bin(num(1), "-", num(2)), "-", num(3)),
		"1 / ( 2 * 3 )":                    bin(num(1), "/", bin(num(2), "*", num(3))),
		"- ( $a + $b )":                    neg(bin(a, "+", b)),
		"! ( $a || $b )":                   not(bin(a, "||", b)),
		"- $a + $b":                        bin(neg(a), "+", b),
		"- $a * - $b":                      bin(neg(a), "*", neg(b)),
		"$a - - $b":                        bin(a, "-", neg(b)),
		"- - ( $a * $b )":                  neg(neg(bin(a, "*", b))),
		"$a || $b && $c == $d < 1 + 2 * 3": bin(a, "||", bin(b, "&&", bin(c, "==", bin(d, "<", bin(num(1), "+", bin(num(2), "*", num(3))))))),
		"1 * 2 + 3 < $d == $c && $b || $a": bin(bin(bin(bin(bin(bin(num(1), "*", num(2)), "+", num(3)), "<", d), "==", c), "&&", b), "||", a),
		"$a < $b == ( $c != $d )":          bin(bin(a, "<", b), "==", bin(c, "!=", d)),
		"( $a == $b ) < $c":                bin(bin(a, "==", b), "<", c),
		"( $a || $b ) && ( $c || $d )":     bin(bin(a, "||", b), "&&", bin(c, "||", d)),
		"$a && $b || $c && $d":             bin(bin(a, "&&", b), "||", bin(c, "&&", d)),
	}
}

// TestTexts holds how expressions stand in scripts, and that they are read from there (P9.1, P9.2).
func TestTexts(t *testing.T) {
	for s, e := range texts() {
		if text, err := Print(e); text != s || err != api.OK {
			t.Errorf("Print(%v) is %q, error %d; not %q", e, text, err, s)
		}
		if l, err := Tokens(e); !reflect.DeepEqual(withoutPlaces(row(t, s)), l) || err != api.OK {
			t.Errorf("Tokens(%v) is %v, error %d; not those of %q", e, l, err, s)
		}
		if !May(e) {
			t.Errorf("May(%v) is false", e)
		}
		checkRead(t, s, 0, e, len(row(t, s)))
	}
}

// withoutPlaces are the tokens l, each at 0.
func withoutPlaces(l []api.Token) []api.Token {
	l = slices.Clone(l)
	for i := range l {
		l[i].At = 0
	}
	return l
}

// TestBinds holds for each two ops which of them binds more tightly, and that those of one strength are taken from the left (P9.1).
func TestBinds(t *testing.T) {
	rows := []string{"||", "&&", "== !=", "< > <= >=", "+ -", "* / %"}
	a, b, c := variable("a"), variable("b"), variable("c")
	for i, first := range rows {
		for _, p := range strings.Fields(first) {
			checkRead(t, "- $a "+p+" ! $b", 0, bin(neg(a), p, not(b)), 5)
			for j, second := range rows {
				for _, q := range strings.Fields(second) {
					want := bin(bin(a, p, b), q, c)
					if j > i {
						want = bin(a, p, bin(b, q, c))
					}
					checkRead(t, "$a "+p+" $b "+q+" $c", 0, want, 5)
				}
			}
		}
	}
}

// TestBrackets holds that whatever is an expression may stand in ( ), as often as one likes (P9.1).
func TestBrackets(t *testing.T) {
	a, b := variable("a"), variable("b")
	checkRead(t, "( $a )", 0, a, 3)
	checkRead(t, "( ( 1 ) )", 0, num(1), 5)
	checkRead(t, "( ( - ( $a ) ) + ( ( $b ) ) )", 0, bin(neg(a), "+", b), 14)
	checkRead(t, "- ( ( ( $a + $b ) ) )", 0, neg(bin(a, "+", b)), 10)
	checkRead(t, "( $a * $b ) + 1", 0, bin(bin(a, "*", b), "+", num(1)), 7)
	checkRead(t, "( ( $a ) )", 1, a, 4)
}

// TestGoesAsFar holds that an expression is read as far as it goes, from any place on, and what is behind it counts nothing (P9.1).
func TestGoesAsFar(t *testing.T) {
	a := variable("a")
	for _, s := range strings.Fields(`1 $b ( ) ! { } a exit -ex "x" ""`) {
		checkRead(t, "$a "+s, 0, a, 1)
		checkRead(t, "- $a "+s+" + +", 0, neg(a), 2)
		checkRead(t, "( $a ) "+s, 0, a, 3)
		checkRead(t, "1 + $a "+s, 0, bin(num(1), "+", a), 3)
	}
	checkRead(t, "{ $a + 1 }", 1, bin(a, "+", num(1)), 4)
	checkRead(t, "1 + 2 + 3", 2, bin(num(2), "+", num(3)), 5)
	checkRead(t, "1 + 2 + 3", 4, num(3), 5)
	checkRead(t, "1 - - 3", 1, neg(neg(num(3))), 4)
	checkRead(t, "( 1 ) )", 1, num(1), 2)
}

// TestCantGoOn holds the place of the first token with which a row can't go on (P9.1).
func TestCantGoOn(t *testing.T) {
	for _, ahead := range []string{"", "( ", "- ", "! ", "1 + ", "( $a || ( ", "- ( ! ", "( 1 ) < "} {
		n := len(row(t, ahead))
		checkRefused(t, ahead, 0, n, api.ErrForm)
		for _, s := range strings.Fields(`) + * / % < > <= >= == != && || { } a -i -re "x" ""`) {
			checkRefused(t, ahead+s+" 1", 0, n, api.ErrForm)
		}
	}
	for _, s := range strings.Fields(`1 $b ( ! { } a exit -ex "x" ""`) {
		checkRefused(t, "( 1 "+s+" )", 0, 2, api.ErrForm)
		checkRefused(t, "1 * ( - ( $a ) "+s, 0, 7, api.ErrForm)
	}
	checkRefused(t, "( 1", 0, 2, api.ErrForm)
	checkRefused(t, "( 1 + 2", 0, 4, api.ErrForm)
	checkRefused(t, "( ( 1 )", 0, 4, api.ErrForm)
	checkRefused(t, "1 + + 2", 0, 2, api.ErrForm)
	checkRefused(t, "1 + 2 *", 0, 4, api.ErrForm)
	checkRefused(t, "1 + 2 * )", 0, 4, api.ErrForm)
	checkRefused(t, "( )", 0, 1, api.ErrForm)
	checkRefused(t, "1 + 2", 1, 1, api.ErrForm)
	checkRefused(t, "1 + 2", 3, 3, api.ErrForm)
	checkRefused(t, "( 1 ) 2", 2, 2, api.ErrForm)
}

// TestNoPlace holds what is answered of places that a row doesn't have (P9.1, P0).
func TestNoPlace(t *testing.T) {
	for _, s := range []string{"", "1", "1 + 2", ")"} {
		n := len(row(t, s))
		for _, at := range []int{-1, -2, math.MinInt, n + 1, n + 2, math.MaxInt} {
			checkRefused(t, s, at, 0, api.ErrForm)
		}
		checkRefused(t, s, n, n, api.ErrForm)
	}
}

// TestNoTokens holds that what may be no token is none with which an expression goes on (P9.1, P0).
func TestNoTokens(t *testing.T) {
	part := []api.Part{{Text: "a"}}
	var wrong []api.Token
	for _, t := range row(t, "1 $a ( ) + - ! *") {
		a, b, c := t, t, t
		a.Parts = part
		b.Word += "1+"
		if c.Kind == api.TokNum {
			c.N = -1
		} else {
			c.N = 1
		}
		wrong = append(wrong, a, b, c)
	}
	wrong = append(wrong, api.Token{}, api.Token{Kind: -1, Word: "+"}, api.Token{Kind: 7, Word: "a"}, api.Token{Kind: api.TokVar}, api.Token{Kind: api.TokVar, Word: "A"}, api.Token{Kind: api.TokWord, Word: "+"}, api.Token{Kind: api.TokFlag, Word: "("}, api.Token{Kind: api.TokSign, Word: "1"}, api.Token{Kind: api.TokSign})
	one := api.Token{Kind: api.TokNum, N: 1}
	for _, w := range wrong {
		if e, n, err := Parse([]api.Token{w, one}, 0); !reflect.DeepEqual(e, api.Expr{}) || n != 0 || err != api.ErrForm {
			t.Errorf("%v is read as %v, %d, error %d", w, e, n, err)
		}
		if e, n, err := Parse([]api.Token{one, w, one}, 0); !Same(e, num(1)) || n != 1 || err != api.OK {
			t.Errorf("1 %v 1 is read as %v, %d, error %d", w, e, n, err)
		}
		if e, n, err := Parse([]api.Token{row(t, "(")[0], one, w, one}, 0); !reflect.DeepEqual(e, api.Expr{}) || n != 2 || err != api.ErrForm {
			t.Errorf("( 1 %v 1 is read as %v, %d, error %d", w, e, n, err)
		}
	}
}

// full are rows behind which 64 count, by how many ( of them stand open; what an operand must follow.
func full() map[string]int {
	times := strings.Repeat
	return map[string]int{
		times("( ", 64): 64, times("- ", 64): 0, times("! ", 64): 0,
		times("- ( ", 32): 32, times("1 + ( ", 32): 32, times("! - ( $a || ( ", 12) + "- ! - ! ": 24,
		"1 || 1 && 1 == 1 < 1 + 1 * " + times("( ", 58): 58,
		times("- ", 60) + "( 1 + 2 * ! ":                1,
		times("( ", 63) + "1 + ":                        63,
		// A - or ! counts as long as what it is for, a ( till its ).
		times("( ", 63) + "- 1 + ":           63,
		times("( ", 63) + "! 1 * ":           63,
		times("( ", 63) + "( 1 ) && ":        63,
		times("( ", 62) + "- ( 1 ) == ( ":    63,
		times("( ", 61) + "( ( 1 ) ) < - ! ": 61,
		// An op counts for what stands on its right, no longer.
		times("( ", 63) + "1 * 2 + ":             63,
		times("( ", 63) + "1 - 2 - ":             63,
		times("( ", 62) + "1 - 2 * ":             62,
		times("( ", 62) + "1 || 2 == 3 && ":      62,
		times("( ", 60) + "1 < 2 * 3 - 4 + ( - ": 61,
		times("1 + ", 500) + times("( ", 63):     63,
	}
}

// TestDeep holds how many may count at once, whatever they are, and at which token there is one too many (P9.1).
func TestDeep(t *testing.T) {
	for ahead, open := range full() {
		n := len(row(t, ahead))
		all := ahead + "1 " + strings.Repeat(") ", open)
		if e, to, err := Parse(row(t, all+"} 1"), 0); reflect.DeepEqual(e, api.Expr{}) || to != n+1+open || err != api.OK {
			t.Errorf("%.60q is read up to %d, error %d; not %d", all, to, err, n+1+open)
		}
		for _, over := range strings.Fields("( - !") {
			checkRefused(t, ahead+over, 0, n, api.ErrDeep)
			checkRefused(t, ahead+over+" ) }", 0, n, api.ErrDeep)
			checkRefused(t, ") "+ahead+over+" 1", 1, n+1, api.ErrDeep)
		}
		checkRefused(t, ahead, 0, n, api.ErrForm)
		checkRefused(t, ahead+") (", 0, n, api.ErrForm)
	}
	for _, op := range strings.Fields("+ - * / % < > <= >= == != && ||") {
		for _, one := range []string{"( ", "- ( ", "1 && ( "} {
			ahead := strings.Repeat(one, 64/len(row(t, strings.Trim(one, "1 "))))
			n := len(row(t, ahead))
			checkRefused(t, ahead+"1 "+op+" 2", 0, n+1, api.ErrDeep)
			checkRefused(t, ahead+"1 "+op, 0, n+1, api.ErrDeep)
		}
		checkRefused(t, strings.Repeat("( ", 63)+"$a "+op+" - 1", 0, 65, api.ErrDeep)
		checkRefused(t, strings.Repeat("- ", 64)+"1 "+op+strings.Repeat(" (", 64), 0, 66+63, api.ErrDeep)
	}
}

// TestLongRow holds that what stands on an op's left doesn't count for it: such a row is read, though it may not be (P9.1, P9.2).
func TestLongRow(t *testing.T) {
	for _, n := range []int{63, 64, 65, 999, 1 << 16} {
		e := leftRow(n)
		checkRead(t, "1"+strings.Repeat(" + 1", n), 0, e, 2*n+1)
		if May(e) != (n <= 64) {
			t.Errorf("%d ops, each on the left of another, may be: %v", n, May(e))
		}
	}
	e := leftRow(64)
	if s, err := Print(e); s != "1"+strings.Repeat(" + 1", 64) || err != api.OK {
		t.Errorf("Print is %q, error %d", s, err)
	}
}

// TestNest holds how many that have Kids may stand within one another (P9.1).
func TestNest(t *testing.T) {
	deeper := map[string]func(api.Expr) api.Expr{
		"neg":   neg,
		"not":   not,
		"left":  func(e api.Expr) api.Expr { return bin(e, "-", num(0)) },
		"right": func(e api.Expr) api.Expr { return bin(num(0), "||", e) },
		"both":  func(e api.Expr) api.Expr { return neg(bin(not(num(1)), "<", e)) },
	}
	for name, within := range deeper {
		e := variable("a")
		if name == "both" {
			e = neg(neg(e))
		}
		for n := range 64 {
			if name != "both" || n >= 33 {
				e = within(e)
			}
		}
		if !May(e) || !May(bin(e.Kids[0], "*", e.Kids[0])) {
			t.Errorf("%s: 64 may not be", name)
		}
		for which, over := range map[string]api.Expr{"neg": neg(e), "not": not(e), "first": bin(e, "+", num(1)), "second": bin(num(1), "+", e)} {
			checkMayNot(t, name+" in "+which, over)
		}
	}
	// ( count where they are read, but not where it is asked what may be: what is printed is read, or there are too many (P9.2).
	for n := range 65 {
		e := rightRow(n)
		s, err := Print(e)
		if !May(e) || err != api.OK {
			t.Fatalf("%d ops, each on the right of another, may not be", n)
		}
		if n <= 32 {
			checkRead(t, s, 0, e, len(row(t, s)))
		} else {
			checkRefused(t, s, 0, 3*32+1, api.ErrDeep)
		}
	}
}

// checkMayNot holds that e may not be.
func checkMayNot(t *testing.T, name string, e api.Expr) {
	t.Helper()
	l, wrong := Tokens(e)
	s, err := Print(e)
	if May(e) || len(l) != 0 || wrong != api.ErrArg || s != "" || err != api.ErrArg {
		t.Errorf("%s: May is %v, Tokens has %d, error %d, Print is %.40q, error %d", name, May(e), len(l), wrong, s, err)
	}
}

// TestMayNot holds what may not be, by itself and within others (P9.1, P0).
func TestMayNot(t *testing.T) {
	one := []api.Expr{num(1)}
	two := []api.Expr{num(1), num(1)}
	three := []api.Expr{num(1), num(1), num(1)}
	var wrong []api.Expr
	for _, name := range []string{"", "A", "_a", "10", "a-", "a b", "abcdefghi", "$a", "a\x00", "\xff"} {
		wrong = append(wrong, variable(name))
	}
	for _, op := range []string{"", "=", "!", "(", ")", "&", "|", "+ ", " +", "++", "<<", "<>", "=<", "&&&", "{", "\x00"} {
		wrong = append(wrong, bin(num(1), op, num(2)))
	}
	wrong = append(wrong, num(-1), num(math.MinInt64),
		api.Expr{Kind: -1}, api.Expr{Kind: 5}, api.Expr{Kind: math.MaxInt}, api.Expr{Kind: math.MinInt, Kids: one},
		api.Expr{Name: "a"}, api.Expr{Op: "+"}, api.Expr{Kids: one}, api.Expr{Kids: two},
		api.Expr{Kind: api.ExprVar, Name: "a", N: 1}, api.Expr{Kind: api.ExprVar, Name: "a", Op: "+"}, api.Expr{Kind: api.ExprVar, Name: "a", Kids: one})
	for _, kind := range []int{api.ExprNeg, api.ExprNot} {
		wrong = append(wrong, api.Expr{Kind: kind}, api.Expr{Kind: kind, Kids: two}, api.Expr{Kind: kind, Kids: one, N: 1}, api.Expr{Kind: kind, Kids: one, Name: "a"}, api.Expr{Kind: kind, Kids: one, Op: "-"})
	}
	wrong = append(wrong, api.Expr{Kind: api.ExprBin, Op: "+"}, api.Expr{Kind: api.ExprBin, Op: "+", Kids: one}, api.Expr{Kind: api.ExprBin, Op: "+", Kids: three}, api.Expr{Kind: api.ExprBin, Op: "+", Kids: two, N: -1}, api.Expr{Kind: api.ExprBin, Op: "+", Kids: two, Name: "a"})
	for _, e := range wrong {
		for _, all := range []api.Expr{e, neg(e), not(e), bin(e, "+", num(1)), bin(num(1), "+", e), neg(bin(num(1), "&&", not(e)))} {
			checkMayNot(t, "wrong", all)
		}
	}
	empty := api.Expr{Kind: api.ExprNum, N: 3, Kids: []api.Expr{}}
	if l, err := Tokens(neg(empty)); !May(empty) || len(l) != 2 || err != api.OK {
		t.Error("an empty list of Kids isn't none")
	}
}

// TestLong holds how many bytes a text may have, and that what may not be comes ahead of what is too long (P9.1).
func TestLong(t *testing.T) {
	kid := func(n int) api.Expr { // 1 + 1 ... with n ops, each first Kid shallow
		all := make([]api.Expr, n+1)
		for i := range all {
			all[i] = num(1)
		}
		for len(all) > 1 {
			var next []api.Expr
			for i := 0; i+1 < len(all); i += 2 {
				next = append(next, bin(all[i], "+", all[i+1]))
			}
			if len(all)%2 == 1 {
				next = append(next, all[len(all)-1])
			}
			all = next
		}
		return all[0]
	}
	size := func(e api.Expr) int {
		l, err := Tokens(e)
		if err != api.OK {
			t.Fatal(err)
		}
		n := len(l) - 1
		for _, one := range l {
			s, _ := token.Text(one)
			n += len(s)
		}
		return n
	}
	for n := range 600 {
		e := kid(n)
		for range 3 {
			s, err := Print(e)
			if long := size(e) > api.MaxScript; long != (err == api.ErrLong) || !long && (err != api.OK || len(s) != size(e)) || long && s != "" {
				t.Fatalf("Print of %d bytes is %d bytes, error %d", size(e), len(s), err)
			}
			e = bin(num(10), "||", e)
		}
	}
	big := kid(5000)
	if _, err := Print(big); err != api.ErrLong {
		t.Errorf("Print of %d bytes: error %d", size(big), err)
	}
	checkMayNot(t, "long", bin(big, "+", num(-1)))
	checkMayNot(t, "long", bin(num(-1), "+", big))
}

// TestSame holds that all of two expressions counts, with all that is within, whether they may be or not (P9.1).
func TestSame(t *testing.T) {
	var all []api.Expr
	for _, kind := range []int{-1, api.ExprNum, api.ExprVar, api.ExprNeg, api.ExprNot, api.ExprBin, 9} {
		all = append(all, api.Expr{Kind: kind}, api.Expr{Kind: kind, N: 1}, api.Expr{Kind: kind, N: -1}, api.Expr{Kind: kind, Name: "a"}, api.Expr{Kind: kind, Name: "+"}, api.Expr{Kind: kind, Op: "a"}, api.Expr{Kind: kind, Op: "+"})
	}
	for _, kid := range slices.Clone(all) {
		all = append(all, neg(kid), not(kid), bin(kid, "+", num(5)), bin(num(5), "+", kid), bin(num(5), "-", kid), api.Expr{Kids: []api.Expr{kid}}, neg(neg(kid)))
	}
	for i, a := range all {
		for j, b := range all {
			if Same(a, b) != (i == j) {
				t.Fatalf("Same(%v, %v) is %v", a, b, i != j)
			}
		}
	}
	if !Same(api.Expr{Kids: []api.Expr{}}, api.Expr{}) || !Same(leftRow(1<<16), leftRow(1<<16)) || Same(leftRow(1<<16), leftRow(1<<16-1)) {
		t.Error("not the same by what they hold")
	}
}

// TestNames holds which names any expression has (P9.1, P0).
func TestNames(t *testing.T) {
	wide := api.Expr{Kind: api.ExprNum, Name: "no", Kids: []api.Expr{variable("B"), variable("a"), variable(""), {Kind: 7, Op: "o", Name: "n", Kids: []api.Expr{variable("7")}}}}
	for want, e := range map[string]api.Expr{
		"":            num(1),
		"a":           variable("a"),
		"a b":         bin(variable("b"), "+", bin(variable("a"), "*", variable("b"))),
		"0 10 9 a aa": bin(bin(variable("aa"), "<", neg(variable("9"))), "-", bin(variable("10"), "+", bin(variable("a"), "&&", not(variable("0"))))),
		" 7 B a":      wide,
		"w x":         {Kind: api.ExprVar, Name: "x", Kids: []api.Expr{variable("w"), variable("x")}},
		"z":           bin(leftRow(1<<16), "+", bin(rightRow(1<<16), "-", variable("z"))),
	} {
		if got := strings.Join(Names(e), " "); got != want {
			t.Errorf("Names is %q, not %q", got, want)
		}
	}
	if l := Names(variable("")); len(l) != 1 || l[0] != "" {
		t.Errorf("Names of a variable without a name is %q", l)
	}
	if l := Names(bin(num(1), "+", num(2))); len(l) != 0 {
		t.Errorf("Names without a variable is %q", l)
	}
}

// TestArgumentsStay holds that what is handed in stays, and what is answered is the caller's own (R4).
func TestArgumentsStay(t *testing.T) {
	l := row(t, "- ( $b + $a ) * $a || ! 3")
	kept := slices.Clone(l)
	e, _, _ := Parse(l, 0)
	again, _, _ := Parse(l, 0)
	if !reflect.DeepEqual(l, kept) || !reflect.DeepEqual(e, again) {
		t.Error("Parse changes its tokens")
	}
	e.Kids[0].Kids[0].Kind, e.Kids[0].Kids[1].Name = api.ExprNum, "x"
	clear(e.Kids)
	if third, _, _ := Parse(l, 0); !reflect.DeepEqual(third, again) {
		t.Error("what Parse answers is shared")
	}
	before, _ := Print(again)
	tokens, _ := Tokens(again)
	names := Names(again)
	more, other := append(names, "c")[:0], append(tokens, api.Token{})[:0]
	more, other = append(more, "q"), append(other, api.Token{Kind: api.TokNum, N: 7})
	if after, _ := Print(again); after != before || len(more)+len(other) != 2 {
		t.Error("what Tokens or Names answers is shared")
	}
	if fresh, _ := Tokens(again); !reflect.DeepEqual(fresh, withoutPlaces(kept)) || strings.Join(Names(again), " ") != "a b" {
		t.Error("Tokens or Names answers something else the second time")
	}
}

// TestAnything holds that all calls end at expressions that are as deep or as wide as they like, and at such that hold themselves where that may be (P0).
func TestAnything(t *testing.T) {
	deep := api.Expr{Kind: api.ExprNeg}
	for range 1 << 16 {
		deep = neg(deep)
	}
	wide := api.Expr{Kind: api.ExprBin, Op: "+", Kids: make([]api.Expr, 1<<18)}
	round := api.Expr{Kind: api.ExprBin, Op: "*", Kids: make([]api.Expr, 2)}
	round.Kids[0], round.Kids[1] = round, round
	for _, e := range []api.Expr{deep, wide, round, neg(wide), not(deep), not(round)} {
		checkMayNot(t, "anything", e)
	}
	if !Same(deep, deep) || !Same(wide, wide) || Same(wide, deep) || Same(round, deep) || len(Names(deep)) != 0 || len(Names(wide)) != 0 {
		t.Error("Same or Names is wrong about what is deep or wide")
	}
	long := row(t, strings.Repeat("( ", 1<<16))
	if _, n, err := Parse(long, 1); n != 65 || err != api.ErrDeep {
		t.Errorf("Parse is %d, error %d", n, err)
	}
	if _, n, err := Parse(make([]api.Token, 1<<16), 5); n != 5 || err != api.ErrForm {
		t.Errorf("Parse is %d, error %d", n, err)
	}
}
