package token

import (
	"math"
	"slices"
	"strings"
	"testing"

	"souffleur/api"
)

func word(s string) api.Token {
	return api.Token{Kind: api.TokWord, Word: s}
}

func number(n int64) api.Token {
	return api.Token{Kind: api.TokNum, N: n}
}

func text(l ...api.Part) api.Token {
	return api.Token{Kind: api.TokText, Parts: l}
}

func sign(s string) api.Token {
	return api.Token{Kind: api.TokSign, Word: s}
}

func flag(s string) api.Token {
	return api.Token{Kind: api.TokFlag, Word: s}
}

func variable(s string) api.Token {
	return api.Token{Kind: api.TokVar, Word: s}
}

// placed are the tokens l, each at its place.
func placed(places []int, l ...api.Token) []api.Token {
	l = slices.Clone(l)
	for i := range l {
		l[i].At = places[i]
	}
	return l
}

// single are tokens by how each stands in a script.
func single() map[string]api.Token {
	a, b := api.Part{Text: "a"}, api.Part{Name: "b"}
	all := map[string]api.Token{
		"a": word("a"), "send": word("send"), "exp_continue": word("exp_continue"), "expect_before": word("expect_before"), "a_1": word("a_1"), "z9_": word("z9_"), "abcdefghijklmn": word("abcdefghijklmn"), "i": word("i"), "ex": word("ex"),
		"0": number(0), "7": number(7), "10": number(10), "9223372036854775807": number(math.MaxInt64),
		`""`: text(), `"a"`: text(a), `"${b}"`: text(b), `"a${b}\x00"`: text(a, b, api.Part{Text: "\x00"}), `"# \n\"\$"`: text(api.Part{Text: "# \n\"$"}), `"\xff"`: text(api.Part{Text: "\xff"}),
		"-i": flag("i"), "-ex": flag("ex"), "-gl": flag("gl"), "-re": flag("re"),
		"$a": variable("a"), "$0": variable("0"), "$9": variable("9"), "$abcdefgh": variable("abcdefgh"), "$a_1": variable("a_1"),
	}
	for _, s := range strings.Fields("{ } ( ) + - * / % < > <= >= == != ! && ||") {
		all[s] = sign(s)
	}
	return all
}

// checkRead holds that s is read as the tokens want.
func checkRead(t *testing.T, s string, want []api.Token) {
	t.Helper()
	if got, n, err := Scan(s); !alike(got, want) || n != 0 || err != api.OK {
		t.Errorf("Scan(%.40q) is %v, %d, error %d; not %v", s, got, n, err, want)
	}
}

// checkRefused holds that s is refused, with the number n and the error want.
func checkRefused(t *testing.T, s string, n int, want api.Errno) {
	t.Helper()
	if got, at, err := Scan(s); len(got) != 0 || at != n || err != want {
		t.Errorf("Scan(%.40q) is %v, %d, error %d; not %d, error %d", s, got, at, err, n, want)
	}
}

// TestSingle holds how each token stands in a script, and that it is read, whatever stands between it and the ends (P8.1).
func TestSingle(t *testing.T) {
	for s, token := range single() {
		token.At = -7
		if got, err := Text(token); got != s || err != api.OK {
			t.Errorf("Text(%v) is %q, error %d", token, got, err)
		}
		for _, ahead := range []string{"", " ", "\t", "\n", "\n \t\t", "#\n", "#a\n", "##\"\n #$\n\t"} {
			for _, behind := range []string{"", " ", "\t", "\n", "#", "#\n", "\t#a\n#\n", " #" + s} {
				checkRead(t, ahead+s+behind, placed([]int{len(ahead)}, token))
			}
		}
	}
}

// TestRows holds rows of tokens by hand (P8.1).
func TestRows(t *testing.T) {
	a := text(api.Part{Text: "a"})
	for s, want := range map[string][]api.Token{
		`send "a"`: placed([]int{0, 5}, word("send"), a), `send"a"b`: placed([]int{0, 4, 7}, word("send"), a, word("b")), `"a""a"`: placed([]int{0, 3}, a, a), `"" ""`: placed([]int{0, 3}, text(), text()), `"\$"$a`: placed([]int{0, 4}, text(api.Part{Text: "$"}), variable("a")),
		"$a-1": placed([]int{0, 2, 3}, variable("a"), sign("-"), number(1)), "$a-$b": placed([]int{0, 2, 3}, variable("a"), sign("-"), variable("b")), "$a -i": placed([]int{0, 3}, variable("a"), flag("i")), "$a$b": placed([]int{0, 2}, variable("a"), variable("b")), "$1$a1": placed([]int{0, 2}, variable("1"), variable("a1")), "a$b": placed([]int{0, 1}, word("a"), variable("b")),
		"1a": placed([]int{0, 1}, number(1), word("a")), "0x1f": placed([]int{0, 1}, number(0), word("x1f")), "a0": placed([]int{0}, word("a0")), "1 0": placed([]int{0, 2}, number(1), number(0)), "20": placed([]int{0}, number(20)),
		"-1": placed([]int{0, 1}, sign("-"), number(1)), "--": placed([]int{0, 1}, sign("-"), sign("-")), "--i": placed([]int{0, 1}, sign("-"), flag("i")), "- i": placed([]int{0, 2}, sign("-"), word("i")), `-"a"`: placed([]int{0, 1}, sign("-"), a), "-#i": placed([]int{0}, sign("-")), "-\ni": placed([]int{0, 2}, sign("-"), word("i")), "-(i": placed([]int{0, 1, 2}, sign("-"), sign("("), word("i")),
		"-i0": placed([]int{0, 2}, flag("i"), number(0)), "-i-i": placed([]int{0, 2}, flag("i"), flag("i")), `-ex"a"`: placed([]int{0, 3}, flag("ex"), a), "-re1e": placed([]int{0, 3, 4}, flag("re"), number(1), word("e")), "-gl$l": placed([]int{0, 3}, flag("gl"), variable("l")), "-i#": placed([]int{0}, flag("i")),
		"<<=": placed([]int{0, 1}, sign("<"), sign("<=")), "<===": placed([]int{0, 2}, sign("<="), sign("==")), "!!=": placed([]int{0, 1}, sign("!"), sign("!=")), "!===": placed([]int{0, 2}, sign("!="), sign("==")), "><": placed([]int{0, 1}, sign(">"), sign("<")), ">>=": placed([]int{0, 1}, sign(">"), sign(">=")), "||||": placed([]int{0, 2}, sign("||"), sign("||")), "&&!": placed([]int{0, 2}, sign("&&"), sign("!")), "====": placed([]int{0, 2}, sign("=="), sign("==")),
		"{}()": placed([]int{0, 1, 2, 3}, sign("{"), sign("}"), sign("("), sign(")")), "+*/%": placed([]int{0, 1, 2, 3}, sign("+"), sign("*"), sign("/"), sign("%")), "$a(": placed([]int{0, 2}, variable("a"), sign("(")),
		"a#b\nc": placed([]int{0, 4}, word("a"), word("c")), "a\n#b\n#c\nd#": placed([]int{0, 8}, word("a"), word("d")), "a # b # c\n\td": placed([]int{0, 11}, word("a"), word("d")), `"#"#"`: placed([]int{0}, text(api.Part{Text: "#"})),
	} {
		checkRead(t, s, want)
	}
	for _, s := range []string{"", " ", "\t\n ", "#", "#\n", "# a \"$\xff\x00\r", "#a\n#b\n\n#c", " # \n \t# #"} {
		checkRead(t, s, nil)
	}
}

// TestRefused holds places and errors by hand (P8.1).
func TestRefused(t *testing.T) {
	for s, place := range map[string]int{
		"A": 0, "_": 0, "_a": 0, "=": 0, "&": 0, "|": 0, "'a'": 0, ".": 0, ",": 0, ";": 0, "[": 0, "]": 0, "@": 0, "?": 0, "^": 0, "`": 0, "~": 0, ":": 0, "\\": 0, "\r": 0, "\x00": 0, "\v": 0, "\f": 0, "\x7f": 0, "\x80": 0, "\xff": 0, "\u00a0": 0, "\u00e4": 0,
		"aB": 1, "a\r\n": 1, "a-A_": 2, "a.b": 1, "1.5": 1, "1_0": 1, "a = b": 2, "a & b": 2, "a|b": 1, "<==": 2, "===": 2, "!==": 2, "< =": 2, "> =": 2, "! =": 2, "&&&": 2, "|||": 2, "& &": 0, "=<": 0, "#a\n_": 3, "a #b\n=": 5, "[a]": 0,
		"abcdefghijklmno": 0, "a bcdefghijklmnop": 2, "abcdefghijklmn_": 0, "abcdefghijklmn0": 0, "_b": 0,
		"00": 0, "01": 0, "a 007": 2, "1 00": 2, "0099999999999999999999": 0, "09223372036854775808": 0,
		"$": 0, "$ a": 0, "$A": 0, "$_": 0, "$_a": 0, "$10": 0, "$1a": 0, "$1_": 0, "$abcdefghi": 0, "a $abcdefgh_": 2, "${a}": 0, "$$a": 0, "$a$": 2, "$-": 0, "$\"a\"": 0, "$a_B": 3,
		"-a": 0, "-e": 0, "-x": 0, "-g": 0, "-l": 0, "-r": 0, "-ii": 0, "-exa": 0, "-ex_": 3, "-glob": 0, "-ie": 0, "-iA": 2, "-i_": 2, "a -exp": 2, "--a": 1, "-A": 1, "-_": 1, "-=": 1, "-\r": 1,
		`"`: 1, `"a`: 2, `a "`: 3, `a "b`: 4, `a "b\q"`: 5, `a "b\`: 5, `a "\xg"`: 5, `a "$b"`: 4, `a "${b"`: 6, "a \"\n\"": 3, "a \"b\t\"": 4, "\"\xff\"": 1, `"a" "\`: 6, `"a"b"`: 5, `""""""" `: 8, "# \"\n\"#": 6, `"${abcdefghi}"`: 11,
		// The first one counts, whatever is behind it.
		"00 99999999999999999999": 0, "$ 99999999999999999999": 0, `= "`: 0, `" =`: 3, "a 01 _": 2,
	} {
		checkRefused(t, s, place, api.ErrForm)
	}
	for s, place := range map[string]int{
		"9223372036854775808": 0, "a 9223372036854775808": 2, "99999999999999999999999": 0, "-9223372036854775808": 1, "18446744073709551616": 0, "9223372036854775808_": 0, "9223372036854775808 00": 0, "1 2 10000000000000000000a": 4, strings.Repeat("9", 2000): 0,
	} {
		checkRefused(t, s, place, api.ErrOver)
	}
}

// TestScanBounds holds the most bytes of a script (P8.1).
func TestScanBounds(t *testing.T) {
	for _, s := range []string{" ", "\n", "#", "a", "0", "_", "$", "-", `"`, `"a" `, "=", "\xff"} {
		long := strings.Repeat(s, 2001)[:2001]
		checkRefused(t, long, 2000, api.ErrLong)
		checkRefused(t, strings.Repeat(s, 100000), 2000, api.ErrLong)
		checkScan(t, long[:2000])
		checkScan(t, long[:1999])
	}
	checkRead(t, strings.Repeat(" ", 1999)+"a", placed([]int{1999}, word("a")))
	checkRead(t, `"`+strings.Repeat("a", 1998)+`"`, placed([]int{0}, text(api.Part{Text: strings.Repeat("a", 1998)})))
	checkRefused(t, `"`+strings.Repeat("a", 1999), 2000, api.ErrForm)
	checkRefused(t, strings.Repeat(" ", 1999)+"$", 1999, api.ErrForm)
	checkRefused(t, strings.Repeat(" ", 2000)+"$", 2000, api.ErrLong)
}

// mayNotBe are tokens that may not be, each for another reason.
func mayNotBe() []api.Token {
	l := []api.Token{{}, {Word: "a"}, {Kind: 7, Word: "a"}, {Kind: 7}, {Kind: -1, Word: "a"}, {Kind: math.MaxInt, Word: "{"}, {Kind: math.MinInt, N: 1}}
	for kind, words := range map[int][]string{
		api.TokWord: {"", "A", "_", "_a", "1", "1a", "aB", "a b", " a", "a ", "a-", "a\n", "a\x00", "\xe4", "a\xe4", "`", "{", "abcdefghijklmno", strings.Repeat("a", 100000)},
		api.TokSign: {"", "=", "&", "|", "a", "0", "$", "-i", "--", "<<", "=>", "=<", "===", "!==", "{}", "< ", " <", "<= ", "#", `"`, "&&&", "\x00", "\n", "[", "_"},
		api.TokFlag: {"", "a", "e", "x", "ii", "exa", "-i", "-ex", "I", "EX", "glob", "r", "i ", " i", "re\n", "\x00", "ix"},
		api.TokVar:  {"", "A", "_", "_a", "10", "1a", "$a", "abcdefghi", "a b", "a ", "a-", "a\n", "{a}", "\xe4", strings.Repeat("a", 100000)},
	} {
		for _, s := range words {
			l = append(l, api.Token{Kind: kind, Word: s})
		}
	}
	for _, token := range []api.Token{word("a"), sign("-"), flag("ex"), variable("a"), number(3), text(api.Part{Text: "a"}), text()} {
		number, parts, worded := token, token, token
		number.N, parts.Parts, worded.Word = 1, []api.Part{{Text: "a"}}, "a"
		if token.Kind != api.TokNum {
			l = append(l, number)
			number.N = -1
			l = append(l, number)
		}
		if token.Kind != api.TokText {
			l = append(l, parts)
			parts.Parts = []api.Part{{}}
			l = append(l, parts)
		}
		if token.Word == "" {
			l = append(l, worded)
		}
	}
	l = append(l, number(-1), number(math.MinInt64))
	for _, parts := range [][]api.Part{{{}}, {{Name: "A"}}, {{Name: "a", Text: "b"}}, {{Text: "a"}, {Text: "b"}}, {{Name: "abcdefghi"}}, {{Text: "a"}, {}}} {
		l = append(l, text(parts...))
	}
	return l
}

// TestMayNotBe holds that what may not be a token is refused, alone and among others (P8.1).
func TestMayNotBe(t *testing.T) {
	for _, token := range mayNotBe() {
		if s, err := Text(token); s != "" || err != api.ErrArg {
			t.Errorf("Text(%.60v) is %q, error %d", token, s, err)
		}
		for _, l := range [][]api.Token{{token}, {word("a"), token}, {token, word("a")}, {sign("("), token, sign(")")}, append(slices.Repeat([]api.Token{word("a")}, 3000), token)} {
			if s, err := Join(l); s != "" || err != api.ErrArg {
				t.Errorf("Join of %d with %.60v is %q, error %d", len(l), token, s, err)
			}
		}
	}
}

// TestEmptyParts holds that a list without parts is none, be it nil or not (P8.1, R4).
func TestEmptyParts(t *testing.T) {
	for s, token := range single() {
		if len(token.Parts) > 0 {
			continue
		}
		token.Parts = []api.Part{}
		if got, err := Text(token); got != s || err != api.OK {
			t.Errorf("Text(%v) is %q, error %d", token, got, err)
		}
	}
}

// TestJoin holds joined tokens by hand (P8.1).
func TestJoin(t *testing.T) {
	for want, l := range map[string][]api.Token{
		"": nil, "a": {word("a")}, "a b": {word("a"), word("b")}, `send "a${b}"`: {word("send"), text(api.Part{Text: "a"}, api.Part{Name: "b"})},
		"$a - 1": {variable("a"), sign("-"), number(1)}, "- i": {sign("-"), word("i")}, "- -i": {sign("-"), flag("i")}, "- - 0": {sign("-"), sign("-"), number(0)}, "< <= !": {sign("<"), sign("<="), sign("!")}, "! !=": {sign("!"), sign("!=")},
		`-ex "\n" { }`: {flag("ex"), text(api.Part{Text: "\n"}), sign("{"), sign("}")}, `"" ""`: {text(), text()}, "1 0 a": {number(1), number(0), word("a")}, "&& ||": {sign("&&"), sign("||")},
	} {
		if got, err := Join(l); got != want || err != api.OK {
			t.Errorf("Join(%v) is %q, error %d; not %q", l, got, err, want)
		}
	}
	if got, err := Join([]api.Token{}); got != "" || err != api.OK {
		t.Errorf("of none Join is %q, error %d", got, err)
	}
}

// TestJoinBounds holds the most bytes of what is joined, and of no single token (P8.1).
func TestJoinBounds(t *testing.T) {
	filled := func(n int) api.Token { return text(api.Part{Text: strings.Repeat("a", n)}) }
	for _, l := range [][]api.Token{
		slices.Repeat([]api.Token{word("ab"), sign("<")}, 400), {filled(1998)}, {filled(1995), word("ab")}, {word("ab"), filled(1995)}, append(slices.Repeat([]api.Token{word("a")}, 999), sign("<=")),
	} {
		if got, err := Join(l); len(got) > 2000 || len(got) < 1999 || err != api.OK {
			t.Errorf("Join of %d tokens has %d bytes, error %d", len(l), len(got), err)
		}
	}
	for _, l := range [][]api.Token{
		{filled(1999)}, {filled(1996), word("ab")}, {word("ab"), filled(1996)}, {filled(1998), sign("(")}, {sign("("), filled(1998)}, slices.Repeat([]api.Token{word("a")}, 1001), slices.Repeat([]api.Token{word("a")}, 100000), slices.Repeat([]api.Token{filled(1000)}, 1000), append(slices.Repeat([]api.Token{word("a")}, 1000), sign("<="), word("a")),
	} {
		if got, err := Join(l); got != "" || err != api.ErrLong {
			t.Errorf("Join of %d tokens has %d bytes, error %d", len(l), len(got), err)
		}
	}
	if got, err := Text(filled(100000)); got != `"`+strings.Repeat("a", 100000)+`"` || err != api.OK {
		t.Errorf("Text of a long text has %d bytes, error %d", len(got), err)
	}
}

// checkJoined holds that what is joined of l is scanned to l, each token at its place.
func checkJoined(t *testing.T, l []api.Token) {
	t.Helper()
	s, err := Join(l)
	if err != api.OK {
		t.Fatalf("Join(%v) is %q, error %d", l, s, err)
	}
	want := slices.Clone(l)
	at := 0
	for i, token := range want {
		want[i].At = at
		alone, err := Text(token)
		if err != api.OK || !strings.HasPrefix(s[at:], alone) {
			t.Fatalf("Text(%v) is %q, error %d; joined it is %q", token, alone, err, s)
		}
		at += len(alone) + 1
	}
	if got, n, err := Scan(s); !alike(got, want) || n != 0 || err != api.OK {
		t.Fatalf("%v is joined as %q, and scanned as %v, %d, error %d", l, s, got, n, err)
	}
}

// TestJoinedIsScanned goes through all rows of up to three tokens, and texts of all bytes (P8.2).
func TestJoinedIsScanned(t *testing.T) {
	tokens := []api.Token{}
	for _, token := range single() {
		tokens = append(tokens, token)
	}
	checkJoined(t, nil)
	for _, a := range tokens {
		checkJoined(t, []api.Token{a})
		for _, b := range tokens {
			checkJoined(t, []api.Token{a, b})
			for _, c := range tokens {
				checkJoined(t, []api.Token{a, b, c})
			}
		}
	}
	for c := range 256 {
		one := text(api.Part{Text: string([]byte{byte(c)})})
		checkJoined(t, []api.Token{one})
		checkJoined(t, []api.Token{sign("-"), one, flag("i"), one, word("a")})
		checkJoined(t, []api.Token{text(api.Part{Text: string([]byte{'"', byte(c)})}, api.Part{Name: "a"}, api.Part{Text: string([]byte{byte(c), '#'})}), one})
	}
	checkJoined(t, slices.Repeat([]api.Token{word("a")}, 1000))
}

// TestArgumentsStay holds that what is handed in isn't changed, and what is answered is the caller's own (R4).
func TestArgumentsStay(t *testing.T) {
	l := placed([]int{9, 8, -7}, word("a"), text(api.Part{Text: "b"}, api.Part{Name: "c"}), number(4))
	before := slices.Clone(l)
	parts := slices.Clone(l[1].Parts)
	first, _ := Join(l)
	Text(l[1])
	if !alike(l, before) || !slices.Equal(l[1].Parts, parts) {
		t.Errorf("the tokens have become %v", l)
	}
	read, _, _ := Scan(first)
	want, _, _ := Scan(first)
	read[1].Parts[0].Text, read[1].Parts[1].Name, read[0].Word, read[2].N = "z", "z", "z", 9
	if again, _, err := Scan(first); !alike(again, want) || err != api.OK {
		t.Errorf("scanned again it is %v, error %d", again, err)
	}
	two, _, _ := Scan(`"a${b}" "a${b}"`)
	two[0].Parts[0].Text = "z"
	_ = append(two[0].Parts, api.Part{Text: "y"})
	if two[1].Parts[0].Text != "a" {
		t.Errorf("two tokens share their parts: %v", two)
	}
	if again, err := Join(l); again != first || err != api.OK {
		t.Errorf("joined again it is %q, error %d", again, err)
	}
}

// FuzzScan holds P8.1 and P8.2 at any text: it is read as far as the chapter's words say, and what is read is joined to what is read again.
func FuzzScan(f *testing.F) {
	for _, s := range []string{"", `send "a"`, "$a-1", "-ex \"\\x00\" {} # a", "9223372036854775808", "00", "$10", "a<=b!=c==d", "\"${abcdefghi}\"", "-glob", "abcdefghijklmno"} {
		f.Add(s)
	}
	f.Fuzz(func(t *testing.T, s string) {
		checkScan(t, s)
		l, _, _ := Scan(s)
		if joined, err := Join(l); err == api.OK {
			checkJoined(t, l)
		} else if joined != "" || err != api.ErrLong {
			t.Errorf("Join(%v) is %q, error %d", l, joined, err)
		}
	})
}

// FuzzJoin holds P8.1 and P8.2 at any tokens: they are refused, or scanned as they were.
func FuzzJoin(f *testing.F) {
	f.Add(1, "a", int64(0), "", "", 5, "i")
	f.Add(3, "", int64(0), "b", "", 4, "-")
	f.Add(2, "", int64(7), "", "", 6, "a")
	f.Fuzz(func(t *testing.T, kind int, a string, n int64, name, part string, kindB int, b string) {
		first := api.Token{Kind: kind, Word: a, N: n}
		if name != "" || part != "" {
			first.Parts = []api.Part{{Name: name, Text: part}}
		}
		l := []api.Token{first, {Kind: kindB, Word: b}}
		switch joined, err := Join(l); {
		case err == api.OK:
			checkJoined(t, l)
		case joined != "" || err != api.ErrArg && err != api.ErrLong:
			t.Errorf("Join(%v) is %q, error %d", l, joined, err)
		}
	})
}
