package script

import (
	"math"
	"reflect"
	"slices"
	"strings"
	"testing"

	"souffleur/api"
)

func text(s string) []api.Part {
	return []api.Part{{Text: s}}
}

func num(n int64) api.Expr {
	return api.Expr{N: n}
}

func variable(name string) api.Expr {
	return api.Expr{Kind: api.ExprVar, Name: name}
}

func bin(a api.Expr, op string, b api.Expr) api.Expr {
	return api.Expr{Kind: api.ExprBin, Op: op, Kids: []api.Expr{a, b}}
}

func exit() api.Cmd {
	return api.Cmd{Kind: api.CmdExit}
}

func again() api.Cmd {
	return api.Cmd{Kind: api.CmdAgain}
}

func call(name string) api.Cmd {
	return api.Cmd{Kind: api.CmdCall, Name: name}
}

func incr(name string, n int64) api.Cmd {
	return api.Cmd{Kind: api.CmdIncr, Name: name, N: n}
}

func when(cond api.Expr, body ...api.Cmd) api.Cmd {
	return api.Cmd{Kind: api.CmdIf, Cond: cond, Body: body}
}

func otherwise(c api.Cmd, l ...api.Cmd) api.Cmd {
	c.Else = l
	return c
}

func expect(l ...api.Rule) api.Cmd {
	return api.Cmd{Kind: api.CmdExpect, Rules: l}
}

func rule(kind int, body ...api.Cmd) api.Rule {
	return api.Rule{Kind: kind, Peer: -1, Body: body}
}

func pattern(kind int, s string, body ...api.Cmd) api.Rule {
	return api.Rule{Kind: api.RulePattern, Peer: -1, Pattern: api.Pattern{Kind: kind, Text: s}, Body: body}
}

// of is the rule r for the peer n.
func of(n int64, r api.Rule) api.Rule {
	r.Peer = n
	return r
}

// bare are the commands l, and all within, without places, and with nil for each empty list.
func bare(l []api.Cmd) []api.Cmd {
	var out []api.Cmd
	for _, c := range l {
		c.At, c.Parts, c.Cond = 0, append([]api.Part(nil), c.Parts...), bareExpr(c.Cond)
		c.Body, c.Else = bare(c.Body), bare(c.Else)
		var rules []api.Rule
		for _, r := range c.Rules {
			r.At, r.Body = 0, bare(r.Body)
			rules = append(rules, r)
		}
		c.Rules = rules
		out = append(out, c)
	}
	return out
}

// bareExpr is e with nil for each empty list.
func bareExpr(e api.Expr) api.Expr {
	var kids []api.Expr
	for _, kid := range e.Kids {
		kids = append(kids, bareExpr(kid))
	}
	e.Kids = kids
	return e
}

// places are where the commands l and their rules stand, each ahead of what stands within it.
func places(l []api.Cmd) []int {
	var all []int
	for _, c := range l {
		all = append(append(append(all, c.At), places(c.Body)...), places(c.Else)...)
		for _, r := range c.Rules {
			all = append(append(all, r.At), places(r.Body)...)
		}
	}
	return all
}

// checkRead holds that s is read as want, but for where its commands stand.
func checkRead(t *testing.T, s string, want ...api.Cmd) []api.Cmd {
	t.Helper()
	l, n, err := Parse(s)
	if !reflect.DeepEqual(bare(l), bare(want)) || n != 0 || err != api.OK {
		t.Errorf("Parse(%.80q) is %v, %d, error %d; not %v", s, l, n, err, want)
	}
	return l
}

// checkRefused holds that the text around the ^ in marked is refused with the error want, where the ^ stands.
func checkRefused(t *testing.T, marked string, want api.Errno) {
	t.Helper()
	place := strings.Index(marked, "^")
	s := marked[:place] + marked[place+1:]
	if l, n, err := Parse(s); len(l) != 0 || n != place || err != want {
		t.Errorf("Parse(%.80q) is %v, %d, error %d; not %d, error %d", s, l, n, err, place, want)
	}
}

// texts are commands by their texts.
func texts() map[string][]api.Cmd {
	one, empty := num(1), []api.Cmd(nil)
	eof, timeout := rule(api.RuleEof), rule(api.RuleTimeout)
	return map[string][]api.Cmd{
		"":                          empty,
		`set a "x"`:                 {{Kind: api.CmdSet, Name: "a", Parts: text("x")}},
		`set abcdefg_ ""`:           {{Kind: api.CmdSet, Name: "abcdefg_"}},
		`set set "a${b}\x00${1}"`:   {{Kind: api.CmdSet, Name: "set", Parts: []api.Part{{Text: "a"}, {Name: "b"}, {Text: "\x00"}, {Name: "1"}}}},
		"let a ( 1 )":               {{Kind: api.CmdLet, Name: "a", Cond: one}},
		"let never ( $a + 2 * $0 )": {{Kind: api.CmdLet, Name: "never", Cond: bin(variable("a"), "+", bin(num(2), "*", variable("0")))}},
		"let a ( ( 1 + 2 ) * 3 )":   {{Kind: api.CmdLet, Name: "a", Cond: bin(bin(one, "+", num(2)), "*", num(3))}},
		"let a ( - 1 )":             {{Kind: api.CmdLet, Name: "a", Cond: api.Expr{Kind: api.ExprNeg, Kids: []api.Expr{one}}}},
		"incr a 1":                  {incr("a", 1)}, "incr incr 0": {incr("incr", 0)}, "incr a - 1": {incr("a", -1)}, "incr eof 9223372036854775807": {incr("eof", math.MaxInt64)}, "incr a - 9223372036854775807": {incr("a", -math.MaxInt64)},
		"if ( 1 ) { }":                                    {when(one)},
		"if ( 0 ) { exit exit }":                          {when(num(0), exit(), exit())},
		"if ( 1 ) { } else { exit }":                      {otherwise(when(one), exit())},
		"if ( $a ) { if ( 1 ) { } else { exit } }":        {when(variable("a"), otherwise(when(one), exit()))},
		"if ( $a ) { if ( 1 ) { } } else { exit }":        {otherwise(when(variable("a"), when(one)), exit())},
		"if ( 1 ) { exit } else { if ( 2 ) { } } exit":    {otherwise(when(one, exit()), when(num(2))), exit()},
		"if ( 1 ) { } if ( 2 ) { } else { exp_continue }": {when(one), otherwise(when(num(2)), again())},
		"while ( $a < 3 ) { incr a 1 }":                   {{Kind: api.CmdWhile, Cond: bin(variable("a"), "<", num(3)), Body: []api.Cmd{incr("a", 1)}}},
		"while ( ! $a ) { }":                              {{Kind: api.CmdWhile, Cond: api.Expr{Kind: api.ExprNot, Kids: []api.Expr{variable("a")}}}},
		"proc p { }":                                      {{Kind: api.CmdProc, Name: "p"}},
		"proc if { proc else { call if } exit } call p":   {{Kind: api.CmdProc, Name: "if", Body: []api.Cmd{{Kind: api.CmdProc, Name: "else", Body: []api.Cmd{call("if")}}, exit()}}, call("p")},
		"call p": {call("p")}, "call call call p1_": {call("call"), call("p1_")},
		"spawn 0": {{Kind: api.CmdSpawn}}, "spawn 9223372036854775807": {{Kind: api.CmdSpawn, N: math.MaxInt64}},
		"use 0": {{Kind: api.CmdUse}}, "use 12": {{Kind: api.CmdUse, N: 12}},
		`send ""`: {{Kind: api.CmdSend}}, `send "a\n"`: {{Kind: api.CmdSend, Parts: text("a\n")}}, `send "${a}"`: {{Kind: api.CmdSend, Parts: []api.Part{{Name: "a"}}}},
		"timeout 0": {{Kind: api.CmdTimeout}}, "timeout 10": {{Kind: api.CmdTimeout, N: 10}}, "timeout never": {{Kind: api.CmdTimeout, N: -1}}, "timeout 9223372036854775807 exit": {{Kind: api.CmdTimeout, N: math.MaxInt64}, exit()},
		"exp_continue": {again()}, "exit": {exit()}, "exit exp_continue exit": {exit(), again(), exit()},

		`expect { -re "a*" { } eof { exit } }`:                                       {expect(pattern(api.Regex, "a*"), rule(api.RuleEof, exit()))},
		`expect { -ex "" { } }`:                                                      {expect(pattern(api.Exact, ""))},
		`expect { -gl "[" { } -re "(" { exit } }`:                                    {expect(pattern(api.Shell, "["), pattern(api.Regex, "(", exit()))},
		`expect { -ex "\$a\xff\"" { call eof } }`:                                    {expect(pattern(api.Exact, "$a\xff\"", call("eof")))},
		`expect { timeout { } }`:                                                     {expect(timeout)},
		`expect { timeout { } timeout { exit } }`:                                    {expect(timeout, rule(api.RuleTimeout, exit()))},
		`expect { default { timeout never } }`:                                       {expect(rule(api.RuleDefault, api.Cmd{Kind: api.CmdTimeout, N: -1}))},
		`expect { -i 0 eof { } }`:                                                    {expect(of(0, eof))},
		`expect { -i 3 -ex "a" { } -i 0 eof { } }`:                                   {expect(of(3, pattern(api.Exact, "a")), of(0, eof))},
		`expect { -i 9223372036854775807 -re "b" { exp_continue } eof { } eof { } }`: {expect(of(math.MaxInt64, pattern(api.Regex, "b", again())), eof, eof)},
		`expect_before { eof { } }`:                                                  {{Kind: api.CmdBefore, Rules: []api.Rule{eof}}},
		`expect_after { -i 1 -gl "*" { exp_continue } } exit`:                        {{Kind: api.CmdAfter, Rules: []api.Rule{of(1, pattern(api.Shell, "*", again()))}}, exit()},
		`expect { eof { expect { timeout { } } exit } } expect { timeout { } }`:      {expect(rule(api.RuleEof, expect(timeout), exit())), expect(timeout)},
	}
}

// TestTexts holds how commands are written, that they may be, and that they are read (P10.1, P10.2).
func TestTexts(t *testing.T) {
	for s, want := range texts() {
		checkRead(t, s, want...)
		if got, err := Print(want); got != s || err != api.OK || !May(want) {
			t.Errorf("Print is %q, error %d, not %q; May is %v", got, err, s, May(want))
		}
		l, _, _ := Parse(s)
		if got, err := Print(l); got != s || err != api.OK || !May(l) || !Same(l, want) || !Same(want, l) {
			t.Errorf("%q is printed as %q, error %d; May is %v, Same %v", s, got, err, May(l), Same(l, want))
		}
		for other, l := range texts() {
			if Same(l, want) != (s == other) {
				t.Errorf("Same of %q and %q is %v", s, other, s != other)
			}
		}
	}
}

// TestRead holds texts that aren't the printed ones (P10.1).
func TestRead(t *testing.T) {
	one := num(1)
	for s, want := range map[string][]api.Cmd{
		" \t\n#a": nil, "#exit\n": nil,
		`set a"x"`:                     {{Kind: api.CmdSet, Name: "a", Parts: text("x")}},
		"#1\nexit#2\n\n\texit # \"":    {exit(), exit()},
		"if(1){}":                      {when(one)},
		"if(1){}else{}":                {when(one)},
		"if(1){exit}else{}exit":        {when(one, exit()), exit()},
		"if(1){}else{if(1){}else{}}":   {otherwise(when(one), when(one))},
		"incr a -1":                    {incr("a", -1)},
		"incr a -0":                    {incr("a", 0)},
		"incr a - 0":                   {incr("a", 0)},
		"let a((1))":                   {{Kind: api.CmdLet, Name: "a", Cond: one}},
		"let a((1)+(2))":               {{Kind: api.CmdLet, Name: "a", Cond: bin(one, "+", num(2))}},
		`expect{-ex"\x61"{}-i 0eof{}}`: {expect(pattern(api.Exact, "a"), of(0, rule(api.RuleEof)))},
		"spawn 0use 0exit":             {{Kind: api.CmdSpawn}, {Kind: api.CmdUse}, exit()},
		"expect\n{\n\ttimeout # late\n\t{\n\t}\n}\n": {expect(rule(api.RuleTimeout))},
	} {
		checkRead(t, s, want...)
	}
}

// TestPlaces holds where commands and rules stand (P10.1).
func TestPlaces(t *testing.T) {
	for s, want := range map[string][]int{
		"exit": {0}, " exit": {1}, "#\nexit exit": {2, 7},
		`set a "x" let b (1) incr a 1`:         {0, 10, 20},
		"if (1) {exit} else {exit exit} exit":  {0, 8, 20, 25, 31},
		"while (1) { proc p {call p} }":        {0, 12, 20},
		`expect {-re "a*" {} eof {exit}} exit`: {0, 8, 20, 25, 32},
		`expect_before { -i 0 -ex "b" {use 0} timeout {send "a" expect_after {default{exit}} } } spawn 1`: {0, 16, 30, 37, 46, 55, 69, 77, 88},
	} {
		l, _, err := Parse(s)
		if got := places(l); !slices.Equal(got, want) || err != api.OK {
			t.Errorf("in %q they stand at %v, error %d; not at %v", s, got, err, want)
		}
	}
}

// TestCantGoOn holds the first token with which a text can't go on (P10.1).
func TestCantGoOn(t *testing.T) {
	for _, marked := range []string{
		// What begins no command.
		"^a", "^else", "^eof", "^default", "^never", "^expects", "^1", `^"a"`, "^$a", "^-i", "^{", "^}", "^(", "^-", "exit ^exits", " ^a b c", "exit ^else {}", "exit ^}", "if (1) {} else {} ^else {}", "while (1) {} ^else {}", "#a\n ^a",
		// Names.
		"set^", "set ^", "set ^1", `set ^"a"`, `set ^$a "b"`, "set ^(", `set ^abcdefghi "a"`, `set ^expect_before "a"`, "set ^-i", "let ^", "let ^(1)", "let ^abcdefghi (1)", "incr ^", "incr ^1", "incr ^$a 1", "incr ^abcdefghi 1", "proc ^", "proc ^{}", "proc ^abcdefghi {}", "call ^", "call ^1", "call ^exp_continue", "call ^$p",
		// Texts.
		"set a^", "set a ^", "set a ^b", "set a ^1", "set a ^$b", "set a ^exit", "set a ^{", "send ^", "send ^a", "send ^1", "send ^$a", "send ^-ex", "send ^(",
		// Numbers.
		"incr a^", "incr a ^", `incr a ^"1"`, "incr a ^$b", "incr a ^(1)", "incr a ^+ 1", "incr a ^never", "incr a -^", "incr a - ^", "incr a - ^- 1", "incr a - ^$b", "incr a - ^a", "incr a ^-i", "incr a ^! 1",
		"spawn ^", "spawn ^a", "spawn ^- 1", "spawn ^$a", `spawn ^"0"`, "spawn ^(0)", "spawn ^never", "use ^", "use ^a", "use ^- 1", "use ^-1", "use ^never",
		"timeout ^", "timeout ^- 1", "timeout ^-1", "timeout ^$a", "timeout ^a", "timeout ^exit", "timeout ^nevers", `timeout ^"never"`, "timeout ^(1)", "timeout never ^never", "timeout never ^1", "spawn 0 ^1",
		// Expressions.
		"let a^", "let a ^", "let a ^1", "let a ^$b", `let a ^"b"`, "let a ^{", "let a ^- 1", "let a (^", "let a ( ^", "let a (^)", "let a (^b)", "let a (1 + ^)", "let a (1 + ^* 2)", "let a (1^", "let a (1 ^", "let a (1 ^2)", "let a (1 ^{", "let a (1 + (2) ^}", "let a ((1) ^", "let a (1) ^+ 1", "let a (1) ^)", "let a (1)^(1)",
		"if ^", "if ^1", "if ^{", "if (^", "if (1 ^", "if (1) ^", "if (1) ^exit", "if (1) ^(", "if (1) ^else {}", "while ^", "while ^{", "while (1) ^", "while (1) ^exit", "if (^{", "if (1 ^}", "if (1) {} else ^", "if (1) {} else ^if (1) {}", "if (1) {} else ^exit", "if (1) {} else ^(1)",
		// Blocks.
		"if (1) {^", "if (1) { ^", "if (1) { exit^", "if (1) { ^{", "if (1) { ^else", "if (1) { ^) }", "if (1) {} ^}", "if (1) {} else {^", "if (1) {} else { exit ^", "while (1) {^", "proc p^", "proc p ^", "proc p ^exit", "proc p ^(1)", "proc p {^", "proc p {} ^}", "proc p { ^eof {} }",
		// Rules.
		"expect^", "expect ^", "expect ^exit", "expect ^eof {}", `expect ^-ex "a" {}`, "expect {^", "expect { ^", "expect {^}", "expect { ^} exit", "expect_before {^}", "expect_after { ^}", "expect_before ^", "expect_after ^eof", "expect { ^exit }", "expect { ^{} }", "expect { ^1 {} }", `expect { ^"a" {} }`, "expect { ^$a {} }", "expect { ^( }", "expect { ^- }",
		"expect { eof^", "expect { eof ^", "expect { eof ^}", "expect { eof ^eof {} }", `expect { eof ^"a" {} }`, "expect { eof {^", "expect { eof {}^", "expect { eof {} ^", "expect { eof {} ^exit }", "expect { eof {} ^else {} }", "expect { eof {} ^{} }", "expect { eof { ^eof {} } }", "expect { eof {} } ^}", "expect { eof {} } ^eof {}", "expect { timeout ^", "expect { timeout ^1 }", "expect { timeout ^never }", "expect { timeout ^}", "expect { default ^", "expect { default ^}", "expect { default {^",
		"expect { -ex^", "expect { -ex ^", "expect { -ex ^a {} }", "expect { -ex ^$a {} }", "expect { -ex ^1 {} }", "expect { -ex ^{} }", "expect { -ex ^}", `expect { -gl ^-ex "a" {} }`, "expect { -re ^eof {} }", `expect { -ex ^"${a}" {} }`, `expect { -gl ^"a${b}" {} }`, `expect { -re ^"${a}b" {} }`, `expect { -re ^"a${b}c" {} }`, `expect { -ex "a"^`, `expect { -ex "a" ^}`, `expect { -ex "a" ^"b" {} }`, `expect { -gl "a" ^exit }`, `expect { -re "a" {^`, `expect { -ex "a" {} ^"b" {} }`,
		"expect { -i^", "expect { -i ^", "expect { -i ^a", "expect { -i ^- 1 eof {} }", "expect { -i ^eof {} }", `expect { -i ^"0" eof {} }`, "expect { -i ^$a eof {} }", `expect { -i ^-ex "a" {} }`, "expect { -i 0^", "expect { -i 0 ^", "expect { -i 0 ^timeout {} }", "expect { -i 0 ^default {} }", "expect { -i 0 ^-i 0 eof {} }", "expect { -i 0 ^{} }", "expect { -i 0 ^}", `expect { -i 0 ^"a" {} }`, "expect { -i 0 ^exit", "expect { -i 0 ^1 eof {} }", `expect { -ex "a" ^-i 0 {} }`, "expect { eof ^-i 0 {} }",
	} {
		checkRefused(t, marked, api.ErrForm)
		if !strings.HasSuffix(strings.TrimRight(marked, " "), "^") {
			checkRefused(t, "exit "+marked+" else ) a", api.ErrForm)
			// A } that is one too many may be one for what stands around it.
			if !strings.Contains(marked, "^}") {
				checkRefused(t, "if (1) { } else { exit "+marked, api.ErrForm)
			}
		}
	}
}

// TestEnd holds that a text that ends too early is refused at its end, whatever blanks and remarks are there (P10.1).
func TestEnd(t *testing.T) {
	for s := range texts() {
		words := strings.Split(s, " ")
		for n := range words {
			short := strings.Join(words[:n], " ")
			if _, _, err := Parse(short); err == api.OK {
				continue
			}
			checkRefused(t, short+"^", api.ErrForm)
			checkRefused(t, short+" \t#}\n^", api.ErrForm)
			checkRefused(t, "\n\n"+short+"# \"^", api.ErrForm)
		}
	}
}

// TestScanFirst holds that what is no row of tokens is refused ahead of all else (P10.1).
func TestScanFirst(t *testing.T) {
	for _, ahead := range []string{"", "a ", "exit ", "} ", "if (1 ", strings.Repeat("if (1) {", 17), "expect { -ex \"${a}\" "} {
		for wrong, err := range map[string]api.Errno{"^A": api.ErrForm, "^00": api.ErrForm, `"^`: api.ErrForm, `"a\^q"`: api.ErrForm, "^9223372036854775808": api.ErrOver, "^99999999999999999999 A": api.ErrOver, "^$abcdefghi": api.ErrForm, "^abcdefghijklmno": api.ErrForm, "^-x": api.ErrForm, "^=": api.ErrForm} {
			checkRefused(t, ahead+wrong, err)
		}
	}
	for _, s := range []string{"a ", "exit ", "exit\n\n\n", "{ ", "# a ", "\xff"} {
		long := strings.Repeat(s, 2001)[:2001]
		checkRefused(t, long[:2000]+"^"+long[2000:], api.ErrLong)
		checkRefused(t, long[:2000]+"^"+strings.Repeat(s, 100000), api.ErrLong)
	}
	l := checkRead(t, strings.Repeat("exit ", 400), slices.Repeat([]api.Cmd{exit()}, 400)...)
	if n := Count(l); n != 400 || l[399].At != 1995 {
		t.Errorf("there are %d, the last one at %d", n, l[399].At)
	}
	checkRefused(t, strings.Repeat("exit ", 399)+"^exitf", api.ErrForm)
}

// TestConds holds what is said of the expressions within a text (P10.1).
func TestConds(t *testing.T) {
	times := strings.Repeat
	for ahead, behind := range map[string]string{"let a ": " exit", "if ": " {}", "while ": " {}", "if (1) {} while ": " {exit}", "expect { eof { if ": "{} } }"} {
		// A ( ahead of the expression doesn't count for it.
		for _, s := range []string{times("-", 64) + "1", times("(", 64) + "1" + times(")", 64), "$a" + times("+(1", 32) + times(")", 32), "1" + times("-1", 64), "(1" + times("||1", 63) + ")*2", "!(1" + times("+1", 63) + ")"} {
			if l, n, err := Parse(ahead + "(" + s + ")" + behind); !May(l) || n != 0 || err != api.OK {
				t.Errorf("with %.20q it is %d, error %d", s, n, err)
			}
		}
		// What 9 says, at that token.
		checkRefused(t, ahead+"("+times("-", 64)+"^- 1)"+behind, api.ErrDeep)
		checkRefused(t, ahead+"("+times("-", 64)+"^!", api.ErrDeep)
		checkRefused(t, ahead+"("+times("(", 64)+"^(1)"+behind, api.ErrDeep)
		checkRefused(t, ahead+"("+times("1+(", 32)+"1^*2", api.ErrDeep)
		checkRefused(t, ahead+"("+times("-", 64)+"^{", api.ErrForm)
		checkRefused(t, ahead+"("+times("(", 64)+"^)", api.ErrForm)
		checkRefused(t, ahead+"("+times("(", 64)+"^", api.ErrForm)
		checkRefused(t, ahead+"("+times("1-", 65)+"^", api.ErrForm)
		checkRefused(t, ahead+"("+times("1-", 65)+"^)"+behind, api.ErrForm)
		// What is read, but may not be.
		for _, s := range []string{"1" + times("-1", 65), "$a" + times("&&$b", 200), "-(1" + times("+1", 64) + ")", "(1" + times(" + 1", 64) + ") + 2", "!!" + "(0" + times("*$a", 63) + ")"} {
			checkRefused(t, ahead+"^("+s+")"+behind, api.ErrDeep)
			checkRefused(t, ahead+"^( "+s+" #\n)", api.ErrDeep)
			checkRefused(t, ahead+"^("+s+") )", api.ErrDeep)
			checkRefused(t, ahead+"("+s+"^", api.ErrForm)
			checkRefused(t, ahead+"("+s+" ^}", api.ErrForm)
			checkRefused(t, ahead+"("+s+" ^1)"+behind, api.ErrForm)
		}
	}
	// The first one counts.
	long := "1" + times("-1", 65)
	checkRefused(t, "let a ^("+long+") let b ("+long+")", api.ErrDeep)
	checkRefused(t, "let a (1) let b ^("+long+") }", api.ErrDeep)
	checkRefused(t, "let a ^b let a ("+long+")", api.ErrForm)
}

// TestBraces holds how many { may stand open, whatever they are for, and which one is too many (P10.1).
func TestBraces(t *testing.T) {
	times := strings.Repeat
	heads := map[string]int{ // which open so many
		"if (1) {": 1, "while (1) { exit ": 1, "proc p { ": 1, "if (1) {} else { exit ": 1, "exit exit if (1) {": 1,
		"expect { eof {": 2, "expect_before { -i 0 -ex \"{\" {} timeout { exit ": 2, "expect_after { default {} -re \"a\" { call p ": 2,
	}
	for head, opens := range heads {
		n := api.MaxBlock / opens
		full := times(head, n)
		ends := times(times("}", opens), n)
		if l, place, err := Parse(full + ends); !May(l) || place != 0 || err != api.OK {
			t.Errorf("%d of %q: %d, error %d", n, head, place, err)
		}
		for inner, behind := range map[string]string{"if (1) ": "{}", "while (1) ": "{", "proc p ": "{}}", "expect ": "{ eof {} }", "expect_before ": "{", "expect_after ": "{ 1"} {
			checkRefused(t, full+inner+"^"+behind, api.ErrDeep)
			checkRefused(t, full+inner+"^"+behind+ends, api.ErrDeep)
			checkRefused(t, full+"exit "+inner+"^"+behind+" else", api.ErrDeep)
			// Where none may stand there is none too many.
			checkRefused(t, full+inner+"^", api.ErrForm)
			checkRefused(t, full+inner+"^exit {", api.ErrForm)
			checkRefused(t, full+inner+"^}", api.ErrForm)
		}
		checkRefused(t, full+"^{", api.ErrForm)
		checkRefused(t, full+"if (^{", api.ErrForm)
		checkRefused(t, full+"if (1) ^(", api.ErrForm)
		// With one fewer, RULES have room, but no BLOCK within them.
		if opens == 1 {
			fewer := times(head, n-1)
			checkRefused(t, fewer+"expect { eof ^{} }", api.ErrDeep)
			checkRefused(t, fewer+"expect { -i 1 -ex \"a\" ^{", api.ErrDeep)
			checkRefused(t, fewer+"expect { ^{", api.ErrForm)
			checkRefused(t, fewer+"expect { eof ^}", api.ErrForm)
			checkRefused(t, fewer+"if (1) {} else { while (1) ^{} }", api.ErrDeep)
			checkRefused(t, fewer+"if (1) {} else {} if (1) { exit } else { exit } ^) ", api.ErrForm)
			checkRead(t, times("if (0) {", n-1)+"if (1) {} else {exit}"+times("}", n-1), nested(n-1, otherwise(when(num(1)), exit()))...)
		}
	}
	// Those that are closed count no longer.
	checkRead(t, times("if (0) {}", 100), slices.Repeat([]api.Cmd{when(num(0))}, 100)...)
	checkRead(t, times("expect {eof {} timeout {}}", 70), slices.Repeat([]api.Cmd{expect(rule(api.RuleEof), rule(api.RuleTimeout))}, 70)...)
}

// nested are the commands l within n others.
func nested(n int, l ...api.Cmd) []api.Cmd {
	for range n {
		l = []api.Cmd{when(num(0), l...)}
	}
	return l
}

// checkMayNot holds that l may not be.
func checkMayNot(t *testing.T, l []api.Cmd) {
	t.Helper()
	if s, err := Print(l); May(l) || s != "" || err != api.ErrArg {
		t.Errorf("of %.200v May is %v, Print %.40q, error %d", l, May(l), s, err)
	}
}

// wrongs are commands that may not be, each by another field than the one next to it.
func wrongs() []api.Cmd {
	all := []api.Cmd{{}, {Kind: -1}, {Kind: 17}, {Kind: math.MaxInt}, {Kind: math.MinInt}, {Name: "a"}, {Kind: 17, Name: "a"}}
	for kind := api.CmdSet; kind <= api.CmdExit; kind++ {
		_, form := formOf(kind)
		c := api.Cmd{Kind: kind}
		if form&aName != 0 {
			for _, c.Name = range []string{"", "A", "1", "0", "9", "_a", "a b", "a-", "abcdefghi", "exp_continue", "$a", "a\n", "\xff", "}"} {
				all = append(all, c)
			}
			c.Name = "a"
		}
		if form&aText != 0 {
			for _, c.Parts = range [][]api.Part{{{}}, {{Name: "A"}}, {{Text: "a"}, {Text: "b"}}, {{Name: "a", Text: "b"}}, {{Name: "abcdefghi"}}} {
				all = append(all, c)
			}
			c.Parts = nil
		}
		if form&aNumber != 0 {
			n := c
			n.N = math.MinInt64
			all = append(all, n)
			if kind != api.CmdIncr {
				n.N = -2
				all = append(all, n)
			}
			if kind != api.CmdIncr && kind != api.CmdTimeout {
				n.N = -1
				all = append(all, n)
			}
		}
		if form&aCond != 0 {
			for _, c.Cond = range []api.Expr{num(-1), variable("A"), variable(""), {Kind: 5}, {Kind: -1}, {Op: "+"}, bin(num(1), "=", num(2)), {Kind: api.ExprNeg}, {Kids: []api.Expr{num(1)}}} {
				all = append(all, c)
			}
			c.Cond = num(1)
		}
		if form&someRules != 0 {
			all = append(all, c)
			c.Rules = []api.Rule{}
			all = append(all, c)
			for _, r := range wrongRules() {
				for _, c.Rules = range [][]api.Rule{{r}, {rule(api.RuleEof), r}, {r, rule(api.RuleEof)}, {rule(api.RuleTimeout, expect(r))}} {
					all = append(all, c)
				}
			}
			c.Rules = []api.Rule{rule(api.RuleEof)}
		}
		all = append(all, foreign(c, form)...)
	}
	return all
}

// foreign are commands like c, which may be, each with a field that it may not have.
func foreign(c api.Cmd, form int) []api.Cmd {
	var all []api.Cmd
	add := func(piece int, d api.Cmd) {
		if form&piece == 0 {
			all = append(all, d)
		}
	}
	d := c
	d.Name = "a"
	add(aName, d)
	for _, n := range []int64{1, -1} {
		d = c
		d.N = n
		add(aNumber, d)
	}
	d = c
	d.Parts = text("x")
	add(aText, d)
	for _, e := range []api.Expr{num(1), variable("a"), {Kind: api.ExprNeg}, {Op: "+"}, {Name: "a"}, {Kids: []api.Expr{{}}}} {
		d = c
		d.Cond = e
		add(aCond, d)
	}
	for _, l := range [][]api.Cmd{{exit()}, {{}}} {
		d = c
		d.Body = l
		add(aBlock, d)
		d = c
		d.Else = l
		add(anElse, d)
	}
	for _, r := range []api.Rule{rule(api.RuleEof), {}} {
		d = c
		d.Rules = []api.Rule{r}
		add(someRules, d)
	}
	return all
}

// wrongRules are rules that may not be.
func wrongRules() []api.Rule {
	all := []api.Rule{{}, {Peer: -1}, {Kind: -1, Peer: -1}, {Kind: 5, Peer: -1}, {Kind: math.MaxInt, Peer: -1}, {Kind: 5}, {Kind: math.MinInt}}
	for _, kind := range []int{-1, 3, math.MaxInt, math.MinInt} {
		all = append(all, pattern(kind, "a"), of(0, pattern(kind, "")))
	}
	for _, peer := range []int64{-2, -3, math.MinInt64} {
		all = append(all, of(peer, pattern(api.Exact, "a")), of(peer, rule(api.RuleEof)))
	}
	for _, kind := range []int{api.RuleTimeout, api.RuleDefault} {
		for _, peer := range []int64{-2, 0, 1, math.MaxInt64, math.MinInt64} {
			all = append(all, of(peer, rule(kind)))
		}
	}
	for kind := api.RuleTimeout; kind <= api.RuleDefault; kind++ {
		for _, p := range []api.Pattern{{Text: "a"}, {Kind: api.Shell}, {Kind: api.Regex, Text: "a"}, {Kind: -1}} {
			r := rule(kind)
			r.Pattern = p
			all = append(all, r)
		}
	}
	for _, c := range []api.Cmd{{}, call("A"), when(num(-1)), expect()} {
		all = append(all, pattern(api.Exact, "a", c), rule(api.RuleEof, c), rule(api.RuleTimeout, exit(), c), rule(api.RuleDefault, c, exit()))
	}
	return all
}

// TestMayNot holds what may not be, by itself, among others and within others (P10.1, P0).
func TestMayNot(t *testing.T) {
	for _, c := range wrongs() {
		for _, l := range [][]api.Cmd{
			{c}, {exit(), c}, {c, exit()}, {when(num(1), c)}, {when(num(1), exit(), c, exit())}, {otherwise(when(num(1)), c)}, {otherwise(when(num(1), c), exit())}, {{Kind: api.CmdWhile, Cond: num(1), Body: []api.Cmd{c}}}, {{Kind: api.CmdProc, Name: "p", Body: []api.Cmd{c}}}, {expect(rule(api.RuleEof, c))}, {expect(pattern(api.Shell, "*"), rule(api.RuleEof, exit(), c))}, nested(14, c),
		} {
			checkMayNot(t, l)
		}
	}
}

// TestEmptyLists holds that an empty list is none, be it nil or not, and that places count nothing where it is asked what may be (P10.1, R4).
func TestEmptyLists(t *testing.T) {
	for s, l := range texts() {
		full := filled(l)
		if got, err := Print(full); got != s || err != api.OK || !May(full) || !Same(l, full) || !Same(full, l) || Count(l) != Count(full) {
			t.Errorf("with empty lists %q is %q, error %d", s, got, err)
		}
	}
}

// filled are the commands l, and all within, with an empty list for each nil, and with places.
func filled(l []api.Cmd) []api.Cmd {
	out := []api.Cmd{}
	for _, c := range l {
		c.At = -7
		c.Parts = append([]api.Part{}, c.Parts...)
		c.Cond.Kids = append([]api.Expr{}, c.Cond.Kids...)
		c.Body, c.Else = filled(c.Body), filled(c.Else)
		rules := []api.Rule{}
		for _, r := range c.Rules {
			r.At, r.Body = math.MaxInt, filled(r.Body)
			rules = append(rules, r)
		}
		c.Rules = rules
		out = append(out, c)
	}
	return out
}

// TestNest holds how many { may stand open in what is printed (P10.1).
func TestNest(t *testing.T) {
	heads := map[string]func(api.Cmd) api.Cmd{
		"if":     func(c api.Cmd) api.Cmd { return when(num(1), c) },
		"else":   func(c api.Cmd) api.Cmd { return otherwise(when(num(1)), c) },
		"while":  func(c api.Cmd) api.Cmd { return api.Cmd{Kind: api.CmdWhile, Cond: num(0), Body: []api.Cmd{exit(), c}} },
		"proc":   func(c api.Cmd) api.Cmd { return api.Cmd{Kind: api.CmdProc, Name: "p", Body: []api.Cmd{c, exit()}} },
		"expect": func(c api.Cmd) api.Cmd { return expect(rule(api.RuleEof), rule(api.RuleTimeout, c)) },
		"after": func(c api.Cmd) api.Cmd {
			return api.Cmd{Kind: api.CmdAfter, Rules: []api.Rule{pattern(api.Exact, "", c)}}
		},
	}
	for name, within := range heads {
		n := 16
		if name == "expect" || name == "after" {
			n = 8
		}
		c := exit()
		for range n {
			c = within(c)
		}
		s, err := Print([]api.Cmd{c})
		if !May([]api.Cmd{c}) || err != api.OK {
			t.Errorf("%d of %s may not be", n, name)
		}
		checkRead(t, s, c)
		for _, outer := range heads {
			checkMayNot(t, []api.Cmd{outer(c)})
			checkMayNot(t, []api.Cmd{exit(), outer(c), exit()})
		}
	}
	for _, l := range [][]api.Cmd{nested(16), nested(16, exit()), nested(15, when(num(1))), nested(14, expect(rule(api.RuleEof))), nested(14, otherwise(when(num(1)), when(num(2))))} {
		if !May(l) {
			t.Errorf("%v may not be", l)
		}
	}
	checkMayNot(t, nested(17))
	checkMayNot(t, nested(16, when(num(1))))
	checkMayNot(t, nested(16, expect(rule(api.RuleEof))))
	checkMayNot(t, nested(15, expect(rule(api.RuleEof))))
	checkMayNot(t, nested(15, otherwise(when(num(1)), when(num(2)))))
	checkMayNot(t, nested(15, expect()))
	// What may not be is found, though it stands within itself.
	l := []api.Cmd{exit(), when(num(1)), exit()}
	l[1].Body = l
	checkMayNot(t, l)
	l = []api.Cmd{expect(rule(api.RuleEof))}
	l[0].Rules[0].Body = l
	checkMayNot(t, l)
}

// TestDeepConds holds that what is printed is read to itself, unless its expressions stand too deeply (P10.2).
func TestDeepConds(t *testing.T) {
	for n := range 66 {
		left, right := num(1), num(1)
		for range n {
			left, right = bin(left, "+", num(1)), bin(num(1), "+", right)
		}
		if n == 65 {
			checkMayNot(t, []api.Cmd{when(left)})
			checkMayNot(t, []api.Cmd{when(right)})
			continue
		}
		s, err := Print([]api.Cmd{when(left)})
		if err != api.OK {
			t.Fatalf("%d ops: error %d", n, err)
		}
		checkRead(t, s, when(left))
		s, err = Print([]api.Cmd{when(right)})
		if err != api.OK {
			t.Fatalf("%d ops: error %d", n, err)
		}
		if n <= 32 {
			checkRead(t, s, when(right))
			continue
		}
		place := len("if ( ") + 32*len("1 + ( ") + len("1 ")
		checkRefused(t, s[:place]+"^"+s[place:], api.ErrDeep)
	}
}

// TestLong holds how many bytes a text may have, and that what may not be comes ahead of what is too long (P10.1).
func TestLong(t *testing.T) {
	send := func(n int) api.Cmd { return api.Cmd{Kind: api.CmdSend, Parts: text(strings.Repeat("a", n))} }
	expects := func(n int) api.Cmd { return expect(pattern(api.Exact, strings.Repeat("a", n))) }
	for n, l := range map[int][]api.Cmd{
		1999: slices.Repeat([]api.Cmd{exit()}, 400), 2000: {send(1993)}, 1998: {send(1986), exit()}, 1997: {expects(1997 - len(`expect { -ex "" { } }`))},
	} {
		if s, err := Print(l); len(s) != n || err != api.OK {
			t.Errorf("of %d bytes Print has %d, error %d", n, len(s), err)
		}
	}
	for _, l := range [][]api.Cmd{{send(1994)}, {send(1989), exit()}, {send(100000)}, slices.Repeat([]api.Cmd{exit()}, 401), slices.Repeat([]api.Cmd{exit()}, 100000), {expects(1980)}, {when(num(1), send(1981))}} {
		if s, err := Print(l); !May(l) || s != "" || err != api.ErrLong {
			t.Errorf("of %d May is %v, Print %.40q, error %d", len(l), May(l), s, err)
		}
		checkMayNot(t, append(slices.Clone(l), call("A")))
		checkMayNot(t, append([]api.Cmd{when(num(1), api.Cmd{})}, l...))
	}
}

// TestSame holds what is the same: all but where it stands counts (P10.1).
func TestSame(t *testing.T) {
	all := append(wrongs(), api.Cmd{Kind: api.CmdExit, Else: []api.Cmd{exit()}}, api.Cmd{Kind: 99, Rules: []api.Rule{of(7, pattern(9, "a"))}})
	for _, c := range []api.Cmd{{}, exit(), expect(pattern(api.Exact, "a", exit())), otherwise(when(num(1), exit()), again())} {
		all = append(all, c)
		for _, d := range []api.Cmd{{Kind: 1}, {Name: "b"}, {N: 5}, {Parts: text("a")}, {Parts: text("b")}, {Parts: []api.Part{{Name: "a"}}}, {Cond: num(7)}, {Cond: bin(num(1), "+", num(1))}, {Cond: bin(num(1), "+", num(2))}, {Body: []api.Cmd{call("a")}}, {Else: []api.Cmd{call("a")}}, {Rules: []api.Rule{{}}}, {Rules: []api.Rule{{Kind: 2}}}, {Rules: []api.Rule{{Peer: 1}}}, {Rules: []api.Rule{{Pattern: api.Pattern{Kind: 1}}}}, {Rules: []api.Rule{{Pattern: api.Pattern{Text: "a"}}}}, {Rules: []api.Rule{{Body: []api.Cmd{exit()}}}}, {Rules: []api.Rule{{Body: []api.Cmd{again()}}}}, {Rules: []api.Rule{{}, {}}}} {
			e := c
			e.Kind, e.N, e.Name = c.Kind+d.Kind, c.N+d.N, c.Name+d.Name
			e.Parts, e.Body, e.Else, e.Rules = slices.Concat(c.Parts, d.Parts), slices.Concat(c.Body, d.Body), slices.Concat(c.Else, d.Else), slices.Concat(c.Rules, d.Rules)
			if d.Cond.Kind != 0 || d.Cond.N != 0 {
				e.Cond = d.Cond
			}
			all = append(all, e, when(num(1), e), when(num(1), exit(), e), otherwise(when(num(1)), e), expect(rule(api.RuleEof, e)))
		}
	}
	var bares [][]api.Cmd
	for _, a := range all {
		l := []api.Cmd{a}
		bares = append(bares, bare(l))
		if moved := filled(l); !Same(l, moved) || !Same(moved, l) || Same(l, nil) || Same(nil, l) || Same(l, append(moved, a)) || Same(append(moved, a), l) {
			t.Errorf("%v isn't the same as itself, or is as another one", a)
		}
	}
	for i, a := range all {
		for j, b := range all[:i] {
			x, y := []api.Cmd{exit(), a}, []api.Cmd{exit(), b}
			if want := reflect.DeepEqual(bares[i], bares[j]); Same(x, y) != want || Same(y, x) != want {
				t.Fatalf("Same(%v, %v) is not %v", a, b, want)
			}
		}
	}
	if !Same(nil, nil) || !Same(nil, []api.Cmd{}) || !Same([]api.Cmd{}, nil) {
		t.Error("none is not none")
	}
}

// TestCount holds how many commands there are, also of those that may not be (P10.1).
func TestCount(t *testing.T) {
	for s, l := range texts() {
		n := 0
		for _, word := range strings.Fields(strings.NewReplacer("incr incr", "incr", "set set", "set", "proc else", "proc", "proc if", "proc", "call if", "call", "call call call p1_", "call call", "timeout { ", "").Replace(s)) {
			if kindOf(word) != 0 {
				n++
			}
		}
		if got := Count(l); got != n {
			t.Errorf("in %q there are %d, not %d", s, got, n)
		}
	}
	three := []api.Cmd{exit(), {}, {Kind: 99}}
	for want, l := range map[int][]api.Cmd{
		0: nil, 3: three, 4: {{Body: three}}, 5: {{Kind: api.CmdSet, Else: three}, {}}, 7: {{Body: three, Else: three}}, 8: {{}, {Rules: []api.Rule{{Body: three}, {}, {Kind: 9, Body: three}}}}, 10: {{Body: three, Else: three, Rules: []api.Rule{{Body: three}}}},
		11: {{Body: []api.Cmd{{Body: three}}, Else: []api.Cmd{{Rules: []api.Rule{{Body: []api.Cmd{{Else: three}}}}}}}, {}}, 1000: slices.Repeat([]api.Cmd{exit()}, 1000),
	} {
		if got := Count(l); got != want {
			t.Errorf("of %v there are %d, not %d", l, got, want)
		}
	}
	if Count([]api.Cmd{}) != 0 {
		t.Error("there are some in none")
	}
}

// TestDeepest holds that lists of any depth are gone through (P0).
func TestDeepest(t *testing.T) {
	const n = 1 << 16
	body, other, rules := []api.Cmd{exit()}, []api.Cmd{exit()}, []api.Cmd{exit()}
	for range n {
		body, other, rules = []api.Cmd{when(num(1), body...)}, []api.Cmd{otherwise(when(num(1)), other...)}, []api.Cmd{expect(rule(api.RuleEof, rules...))}
	}
	for _, l := range [][]api.Cmd{body, other, rules} {
		checkMayNot(t, l)
		if Count(l) != n+1 || !Same(l, filled(l)) || Same(body, other) || Same(body, body[0].Body) {
			t.Errorf("there are %d", Count(l))
		}
	}
}

// TestOwn holds that what is handed in stays as it was, and that what is answered shares nothing (R4).
func TestOwn(t *testing.T) {
	for s, l := range texts() {
		before := filled(l)
		kept := filled(l)
		May(before)
		Print(before)
		Same(before, before)
		Count(before)
		if !reflect.DeepEqual(before, kept) {
			t.Errorf("%q is changed", s)
		}
		a, _, _ := Parse(s)
		b, _, _ := Parse(s)
		spoil(a)
		if !Same(b, l) {
			t.Errorf("%q is shared", s)
		}
	}
	s := `if (1) {send "a" send "a"} else {send "a"}`
	l, _, _ := Parse(s)
	l[0].Body = append(l[0].Body, exit())
	l[0].Body[0].Parts = append(l[0].Body[0].Parts, api.Part{Name: "b"})
	l[0].Body[0].Parts[0].Text = "c"
	if got, _ := Print(l); got != `if ( 1 ) { send "c${b}" send "a" exit } else { send "a" }` {
		t.Errorf("it is %q", got)
	}
}

// spoil changes all that is within l.
func spoil(l []api.Cmd) {
	for i := range l {
		c := &l[i]
		for j := range c.Parts {
			c.Parts[j] = api.Part{Name: "z"}
		}
		for j := range c.Cond.Kids {
			c.Cond.Kids[j] = num(77)
		}
		spoil(c.Body)
		spoil(c.Else)
		for j := range c.Rules {
			spoil(c.Rules[j].Body)
			c.Rules[j] = api.Rule{}
		}
		*c = api.Cmd{}
	}
}
