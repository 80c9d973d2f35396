package code

import (
	"math"
	"reflect"
	"slices"
	"strconv"
	"strings"
	"testing"

	"souffleur/api"
	"souffleur/script"
)

// read are the commands of s, which is a script.
func read(t testing.TB, s string) []api.Cmd {
	t.Helper()
	l, place, err := script.Parse(s)
	if err != api.OK {
		t.Fatalf("%q is no script: error %d at %d", s, err, place)
	}
	return l
}

// compiled is the code of s, which is a script that is well formed.
func compiled(t testing.TB, s string) api.Code {
	t.Helper()
	c, err := Compile(read(t, s))
	if err != api.OK {
		t.Fatalf("Compile(%q) answers error %d", s, err)
	}
	return c
}

// watchLine tells a watch as a line.
func watchLine(w api.Watch) string {
	own := ""
	if w.Own {
		own = " own"
	}
	return strconv.Itoa(w.Kind) + " peer " + strconv.Itoa(w.Peer) + " to " + strconv.Itoa(w.To) + own
}

// checkLines holds that Text tells the code of s as the lines, ", " between them.
func checkLines(t *testing.T, s, lines string) {
	t.Helper()
	if got := strings.Join(Text(compiled(t, s)), ", "); got != lines {
		t.Errorf("the code of %s is\n%s, not\n%s", s, got, lines)
	}
}

// checkWatches holds that the watches of s are as the lines have them, ", " between them, and that the instructions have the lists, by their places.
func checkWatches(t *testing.T, s, lines string, lists map[int][]int) {
	t.Helper()
	c := compiled(t, s)
	var told []string
	for _, w := range c.Watches {
		told = append(told, watchLine(w))
	}
	if got := strings.Join(told, ", "); got != lines {
		t.Errorf("the watches of %s are\n%s, not\n%s", s, got, lines)
	}
	for place, x := range c.Instrs {
		if !slices.Equal(x.List, lists[place]) {
			t.Errorf("in the code of %s the list at %d is %v, not %v", s, place, x.List, lists[place])
		}
	}
}

// TestPlain holds the instructions of commands that nothing stands within, with all that they have (P12.1).
func TestPlain(t *testing.T) {
	text := []api.Part{{Text: "x"}, {Name: "b"}, {Text: "\n"}}
	cond := api.Expr{Kind: api.ExprBin, Op: "+", Kids: []api.Expr{{N: 1}, {Kind: api.ExprNot, Kids: []api.Expr{{Kind: api.ExprVar, Name: "b"}}}}}
	for s, want := range map[string]api.Instr{
		`set a "x${b}\n"`:              {Op: api.OpSet, Name: "a", Parts: text},
		`set b ""`:                     {Op: api.OpSet, Name: "b"},
		"let a (1 + !$b)":              {Op: api.OpLet, Name: "a", Cond: cond},
		"let a (7)":                    {Op: api.OpLet, Name: "a", Cond: api.Expr{N: 7}},
		"incr a 5":                     {Op: api.OpIncr, Name: "a", N: 5},
		"incr a - 5":                   {Op: api.OpIncr, Name: "a", N: -5},
		"incr a 9223372036854775807":   {Op: api.OpIncr, Name: "a", N: math.MaxInt64},
		`send "x${b}\n"`:               {Op: api.OpSend, Parts: text},
		"spawn 0":                      {Op: api.OpSpawn},
		"spawn 7":                      {Op: api.OpSpawn, A: 7},
		"use 3":                        {Op: api.OpUse, A: 3},
		"timeout 0":                    {Op: api.OpTimeout},
		"timeout 9":                    {Op: api.OpTimeout, A: 9},
		"timeout never":                {Op: api.OpTimeout, A: -1},
		"exit":                         {Op: api.OpExit},
		"incr v2345678 0":              {Op: api.OpIncr, Name: "v2345678"},
		"incr a - 9223372036854775807": {Op: api.OpIncr, Name: "a", N: -math.MaxInt64},
	} {
		c := compiled(t, s)
		if len(c.Instrs) != 2 || len(c.Watches) != 0 {
			t.Errorf("the code of %s is %+v", s, c)
			continue
		}
		if got := trimmed(c.Instrs[0]); !reflect.DeepEqual(got, want) {
			t.Errorf("the instruction of %s is %+v, not %+v", s, got, want)
		}
		if end := c.Instrs[1]; end.Op != api.OpExit || end.A != 0 {
			t.Errorf("behind %s stands %+v", s, end)
		}
	}
}

// trimmed is x, where each empty list is nil.
func trimmed(x api.Instr) api.Instr {
	x.Parts, x.List, x.Cond = append([]api.Part(nil), x.Parts...), append([]int(nil), x.List...), trimmedExpr(x.Cond)
	return x
}

func trimmedExpr(x api.Expr) api.Expr {
	var kids []api.Expr
	for _, kid := range x.Kids {
		kids = append(kids, trimmedExpr(kid))
	}
	x.Kids = kids
	return x
}

// TestLines holds where the instructions stand and lead (P12.1).
func TestLines(t *testing.T) {
	for s, lines := range map[string]string{
		"":          "0 exit 0",
		"exit":      "0 exit 0, 1 exit 0",
		"exit exit": "0 exit 0, 1 exit 0, 2 exit 0",
		`timeout never set a "" let a (1) incr a 1 send "" spawn 2 use 5 timeout 3`: "0 timeout -1, 1 set 0, 2 let 0, 3 incr 0, 4 send 0, 5 spawn 2, 6 use 5, 7 timeout 3, 8 exit 0",

		"if (1) {exit}":                       "0 unless 2, 1 exit 0, 2 exit 0",
		"if (1) {}":                           "0 unless 1, 1 exit 0",
		"if (1) {} else {}":                   "0 unless 1, 1 exit 0",
		"if (1) {} else {exit}":               "0 unless 2, 1 jump 3, 2 exit 0, 3 exit 0",
		"if (1) {use 1} else {use 2 use 3}":   "0 unless 3, 1 use 1, 2 jump 5, 3 use 2, 4 use 3, 5 exit 0",
		"if (1) {use 1} else {} use 2":        "0 unless 2, 1 use 1, 2 use 2, 3 exit 0",
		"if (1) {if (2) {} else {use 1}}":     "0 unless 4, 1 unless 3, 2 jump 4, 3 use 1, 4 exit 0",
		"if (1) {} else {if (2) {use 1}}":     "0 unless 2, 1 jump 4, 2 unless 4, 3 use 1, 4 exit 0",
		"use 1 if (1) {use 2} if (2) {use 3}": "0 use 1, 1 unless 3, 2 use 2, 3 unless 5, 4 use 3, 5 exit 0",

		"while (1) {}":                                  "0 unless 2, 1 jump 0, 2 exit 0",
		"while (1) {use 1 use 2} use 3":                 "0 unless 4, 1 use 1, 2 use 2, 3 jump 0, 4 use 3, 5 exit 0",
		"use 1 while (1) {while (2) {use 2}}":           "0 use 1, 1 unless 6, 2 unless 5, 3 use 2, 4 jump 2, 5 jump 1, 6 exit 0",
		"while (1) {if (2) {use 1} else {use 2}}":       "0 unless 6, 1 unless 4, 2 use 1, 3 jump 5, 4 use 2, 5 jump 0, 6 exit 0",
		"if (1) {while (2) {}} else {while (3) {exit}}": "0 unless 4, 1 unless 3, 2 jump 1, 3 jump 7, 4 unless 7, 5 exit 0, 6 jump 4, 7 exit 0",

		"proc p {}":             "0 exit 0, 1 return 0",
		"call p proc p {}":      "0 call 2, 1 exit 0, 2 return 0",
		"proc p {use 1} call p": "0 call 2, 1 exit 0, 2 use 1, 3 return 0",
		"use 1 proc p {use 2} use 3 proc q {} use 4":           "0 use 1, 1 use 3, 2 use 4, 3 exit 0, 4 use 2, 5 return 0, 6 return 0",
		"call q call p proc p {call q} proc q {call p call q}": "0 call 5, 1 call 3, 2 exit 0, 3 call 5, 4 return 0, 5 call 3, 6 call 5, 7 return 0",
		"proc q {if (1) {call p} else {exit}} proc p {call p}": "0 exit 0, 1 unless 4, 2 call 6, 3 jump 5, 4 exit 0, 5 return 0, 6 call 6, 7 return 0",
		"if (1) {call p} proc p {} while (2) {call p}":         "0 unless 2, 1 call 6, 2 unless 5, 3 call 6, 4 jump 2, 5 exit 0, 6 return 0",
		"proc p {while (1) {}} call p proc q {use 7} call q":   "0 call 3, 1 call 6, 2 exit 0, 3 unless 5, 4 jump 3, 5 return 0, 6 use 7, 7 return 0",

		"expect {eof {}}":                                   "0 expect 0, 1 jump 3, 2 jump 3, 3 exit 0",
		"expect {eof {use 1}}":                              "0 expect 0, 1 jump 4, 2 use 1, 3 jump 4, 4 exit 0",
		"use 1 expect {eof {} timeout {use 2}} use 3":       "0 use 1, 1 expect 0, 2 jump 6, 3 jump 6, 4 use 2, 5 jump 6, 6 use 3, 7 exit 0",
		"expect_before {eof {}}":                            "0 before 0, 1 jump 3, 2 return 0, 3 exit 0",
		"expect_after {eof {use 1} default {}}":             "0 after 0, 1 jump 5, 2 use 1, 3 return 0, 4 return 0, 5 exit 0",
		"expect {eof {expect {timeout {}}} default {exit}}": "0 expect 0, 1 jump 8, 2 expect 0, 3 jump 5, 4 jump 5, 5 jump 8, 6 exit 0, 7 jump 8, 8 exit 0",
	} {
		checkLines(t, s, lines)
	}
}

// TestAgain holds where an exp_continue leads (P12.1).
func TestAgain(t *testing.T) {
	for s, lines := range map[string]string{
		"expect {eof {exp_continue}}":                                                "0 expect 0, 1 jump 4, 2 jump 0, 3 jump 4, 4 exit 0",
		"use 1 expect {eof {} timeout {exp_continue}}":                               "0 use 1, 1 expect 0, 2 jump 6, 3 jump 6, 4 jump 1, 5 jump 6, 6 exit 0",
		"expect_before {eof {exp_continue}}":                                         "0 before 0, 1 jump 4, 2 again 0, 3 return 0, 4 exit 0",
		"expect_after {eof {exp_continue}}":                                          "0 after 0, 1 jump 4, 2 again 0, 3 return 0, 4 exit 0",
		"use 1 expect {eof {if (1) {exp_continue} else {while (2) {exp_continue}}}}": "0 use 1, 1 expect 0, 2 jump 10, 3 unless 6, 4 jump 1, 5 jump 9, 6 unless 9, 7 jump 1, 8 jump 6, 9 jump 10, 10 exit 0",
		"expect_after {eof {while (1) {exp_continue}}}":                              "0 after 0, 1 jump 6, 2 unless 5, 3 again 0, 4 jump 2, 5 return 0, 6 exit 0",
		// The innermost rule counts.
		"use 1 expect {eof {expect {eof {exp_continue}} exp_continue}}":  "0 use 1, 1 expect 0, 2 jump 9, 3 expect 0, 4 jump 7, 5 jump 3, 6 jump 7, 7 jump 1, 8 jump 9, 9 exit 0",
		"expect {eof {expect_before {eof {exp_continue}} exp_continue}}": "0 expect 0, 1 jump 8, 2 before 0, 3 jump 6, 4 again 0, 5 return 0, 6 jump 0, 7 jump 8, 8 exit 0",
		"expect_after {eof {expect {eof {exp_continue}} exp_continue}}":  "0 after 0, 1 jump 8, 2 expect 0, 3 jump 6, 4 jump 2, 5 jump 6, 6 again 0, 7 return 0, 8 exit 0",
		"proc p {expect {eof {exp_continue}}}":                           "0 exit 0, 1 expect 0, 2 jump 5, 3 jump 1, 4 jump 5, 5 return 0",
	} {
		checkLines(t, s, lines)
	}
}

// TestWatches holds the watches, their numbers, and where they lead (P12.1).
func TestWatches(t *testing.T) {
	checkWatches(t, "exit", "", nil)
	checkWatches(t, "expect {eof {}}", "3 peer -1 to 2 own", map[int][]int{0: {0}})
	checkWatches(t, "use 1 expect {-i 7 eof {} timeout {use 1} default {exp_continue}}", "3 peer 7 to 3 own, 2 peer -1 to 4 own, 4 peer -1 to 6 own", map[int][]int{1: {0, 1, 2}})
	checkWatches(t, "expect_before {eof {}} expect_after {timeout {use 1} -i 0 eof {}}", "3 peer -1 to 2, 2 peer -1 to 5, 3 peer 0 to 7", map[int][]int{0: {0}, 3: {1, 2}})
	// Those of one command have their numbers ahead of all within.
	checkWatches(t, "expect {eof {expect {timeout {}}} default {}}", "3 peer -1 to 2 own, 4 peer -1 to 6 own, 2 peer -1 to 4 own", map[int][]int{0: {0, 1}, 2: {2}})
	checkWatches(t, "expect_after {timeout {use 1 expect_before {eof {} default {}}}} expect {default {}}", "2 peer -1 to 2, 3 peer -1 to 5, 4 peer -1 to 6, 4 peer -1 to 10 own", map[int][]int{0: {0}, 3: {1, 2}, 8: {3}})
	// Those of a proc come behind, wherever it stands.
	checkWatches(t, "proc p {expect {timeout {}}} expect {eof {}} proc q {expect_after {default {}}}", "3 peer -1 to 2 own, 2 peer -1 to 6 own, 4 peer -1 to 10", map[int][]int{0: {0}, 4: {1}, 8: {2}})
	// In an if with both they stand in its order.
	checkWatches(t, "if (1) {expect {eof {}}} else {expect {timeout {}}}", "3 peer -1 to 3 own, 2 peer -1 to 7 own", map[int][]int{1: {0}, 5: {1}})

	s := ` expect {-ex "a b" {} -i 3 -gl "*" {exit}  -re "a|b" {}} expect_after {-ex "" {}}`
	want := []api.Watch{
		{Kind: api.RulePattern, Peer: -1, Pattern: api.Pattern{Kind: api.Exact, Text: "a b"}, To: 2, Own: true, At: strings.Index(s, "-ex")},
		{Kind: api.RulePattern, Peer: 3, Pattern: api.Pattern{Kind: api.Shell, Text: "*"}, To: 3, Own: true, At: strings.Index(s, "-i")},
		{Kind: api.RulePattern, Peer: -1, Pattern: api.Pattern{Kind: api.Regex, Text: "a|b"}, To: 5, Own: true, At: strings.Index(s, "-re")},
		{Kind: api.RulePattern, Peer: -1, Pattern: api.Pattern{Kind: api.Exact}, To: 8, At: strings.LastIndex(s, "-ex")},
	}
	if got := compiled(t, s).Watches; !slices.Equal(got, want) {
		t.Errorf("the watches of %s are\n%+v, not\n%+v", s, got, want)
	}
}

// TestPlaces holds that a watch stands where its rule does, be it anywhere (P12.1).
func TestPlaces(t *testing.T) {
	for _, at := range []int{0, 1, -1, math.MaxInt, math.MinInt} {
		c, err := Compile([]api.Cmd{{Kind: api.CmdExpect, At: 5, Rules: []api.Rule{{Kind: api.RuleEof, Peer: -1, At: at}}}})
		if err != api.OK || len(c.Watches) != 1 || c.Watches[0].At != at {
			t.Errorf("Compile of a rule at %d is %+v, error %d", at, c, err)
		}
	}
}

// TestRefused holds that of what isn't well formed there is no code (P12.1, R5).
func TestRefused(t *testing.T) {
	for s, ok := range map[string]bool{
		"spawn 7": true, "spawn 8": false, "use 7": true, "use 8": false, "expect {-i 7 eof {}}": true, "expect {-i 8 eof {}}": false,
		"call p": false, "proc p {} proc p {}": false, "if (1) {proc p {}}": false, "exp_continue": false, "timeout 10": false, `expect {-re "(" {}}`: false, "expect {eof {} eof {}}": false,
		"exit exit if (1) {exp_continue}": false, "proc p {} expect {eof {call q}}": false,
		strings.Repeat("expect {eof {}}", 60): true, strings.Repeat("expect {eof {}}", 61): false,
	} {
		c, err := Compile(read(t, s))
		if ok != (err == api.OK) || !ok && err != api.ErrArg {
			t.Errorf("Compile(%.100q) answers error %d", s, err)
		}
		if !ok && (c.Instrs != nil || c.Watches != nil) {
			t.Errorf("Compile(%.100q) answers %v beside an error", s, c)
		}
	}
	deep := []api.Cmd{{Kind: api.CmdExit}}
	for range 60000 {
		deep = []api.Cmd{{Kind: api.CmdIf, Body: deep}}
	}
	for _, l := range [][]api.Cmd{{{}}, {{Kind: 17}}, {{Kind: -1}}, {{Kind: api.CmdExit, N: 1}}, {{Kind: api.CmdSet}}, {{Kind: api.CmdSpawn, N: -1}}, {{Kind: api.CmdExpect}}, {{Kind: api.CmdExit}, {Kind: api.CmdIf, Cond: api.Expr{Kind: 9}}}, deep} {
		if c, err := Compile(l); err != api.ErrArg || c.Instrs != nil || c.Watches != nil {
			t.Errorf("Compile of what is no script is %v, error %d", c, err)
		}
	}
	for _, l := range [][]api.Cmd{nil, {}} {
		if c, err := Compile(l); err != api.OK || len(c.Instrs) != 1 || c.Instrs[0].Op != api.OpExit || len(c.Watches) != 0 {
			t.Errorf("Compile(%v) is %v, error %d", l, c, err)
		}
	}
}

// TestText holds the lines of any code, with ones of no such names (P12.1, R6).
func TestText(t *testing.T) {
	names := strings.Fields("set let incr jump unless call return spawn use send timeout expect before after again exit")
	var c api.Code
	var want []string
	for i, name := range names {
		c.Instrs = append(c.Instrs, api.Instr{Op: i + 1, A: 10 * i, Name: "x", N: 3, List: []int{9}})
		want = append(want, strconv.Itoa(i)+" "+name+" "+strconv.Itoa(10*i))
	}
	for i, op := range []int{0, -1, 17, 18, math.MaxInt, math.MinInt} {
		c.Instrs = append(c.Instrs, api.Instr{Op: op, A: []int{-1, math.MaxInt, math.MinInt}[i%3]})
		want = append(want, strconv.Itoa(16+i)+[]string{" ? -1", " ? 9223372036854775807", " ? -9223372036854775808"}[i%3])
	}
	if got := Text(c); !slices.Equal(got, want) {
		t.Errorf("the lines are %q, not %q", got, want)
	}
	for _, c := range []api.Code{{}, {Instrs: []api.Instr{}}, {Watches: []api.Watch{{}}}} {
		if got := Text(c); len(got) != 0 {
			t.Errorf("Text(%v) is %q", c, got)
		}
	}
}

// TestMany holds a script of more commands than a text has room for (P12.1, P0).
func TestMany(t *testing.T) {
	var l []api.Cmd
	n := 100000
	for i := range n {
		name := "p" + strconv.FormatInt(int64(i), 36)
		l = append(l, api.Cmd{Kind: api.CmdCall, Name: name}, api.Cmd{Kind: api.CmdProc, Name: name})
	}
	c, err := Compile(l)
	if err != api.OK || len(c.Instrs) != 2*n+1 {
		t.Fatalf("there are %d instructions, error %d", len(c.Instrs), err)
	}
	for i, x := range c.Instrs[:n] {
		if x.Op != api.OpCall || x.A != n+1+i || c.Instrs[n+1+i].Op != api.OpReturn {
			t.Fatalf("at %d stands %v", i, x)
		}
	}
	if lines := Text(c); len(lines) != 2*n+1 || lines[n] != strconv.Itoa(n)+" exit 0" {
		t.Errorf("there are %d lines", len(lines))
	}
}

// TestKept holds that what is handed in is not changed, and that what is answered is the caller's own (R4, R7).
func TestKept(t *testing.T) {
	s := `set a "x${b}" let a (1 + !$b) send "y" if (-$c) {} while (!$d) {} expect {-ex "a" {send "z"} eof {}} expect_after {timeout {} eof {}}`
	l := read(t, s)
	c, _ := Compile(l)
	lines := Text(c)
	lines[0] = "x"
	spoil(c)
	if !reflect.DeepEqual(l, read(t, s)) {
		t.Error("the script is changed")
	}
	d, _ := Compile(l)
	if spoil(d); !reflect.DeepEqual(c, d) {
		t.Error("two codes of one script share something")
	}
	e, f := compiled(t, s), compiled(t, s)
	if Text(e); !reflect.DeepEqual(e, f) {
		t.Error("Text changes the code")
	}
	// A list that has room behind it must not be written on.
	l = append(make([]api.Cmd, 0, 9), l...)
	l[0].Parts = append(make([]api.Part, 0, 9), l[0].Parts...)
	g, _ := Compile(l)
	if more := append(g.Instrs[0].Parts, api.Part{Text: "w"}); len(more) != 3 || l[0].Parts[:3][2].Text != "" {
		t.Error("the parts of the script are shared")
	}
}

// spoil writes over all that stands in lists of c.
func spoil(c api.Code) {
	for i := range c.Instrs {
		x := &c.Instrs[i]
		for j := range x.Parts {
			x.Parts[j].Text += "?"
		}
		for j := range x.List {
			x.List[j] += 100
		}
		spoilExpr(x.Cond.Kids)
		x.A--
	}
	for i := range c.Watches {
		c.Watches[i].To--
	}
}

func spoilExpr(kids []api.Expr) {
	for i := range kids {
		kids[i].N += 7
		spoilExpr(kids[i].Kids)
	}
}
