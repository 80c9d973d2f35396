package code

import (
	"cmp"
	"math/rand"
	"reflect"
	"slices"
	"strconv"
	"strings"
	"testing"

	"souffleur/api"
	"souffleur/script"
	"souffleur/sense"
)

// sheet is a code whose instructions stand by their places, in any order of writing, and each rule with the place of the instruction that it is told by.
type sheet struct {
	instrs map[int]api.Instr
	rules  []sheetRule
	procs  map[string]int
}

type sheetRule struct {
	place, n int
	watch    api.Watch
}

// sizeOf is how many instructions those of l are.
func sizeOf(l []api.Cmd) int {
	n := 0
	for _, c := range l {
		switch c.Kind {
		case api.CmdProc:
		case api.CmdIf:
			n += 1 + sizeOf(c.Body) + sizeOf(c.Else)
			if len(c.Else) > 0 {
				n++
			}
		case api.CmdWhile:
			n += 2 + sizeOf(c.Body)
		default:
			n++
			for _, r := range c.Rules {
				n += 1 + sizeOf(r.Body)
			}
			if len(c.Rules) > 0 {
				n++
			}
		}
	}
	return n
}

// write writes those of l from the place at on; again is what an exp_continue there is.
func (x *sheet) write(l []api.Cmd, at int, again api.Instr) {
	for _, c := range l {
		behind := at + sizeOf([]api.Cmd{c})
		switch c.Kind {
		case api.CmdProc:
		case api.CmdIf:
			other := behind - sizeOf(c.Else)
			x.instrs[at] = api.Instr{Op: 5, A: other, Cond: c.Cond}
			x.write(c.Body, at+1, again)
			if other < behind {
				x.instrs[other-1] = api.Instr{Op: 4, A: behind}
				x.write(c.Else, other, again)
			}
		case api.CmdWhile:
			x.instrs[at] = api.Instr{Op: 5, A: behind, Cond: c.Cond}
			x.write(c.Body, at+1, again)
			x.instrs[behind-1] = api.Instr{Op: 4, A: at}
		case api.CmdExpect:
			x.writeRules(c, 12, at, api.Instr{Op: 4, A: at}, api.Instr{Op: 4, A: behind})
		case api.CmdBefore:
			x.writeRules(c, 13, at, api.Instr{Op: 15}, api.Instr{Op: 7})
		case api.CmdAfter:
			x.writeRules(c, 14, at, api.Instr{Op: 15}, api.Instr{Op: 7})
		case api.CmdAgain:
			x.instrs[at] = again
		case api.CmdCall:
			x.instrs[at] = api.Instr{Op: 6, A: x.procs[c.Name]}
		// Of all others the number of the kind is that of the instruction.
		case api.CmdSpawn, api.CmdUse, api.CmdTimeout:
			x.instrs[at] = api.Instr{Op: c.Kind, A: int(c.N)}
		default:
			x.instrs[at] = api.Instr{Op: c.Kind, Name: c.Name, Parts: c.Parts, Cond: c.Cond, N: c.N}
		}
		at = behind
	}
}

// writeRules writes c, whose rules have that exp_continue and that end.
func (x *sheet) writeRules(c api.Cmd, op, at int, again, end api.Instr) {
	x.instrs[at] = api.Instr{Op: op}
	x.instrs[at+1] = api.Instr{Op: 4, A: at + sizeOf([]api.Cmd{c})}
	body := at + 2
	for i, r := range c.Rules {
		x.rules = append(x.rules, sheetRule{at, i, api.Watch{Kind: r.Kind, Peer: int(r.Peer), Pattern: r.Pattern, To: body, Own: op == 12, At: r.At}})
		x.write(r.Body, body, again)
		body += sizeOf(r.Body) + 1
		x.instrs[body-1] = end
	}
}

// codeOf is the code of l, which is well formed, as the chapter's words have it.
func codeOf(l []api.Cmd) api.Code {
	x := &sheet{instrs: map[int]api.Instr{}, procs: map[string]int{}}
	at := sizeOf(l)
	x.instrs[at] = api.Instr{Op: 16}
	at++
	var bodies []api.Cmd
	for _, c := range l {
		if c.Kind == api.CmdProc {
			x.procs[c.Name] = at
			at += sizeOf(c.Body) + 1
			bodies = append(bodies, c)
		}
	}
	x.write(l, 0, api.Instr{})
	for _, c := range bodies {
		x.write(c.Body, x.procs[c.Name], api.Instr{})
		x.instrs[x.procs[c.Name]+sizeOf(c.Body)] = api.Instr{Op: 7}
	}
	slices.SortFunc(x.rules, func(a, b sheetRule) int { return cmp.Or(cmp.Compare(a.place, b.place), cmp.Compare(a.n, b.n)) })
	c := api.Code{Instrs: make([]api.Instr, at)}
	for place, instr := range x.instrs {
		c.Instrs[place] = instr
	}
	for n, r := range x.rules {
		c.Watches = append(c.Watches, r.watch)
		c.Instrs[r.place].List = append(c.Instrs[r.place].List, n)
	}
	return c
}

// even is c, where each empty list is nil.
func even(c api.Code) api.Code {
	var out api.Code
	for _, x := range c.Instrs {
		out.Instrs = append(out.Instrs, trimmed(x))
	}
	out.Watches = append(out.Watches, c.Watches...)
	return out
}

// checkWords holds Compile at l against the chapter's words, and tells whether there is a code.
func checkWords(t testing.TB, l []api.Cmd) bool {
	t.Helper()
	_, bad := sense.Check(l, 8)
	got, err := Compile(l)
	if bad != api.OK {
		if err != api.ErrArg || got.Instrs != nil || got.Watches != nil {
			t.Fatalf("Compile(%v) is %v, error %d", l, got, err)
		}
		return false
	}
	if want := even(codeOf(l)); err != api.OK || !reflect.DeepEqual(even(got), want) {
		s, _ := script.Print(l)
		t.Fatalf("Compile of %s is\n%v, error %d, not\n%v", s, even(got), err, want)
	}
	lines := Text(got)
	for place, x := range got.Instrs {
		if len(lines) != len(got.Instrs) || !strings.HasPrefix(lines[place], strconv.Itoa(place)+" ") || !strings.HasSuffix(lines[place], " "+strconv.Itoa(x.A)) {
			t.Fatalf("Text(%v) is %q", got, lines)
		}
	}
	return true
}

// TestAllSmall holds all texts of a few pieces of scripts against the chapter's words (P12.1).
func TestAllSmall(t *testing.T) {
	pieces := []string{
		"use 1 ", "exp_continue ", "call p ", "call q ", "if ($a) {", "} else {", "}", "while (1) {", "proc p {", "proc q {",
		"expect {eof {", "expect_before {eof {", "expect_after {eof {", "} timeout {", "}}",
	}
	coded, refused := 0, 0
	var grow func(s string, n, open int)
	grow = func(s string, n, open int) {
		if l, _, err := script.Parse(s); err == api.OK {
			if checkWords(t, l) {
				coded++
			} else {
				refused++
			}
		}
		for _, piece := range pieces {
			now := open + strings.Count(piece, "{") - strings.Count(piece, "}")
			if n > 0 && now >= 0 && now <= 2*n-2 {
				grow(s+piece, n-1, now)
			}
		}
	}
	grow("", 6, 0)
	if coded < 5000 || refused < 10000 {
		t.Errorf("there are %d codes, and %d refused", coded, refused)
	}
}

// maker of texts of scripts.
type texts struct {
	random *rand.Rand
}

// one is one of l.
func (m texts) one(l ...string) string {
	return l[m.random.Intn(len(l))]
}

// cmds is as many commands as up to most, within a rule or not.
func (m texts) cmds(most, room int, again bool) string {
	s := ""
	for range m.random.Intn(most + 1) {
		s += m.cmd(most/2, room, again) + " "
	}
	return s
}

func (m texts) cmd(most, room int, again bool) string {
	text := `"` + m.one("", "a", "${a}", `x${b}y`, `${a}${c}\n`) + `"`
	cond := "(" + m.one("1", "$a", "!$b", "$a + 1", "-($c * 2)", "$a == 1 && $b < 2") + ")"
	block := func() string { return "{" + m.cmds(most, room-1, again) + "}" }
	switch m.random.Intn(14) {
	case 0:
		return "set " + m.one("a", "b", "c") + " " + text
	case 1:
		return "let " + m.one("a", "b", "c") + " " + cond
	case 2:
		return "incr " + m.one("a", "b", "c") + m.one(" ", " - ") + m.one("0", "1", "77")
	case 3:
		return "send " + text
	case 4:
		return m.one("spawn ", "use ", "timeout ") + m.one("0", "1", "7")
	case 5:
		return m.one("exit", "timeout never")
	case 6:
		return "call " + m.one("p0", "p1", "p2")
	case 7:
		if again {
			return "exp_continue"
		}
	case 8, 9:
		if room > 0 {
			return "if " + cond + " " + block() + m.one("", " else "+block())
		}
	case 10:
		if room > 0 {
			return "while " + cond + " " + block()
		}
	default:
		if room > 1 {
			return m.one("expect", "expect", "expect_before", "expect_after") + " {" + m.rules(most, room-2) + "}"
		}
	}
	return "exit"
}

// rules are up to four rules.
func (m texts) rules(most, room int) string {
	s := ""
	for i := range 1 + m.random.Intn(4) {
		head := m.one("", "-i 0 ", "-i 7 ") + m.one("-ex", "-gl", "-re") + ` "` + m.one("", "a", "b c") + `"`
		if i == 0 {
			head = m.one(head, "eof", "timeout", "default", "-i 2 eof")
		}
		s += head + " {" + m.cmds(most, room, true) + "} "
	}
	return s
}

// script is procs, p0 and so on, and commands between.
func (m texts) script(most int) string {
	s := ""
	for i := range 3 {
		s += m.cmds(most/2, 16, false) + "proc p" + strconv.Itoa(i) + " {" + m.cmds(most, 15, false) + "} "
	}
	return s + m.cmds(most, 16, false)
}

// TestMade holds many scripts of all sorts against the chapter's words (P12.1).
func TestMade(t *testing.T) {
	m := texts{rand.New(rand.NewSource(1))}
	coded := 0
	ops := map[int]int{}
	for i := range 8000 {
		s := m.script(2 + i%7)
		l, _, err := script.Parse(s)
		if err != api.OK {
			continue
		}
		if checkWords(t, l) {
			coded++
			c, _ := Compile(l)
			for _, x := range c.Instrs {
				ops[x.Op]++
			}
		}
	}
	for op := 1; op <= 16; op++ {
		if ops[op] < 100 {
			t.Errorf("of the instructions there are %v", ops)
		}
	}
	if coded < 4000 {
		t.Errorf("there are %d codes", coded)
	}
}

// FuzzCompile holds any scripts, and such as a number makes, against the chapter's words.
func FuzzCompile(f *testing.F) {
	f.Add(`call p proc p {expect {eof {exp_continue} -i 1 -re "(a)" {}}}`, int64(1))
	f.Add(`set a "" if (1) {timeout 9} else {spawn 1 expect_after {timeout {exp_continue}}}`, int64(2))
	f.Add("while ($a) {if (1) {} else {exit}}", int64(3))
	f.Fuzz(func(t *testing.T, s string, seed int64) {
		for _, s := range []string{s, texts{rand.New(rand.NewSource(seed))}.script(6)} {
			if l, _, err := script.Parse(s); err == api.OK {
				checkWords(t, l)
			}
		}
	})
}
