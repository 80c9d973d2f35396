package sense

import (
	"math"
	"math/rand"
	"slices"
	"strconv"
	"testing"

	"souffleur/api"
	"souffleur/ere"
	"souffleur/glob"
	"souffleur/script"
)

// item is a command, or else a rule, and the numbers of those within which it stands, the outermost first.
type item struct {
	cmd    *api.Cmd
	rule   *api.Rule
	around []int
}

// items are the commands of l and their rules, in the order in which they stand, behind those ahead.
func items(ahead []item, l []api.Cmd, around []int) []item {
	for i := range l {
		c := &l[i]
		inner := append(slices.Clone(around), len(ahead))
		ahead = append(ahead, item{cmd: c, around: around})
		ahead = items(ahead, c.Body, inner)
		ahead = items(ahead, c.Else, inner)
		for j := range c.Rules {
			r := &c.Rules[j]
			innermost := append(slices.Clone(inner), len(ahead))
			ahead = append(ahead, item{rule: r, around: inner})
			ahead = items(ahead, r.Body, innermost)
		}
	}
	return ahead
}

// isCmd tells whether it is a command of one of the kinds.
func (x item) isCmd(kinds ...int) bool {
	return x.cmd != nil && slices.Contains(kinds, x.cmd.Kind)
}

// namesOf are the names in the commands of the kinds, each once.
func namesOf(all []item, kinds ...int) []string {
	var out []string
	for _, x := range all {
		if x.isCmd(kinds...) && !slices.Contains(out, x.cmd.Name) {
			out = append(out, x.cmd.Name)
		}
	}
	return out
}

// metOf is what the chapter's words have of the item with the number n.
func metOf(all []item, n int, peers int) api.Errno {
	x, ahead := all[n], all[:n]
	switch {
	case x.rule != nil:
		return metOfRule(ahead, x, peers)
	case x.isCmd(api.CmdProc) && len(x.around) > 0:
		return api.ErrThen
	case x.isCmd(api.CmdProc) && slices.Contains(namesOf(ahead, api.CmdProc), x.cmd.Name):
		return api.ErrMet
	case x.isCmd(api.CmdCall) && !slices.Contains(namesOf(all, api.CmdProc), x.cmd.Name):
		return api.ErrName
	case x.isCmd(api.CmdSet, api.CmdLet, api.CmdIncr):
		others := slices.DeleteFunc(namesOf(ahead, 1, 2, 3), func(name string) bool { return name == x.cmd.Name })
		if len(others) >= 16 {
			return api.ErrFull
		}
	case x.isCmd(api.CmdSpawn, api.CmdUse) && x.cmd.N >= int64(peers):
		return api.ErrName
	case x.isCmd(api.CmdTimeout) && x.cmd.N > 9:
		return api.ErrLong
	case x.isCmd(api.CmdAgain):
		for _, i := range slices.Backward(x.around) {
			if all[i].rule != nil {
				return api.OK
			}
			if all[i].isCmd(api.CmdProc) {
				return api.ErrThen
			}
		}
		return api.ErrThen
	}
	return api.OK
}

// metOfRule is metOf for a rule.
func metOfRule(ahead []item, x item, peers int) api.Errno {
	rules := 0
	var same []api.Rule
	for _, other := range ahead {
		if other.rule == nil {
			continue
		}
		rules++
		if slices.Equal(other.around, x.around) {
			same = append(same, *other.rule)
		}
	}
	if rules >= 60 {
		return api.ErrFull
	}
	if x.rule.Peer >= 0 && !(x.rule.Peer < int64(peers)) {
		return api.ErrName
	}
	if x.rule.Kind == api.RulePattern && !mayFind(x.rule.Pattern) {
		return api.ErrArg
	}
	for _, other := range same {
		switch {
		case x.rule.Kind == api.RuleTimeout && other.Kind == api.RuleTimeout,
			x.rule.Kind == api.RuleDefault && other.Kind == api.RuleDefault,
			x.rule.Kind == api.RuleEof && other.Kind == api.RuleEof && x.rule.Peer == other.Peer:
			return api.ErrMet
		}
	}
	return api.OK
}

// mayFind tells whether the pattern may be, by layer 7.
func mayFind(p api.Pattern) bool {
	err := api.OK
	switch p.Kind {
	case api.Exact:
		return len(p.Text) <= 200
	case api.Shell:
		_, _, err = glob.Parse(p.Text)
	case api.Regex:
		_, _, err = ere.Parse(p.Text)
	}
	return err == api.OK
}

// checkWords holds all calls over l, which may be, against the chapter's words, and tells what Check must say.
func checkWords(t testing.TB, l []api.Cmd, peers int) api.Errno {
	t.Helper()
	all := items(nil, l, nil)
	if got, want := Vars(l), namesOf(all, api.CmdSet, api.CmdLet, api.CmdIncr); !slices.Equal(got, want) {
		t.Fatalf("Vars(%v) is %q, not %q", l, got, want)
	}
	if got, want := Procs(l), namesOf(all, api.CmdProc); !slices.Equal(got, want) {
		t.Fatalf("Procs(%v) is %q, not %q", l, got, want)
	}
	at, want := 0, api.OK
	for n, x := range all {
		want = metOf(all, n, peers)
		if want == api.OK {
			continue
		}
		if x.cmd != nil {
			at = x.cmd.At
		} else {
			at = x.rule.At
		}
		break
	}
	if place, err := Check(l, peers); place != at || err != want {
		s, _ := script.Print(l)
		t.Fatalf("Check of %s, at\n%v, %d is %d, error %d; not %d, error %d", s, l, peers, place, err, at, want)
	}
	return want
}

// place tells each command and rule of l where it stands, from the place at on, and answers the place behind all.
func place(l []api.Cmd, at int) int {
	for i := range l {
		c := &l[i]
		c.At = at
		at = place(c.Else, place(c.Body, at+3))
		for j := range c.Rules {
			c.Rules[j].At = at
			at = place(c.Rules[j].Body, at+5)
		}
	}
	return at
}

// small calls do for all commands of as many pieces as n has, of a few sorts; a piece is a command or a rule.
func small(n int, do func([]api.Cmd)) {
	if n == 0 {
		do(nil)
		return
	}
	for first := 1; first <= n; first++ {
		smallCmd(first, func(c api.Cmd) {
			small(n-first, func(l []api.Cmd) { do(append([]api.Cmd{c}, l...)) })
		})
	}
}

// smallCmd is small for one command.
func smallCmd(n int, do func(api.Cmd)) {
	if n == 1 {
		for _, c := range []api.Cmd{{Kind: api.CmdCall, Name: "p"}, {Kind: api.CmdAgain}, {Kind: api.CmdUse, N: 1}, {Kind: api.CmdTimeout, N: 10}} {
			do(c)
		}
	}
	for body := range n {
		small(body, func(l []api.Cmd) {
			small(n-1-body, func(other []api.Cmd) { do(api.Cmd{Kind: api.CmdIf, Body: l, Else: other}) })
		})
	}
	small(n-1, func(l []api.Cmd) { do(api.Cmd{Kind: api.CmdProc, Name: "p", Body: l}) })
	if n > 1 {
		smallRules(n-1, func(l []api.Rule) { do(api.Cmd{Kind: api.CmdExpect, Rules: l}) })
	}
}

// smallRules is small for rules.
func smallRules(n int, do func([]api.Rule)) {
	if n == 0 {
		do(nil)
		return
	}
	for first := 1; first <= n; first++ {
		small(first-1, func(body []api.Cmd) {
			smallRules(n-first, func(l []api.Rule) {
				for _, r := range []api.Rule{{Kind: api.RuleEof, Peer: -1}, {Kind: api.RuleEof, Peer: 1}, {Kind: api.RuleDefault, Peer: -1}, {Kind: api.RuleTimeout, Peer: -1}} {
					r.Body = body
					do(append([]api.Rule{r}, l...))
				}
			})
		})
	}
}

// TestAllSmall holds all small scripts of a few sorts of commands and rules against the chapter's words (P11.1).
func TestAllSmall(t *testing.T) {
	count := map[api.Errno]int{}
	for n := range 6 {
		small(n, func(l []api.Cmd) {
			l = copied(l)
			place(l, 1)
			for peers := 1; peers <= 2; peers++ {
				count[checkWords(t, l, peers)]++
			}
		})
	}
	for _, err := range []api.Errno{api.OK, api.ErrName, api.ErrLong, api.ErrThen, api.ErrMet} {
		if count[err] < 100 {
			t.Errorf("of the errors there are %v", count)
		}
	}
}

// copied are the commands l, that share nothing with them and within one another.
func copied(l []api.Cmd) []api.Cmd {
	l = slices.Clone(l)
	for i := range l {
		c := &l[i]
		c.Body, c.Else, c.Rules = copied(c.Body), copied(c.Else), slices.Clone(c.Rules)
		for j := range c.Rules {
			c.Rules[j].Body = copied(c.Rules[j].Body)
		}
	}
	return l
}

// scripts makes commands that may be: of as many names as names, with something met about once in rare commands.
type scripts struct {
	random      *rand.Rand
	names, rare int
}

// seldom tells something wrong to be made.
func (m scripts) seldom() bool {
	return m.random.Intn(m.rare) == 0
}

func (m scripts) name() string {
	return "v" + strconv.Itoa(m.random.Intn(m.names))
}

// peer is a number of one of two peers, mostly.
func (m scripts) peer() int64 {
	if m.seldom() {
		return []int64{2, 3, math.MaxInt64}[m.random.Intn(3)]
	}
	return m.random.Int63n(2)
}

// script is commands behind each other, and procs among them; the names of procs are p0 and so on.
func (m scripts) script(most int) []api.Cmd {
	var l []api.Cmd
	procs := m.random.Intn(3)
	for i := range procs {
		l = append(l, api.Cmd{Kind: api.CmdProc, Name: "p" + strconv.Itoa(i), Body: m.cmds(most, 12, procs, false)})
	}
	l = append(l, m.cmds(2*most, 14, procs, false)...)
	m.random.Shuffle(len(l), func(i, j int) { l[i], l[j] = l[j], l[i] })
	place(l, m.random.Intn(100)-50)
	return l
}

// cmds are commands, among so many procs, within a rule or not.
func (m scripts) cmds(most, room, procs int, within bool) []api.Cmd {
	var l []api.Cmd
	for range m.random.Intn(most + 1) {
		l = append(l, m.cmd(most, room, procs, within))
	}
	return l
}

func (m scripts) cmd(most, room, procs int, within bool) api.Cmd {
	c := api.Cmd{Kind: 1 + m.random.Intn(16)}
	switch c.Kind {
	case api.CmdProc:
		if !m.seldom() {
			return api.Cmd{Kind: api.CmdExit}
		}
		c.Name = "p" + strconv.Itoa(m.random.Intn(3))
	case api.CmdCall:
		if procs == 0 && !m.seldom() {
			return api.Cmd{Kind: api.CmdSend}
		}
		c.Name = "p" + strconv.Itoa(m.random.Intn(max(procs, 1)))
		if m.seldom() {
			c.Name = "p3"
		}
	case api.CmdSet, api.CmdLet, api.CmdIncr:
		c.Name = m.name()
	case api.CmdSpawn, api.CmdUse:
		c.N = m.peer()
	case api.CmdTimeout:
		c.N = m.random.Int63n(11) - 1
		if m.seldom() {
			c.N = 10 + m.random.Int63n(3)
		}
	case api.CmdAgain:
		if !within && !m.seldom() {
			return api.Cmd{Kind: api.CmdExit}
		}
	case api.CmdIf, api.CmdWhile:
		if room == 0 {
			return api.Cmd{Kind: api.CmdExit}
		}
		c.Body = m.cmds(most/2, room-1, procs, within)
		if c.Kind == api.CmdIf {
			c.Else = m.cmds(most/2, room-1, procs, within)
		}
	case api.CmdExpect, api.CmdBefore, api.CmdAfter:
		if room < 2 {
			return api.Cmd{Kind: api.CmdExit}
		}
		for range 1 + m.random.Intn(3) {
			c.Rules = append(c.Rules, m.rule(c.Rules, most, room-2, procs))
		}
	}
	if c.Kind == api.CmdProc && room > 0 {
		c.Body = m.cmds(most/2, room-1, procs, within)
	}
	return c
}

func (m scripts) rule(ahead []api.Rule, most, room, procs int) api.Rule {
	r := api.Rule{Kind: 1 + m.random.Intn(4), Peer: -1, Body: m.cmds(most/2, room, procs, true)}
	if r.Kind != api.RulePattern && !m.seldom() && slices.ContainsFunc(ahead, func(other api.Rule) bool { return other.Kind == r.Kind }) {
		r.Kind = api.RulePattern
	}
	if r.Kind == api.RulePattern {
		r.Pattern = api.Pattern{Kind: m.random.Intn(3), Text: []string{"", "a", "ab"}[m.random.Intn(3)]}
		if m.seldom() {
			r.Pattern.Text = []string{"(", "[", "*", "\\"}[m.random.Intn(4)]
		}
	}
	if (r.Kind == api.RulePattern || r.Kind == api.RuleEof) && m.random.Intn(2) == 0 {
		r.Peer = m.peer()
	}
	return r
}

// TestMade holds many scripts of all sorts against the chapter's words (P11.1).
func TestMade(t *testing.T) {
	count := map[api.Errno]int{}
	random := rand.New(rand.NewSource(1))
	for i := range 20000 {
		m := scripts{random, []int{3, 17, 18, 40}[i%4], []int{1, 5, 50, 500, 100000}[i%5]}
		l := m.script([]int{2, 4, 8, 14}[i/20%4])
		if !script.May(l) {
			t.Fatalf("%v may not be", l)
		}
		count[checkWords(t, l, []int{2, 2, 2, 2, 2, 3, 1, 0, -1, math.MaxInt, math.MinInt}[i/80%11])]++
	}
	for _, err := range []api.Errno{api.OK, api.ErrName, api.ErrLong, api.ErrThen, api.ErrMet, api.ErrFull, api.ErrArg} {
		if count[err] < 100 {
			t.Errorf("of the errors there are %v", count)
		}
	}
	t.Log(count)
}

// FuzzCheck holds any scripts, and such as a number makes, against the chapter's words.
func FuzzCheck(f *testing.F) {
	f.Add(`call p proc p {expect {eof {exp_continue} -i 1 -re "(" {}}}`, int64(1), 2)
	f.Add(`set a "" if (1) {timeout 9 proc p {}} else {spawn 1 exp_continue}`, int64(2), 1)
	f.Add(varsUpTo(17), int64(3), 0)
	f.Add(rulesOf(61, ""), int64(4), -1)
	f.Fuzz(func(t *testing.T, s string, seed int64, peers int) {
		if l, _, err := script.Parse(s); err == api.OK {
			checkWords(t, l, peers)
			checkWords(t, l, 1)
		}
		m := scripts{rand.New(rand.NewSource(seed)), 3 + int(uint(peers)%30), 1 + len(s)*5}
		l := m.script(6)
		checkWords(t, l, 2)
		checkWords(t, l, peers)
	})
}
