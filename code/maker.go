package code

import (
	"slices"

	"souffleur/api"
)

// maker makes the code of a script that is well formed.
type maker struct {
	code api.Code
	// procs has the place of each proc's first instruction, by its name, once that is there.
	procs map[string]int
	// calls has whom each instruction calls: a proc may stand behind its calls.
	calls []pending
}

// pending is a call, at a place of the code, of a proc whose place isn't known yet.
type pending struct {
	place int
	name  string
}

// noExpect stands for the place of an expect where the innermost rule is of none.
const noExpect = -1

func compile(l []api.Cmd) api.Code {
	m := &maker{procs: map[string]int{}}
	m.addCmds(l, noExpect)
	m.add(api.Instr{Op: api.OpExit})
	for _, c := range l {
		if c.Kind == api.CmdProc {
			m.procs[c.Name] = m.here()
			m.addCmds(c.Body, noExpect)
			m.add(api.Instr{Op: api.OpReturn})
		}
	}
	for _, call := range m.calls {
		m.code.Instrs[call.place].A = m.procs[call.name]
	}
	return m.code
}

// here is the place of the instruction that is added next.
func (m *maker) here() int {
	return len(m.code.Instrs)
}

// add answers the place of the instruction that it adds.
func (m *maker) add(x api.Instr) int {
	m.code.Instrs = append(m.code.Instrs, x)
	return m.here() - 1
}

// aim lets the instructions at the places go on at what is added next.
func (m *maker) aim(places ...int) {
	for _, place := range places {
		m.code.Instrs[place].A = m.here()
	}
}

// addCmds adds the instructions of l, within a rule of the expect at the place, if that isn't noExpect.
func (m *maker) addCmds(l []api.Cmd, expect int) {
	for _, c := range l {
		m.addCmd(c, expect)
	}
}

// addCmd is addCmds for one command; of a proc nothing stands where it does.
func (m *maker) addCmd(c api.Cmd, expect int) {
	switch c.Kind {
	case api.CmdSet:
		m.add(withWords(api.OpSet, c))
	case api.CmdLet:
		m.add(withWords(api.OpLet, c))
	case api.CmdIncr:
		m.add(withWords(api.OpIncr, c))
	case api.CmdSend:
		m.add(withWords(api.OpSend, c))
	case api.CmdSpawn:
		m.add(api.Instr{Op: api.OpSpawn, A: int(c.N)})
	case api.CmdUse:
		m.add(api.Instr{Op: api.OpUse, A: int(c.N)})
	case api.CmdTimeout:
		m.add(api.Instr{Op: api.OpTimeout, A: int(c.N)})
	case api.CmdExit:
		m.add(api.Instr{Op: api.OpExit})
	case api.CmdCall:
		m.calls = append(m.calls, pending{m.add(api.Instr{Op: api.OpCall}), c.Name})
	case api.CmdIf:
		m.addIf(c, expect)
	case api.CmdWhile:
		m.addWhile(c, expect)
	case api.CmdExpect:
		m.addExpect(c)
	case api.CmdBefore:
		m.addAround(api.OpBefore, c)
	case api.CmdAfter:
		m.addAround(api.OpAfter, c)
	case api.CmdAgain:
		m.addAgain(expect)
	}
}

// addIf is addCmd for an if.
func (m *maker) addIf(c api.Cmd, expect int) {
	unless := m.add(api.Instr{Op: api.OpUnless, Cond: copied(c.Cond)})
	m.addCmds(c.Body, expect)
	if len(c.Else) == 0 {
		m.aim(unless)
		return
	}
	jump := m.add(api.Instr{Op: api.OpJump})
	m.aim(unless)
	m.addCmds(c.Else, expect)
	m.aim(jump)
}

// addWhile is addCmd for a while.
func (m *maker) addWhile(c api.Cmd, expect int) {
	unless := m.add(api.Instr{Op: api.OpUnless, Cond: copied(c.Cond)})
	m.addCmds(c.Body, expect)
	m.add(api.Instr{Op: api.OpJump, A: unless})
	m.aim(unless)
}

// addExpect is addCmd for an expect, whose rules go on behind it.
func (m *maker) addExpect(c api.Cmd) {
	first := len(m.code.Watches)
	place := m.add(api.Instr{Op: api.OpExpect, List: m.addWatches(c.Rules, true)})
	jumps := []int{m.add(api.Instr{Op: api.OpJump})}
	for i, rule := range c.Rules {
		m.code.Watches[first+i].To = m.here()
		m.addCmds(rule.Body, place)
		jumps = append(jumps, m.add(api.Instr{Op: api.OpJump}))
	}
	m.aim(jumps...)
}

// addAround is addCmd for an expect_before or expect_after, whose rules go back to where they were fired.
func (m *maker) addAround(op int, c api.Cmd) {
	first := len(m.code.Watches)
	m.add(api.Instr{Op: op, List: m.addWatches(c.Rules, false)})
	jump := m.add(api.Instr{Op: api.OpJump})
	for i, rule := range c.Rules {
		m.code.Watches[first+i].To = m.here()
		m.addCmds(rule.Body, noExpect)
		m.add(api.Instr{Op: api.OpReturn})
	}
	m.aim(jump)
}

// addWatches answers the numbers of the watches that it adds, whose places are not known yet: all of one command are numbered ahead of those within it.
func (m *maker) addWatches(l []api.Rule, own bool) []int {
	list := make([]int, 0, len(l))
	for _, rule := range l {
		list = append(list, len(m.code.Watches))
		m.code.Watches = append(m.code.Watches, api.Watch{
			Kind: rule.Kind, Peer: int(rule.Peer), Pattern: rule.Pattern, Own: own, At: rule.At,
		})
	}
	return list
}

// addAgain is addCmd for an exp_continue.
func (m *maker) addAgain(expect int) {
	if expect == noExpect {
		m.add(api.Instr{Op: api.OpAgain})
		return
	}
	m.add(api.Instr{Op: api.OpJump, A: expect})
}

// withWords is the instruction that has what c has.
func withWords(op int, c api.Cmd) api.Instr {
	return api.Instr{Op: op, Name: c.Name, Parts: slices.Clone(c.Parts), Cond: copied(c.Cond), N: c.N}
}

// copied is x, with Kids of its own.
func copied(x api.Expr) api.Expr {
	x.Kids = slices.Clone(x.Kids)
	for i, kid := range x.Kids {
		x.Kids[i] = copied(kid)
	}
	return x
}
