package sense

import (
	"slices"

	"souffleur/api"
	"souffleur/search"
)

// checker goes over commands that may be, in the order in which they stand, up to the first command or rule of which something is met; so what it keeps of those ahead stays small.
type checker struct {
	peers int64
	// procs has the name of each proc, wherever it stands: how many stand ahead.
	procs map[string]int
	// vars are the names of variables ahead.
	vars []string
	// rules is how many stand ahead.
	rules int
}

func newChecker(l []api.Cmd, peers int) *checker {
	procs := map[string]int{}
	for _, name := range Procs(l) {
		procs[name] = 0
	}
	return &checker{peers: int64(peers), procs: procs}
}

// around tells what a command stands within: another command; a rule, with no proc between.
type around struct {
	cmd, rule bool
}

// checkCmds answers the place of the first command or rule, of l and of all within, of which something is met, and what.
func (k *checker) checkCmds(l []api.Cmd, in around) (int, api.Errno) {
	for _, c := range l {
		if err := k.checkCmd(c, in); err != api.OK {
			return c.At, err
		}
		if place, err := k.checkWithin(c, in); err != api.OK {
			return place, err
		}
	}
	return 0, api.OK
}

// checkWithin is checkCmds for what stands within c.
func (k *checker) checkWithin(c api.Cmd, in around) (int, api.Errno) {
	inner := around{cmd: true, rule: in.rule && !isProc(c.Kind)}
	if place, err := k.checkCmds(c.Body, inner); err != api.OK {
		return place, err
	}
	if place, err := k.checkCmds(c.Else, inner); err != api.OK {
		return place, err
	}
	return k.checkRules(c.Rules)
}

// checkRules is checkCmds for the rules of a command.
func (k *checker) checkRules(l []api.Rule) (int, api.Errno) {
	for i, rule := range l {
		if err := k.checkRule(rule, l[:i]); err != api.OK {
			return rule.At, err
		}
		if place, err := k.checkCmds(rule.Body, around{cmd: true, rule: true}); err != api.OK {
			return place, err
		}
	}
	return 0, api.OK
}

// checkCmd answers what is met of c itself.
func (k *checker) checkCmd(c api.Cmd, in around) api.Errno {
	switch c.Kind {
	case api.CmdProc:
		return k.checkProc(c.Name, in)
	case api.CmdCall:
		if _, is := k.procs[c.Name]; !is {
			return api.ErrName
		}
	case api.CmdSet, api.CmdLet, api.CmdIncr:
		return k.checkVar(c.Name)
	case api.CmdSpawn, api.CmdUse:
		if c.N >= k.peers {
			return api.ErrName
		}
	case api.CmdTimeout:
		if c.N > api.MaxTimeout {
			return api.ErrLong
		}
	case api.CmdAgain:
		if !in.rule {
			return api.ErrThen
		}
	}
	return api.OK
}

// checkProc answers what is met of a proc of the name; behind it, that stands ahead.
func (k *checker) checkProc(name string, in around) api.Errno {
	if in.cmd {
		return api.ErrThen
	}
	if k.procs[name] > 0 {
		return api.ErrMet
	}
	k.procs[name]++
	return api.OK
}

// checkVar is checkProc for a command that has the name of a variable.
func (k *checker) checkVar(name string) api.Errno {
	if slices.Contains(k.vars, name) {
		return api.OK
	}
	if len(k.vars) == api.MaxVars {
		return api.ErrFull
	}
	k.vars = append(k.vars, name)
	return api.OK
}

// checkRule is checkProc for a rule, behind others of the same command.
func (k *checker) checkRule(rule api.Rule, ahead []api.Rule) api.Errno {
	if k.rules == api.MaxRules {
		return api.ErrFull
	}
	k.rules++
	switch {
	case rule.Peer >= 0 && rule.Peer >= k.peers:
		return api.ErrName
	case !search.May(rule.Pattern):
		return api.ErrArg
	case slices.ContainsFunc(ahead, func(other api.Rule) bool { return clash(rule, other) }):
		return api.ErrMet
	}
	return api.OK
}

// clash tells whether no two such rules may stand in one command: a timeout and a default are of two kinds, and so they may.
func clash(a, b api.Rule) bool {
	return a.Kind == b.Kind && a.Kind != api.RulePattern && a.Peer == b.Peer
}
