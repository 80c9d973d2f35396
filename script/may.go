package script

import (
	"math"

	"souffleur/api"
	"souffleur/expr"
	"souffleur/quote"
	"souffleur/row"
)

const (
	// never is the N of a timeout that never comes.
	never = -1
	// used is the Peer of a rule that tells none.
	used = -1
)

// mayStand tells whether the commands l may stand where open { stand open; it ends at the first that may not, so they may be of any depth.
func mayStand(l []api.Cmd, open int) bool {
	for _, c := range l {
		if !mayBe(c, open) {
			return false
		}
	}
	return true
}

// mayBe tells whether c has all that its kind has, and nothing else.
func mayBe(c api.Cmd, open int) bool {
	word, form := formOf(c.Kind)
	return word != "" && holdsOnly(c, form) &&
		(form&aName == 0 || row.IsName(c.Name)) &&
		(form&aNumber == 0 || c.N >= least(c.Kind)) &&
		(form&aText == 0 || quote.May(c.Parts)) &&
		(form&aCond == 0 || expr.May(c.Cond)) &&
		(form&aBlock == 0 || mayBeBlock(c.Body, open)) &&
		(form&anElse == 0 || mayBeBlock(c.Else, open)) &&
		(form&someRules == 0 || mayBeRules(c.Rules, open))
}

// holdsOnly tells whether c has nothing beside what the form has.
func holdsOnly(c api.Cmd, form int) bool {
	return (form&aName != 0 || c.Name == "") &&
		(form&aNumber != 0 || c.N == 0) &&
		(form&aText != 0 || len(c.Parts) == 0) &&
		(form&aCond != 0 || expr.Same(c.Cond, api.Expr{})) &&
		(form&aBlock != 0 || len(c.Body) == 0) &&
		(form&anElse != 0 || len(c.Else) == 0) &&
		(form&someRules != 0 || len(c.Rules) == 0)
}

// least answers the least N of a command of the kind.
func least(kind int) int64 {
	switch kind {
	case api.CmdIncr:
		return -math.MaxInt64
	case api.CmdTimeout:
		return never
	}
	return 0
}

// mayBeBlock tells whether l may stand in { }, where open stand open ahead of it.
func mayBeBlock(l []api.Cmd, open int) bool {
	return open < api.MaxBlock && mayStand(l, open+1)
}

// mayBeRules is mayBeBlock for rules.
func mayBeRules(l []api.Rule, open int) bool {
	if len(l) == 0 || open == api.MaxBlock {
		return false
	}
	for _, rule := range l {
		if !mayBeRule(rule) || !mayBeBlock(rule.Body, open+1) {
			return false
		}
	}
	return true
}

// mayBeRule tells whether rule, but for its Body, has all that its kind has, and nothing else.
func mayBeRule(rule api.Rule) bool {
	switch rule.Kind {
	case api.RulePattern:
		return rule.Peer >= used && flagOf(rule.Pattern.Kind) != ""
	case api.RuleEof:
		return rule.Peer >= used && rule.Pattern == api.Pattern{}
	case api.RuleTimeout, api.RuleDefault:
		return rule.Peer == used && rule.Pattern == api.Pattern{}
	}
	return false
}
