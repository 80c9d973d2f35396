package script

import (
	"souffleur/api"
	"souffleur/expr"
	"souffleur/row"
)

// appendCmds puts the tokens of the commands l, which may be, behind out.
func appendCmds(out []api.Token, l []api.Cmd) []api.Token {
	for _, c := range l {
		out = appendCmd(out, c)
	}
	return out
}

func appendCmd(out []api.Token, c api.Cmd) []api.Token {
	word, form := formOf(c.Kind)
	out = row.AppendWords(out, word)
	if form&aName != 0 {
		out = row.AppendWords(out, c.Name)
	}
	if form&aNumber != 0 {
		out = appendN(out, c)
	}
	if form&aText != 0 {
		out = append(out, api.Token{Kind: api.TokText, Parts: c.Parts})
	}
	if form&aCond != 0 {
		out = appendCond(out, c.Cond)
	}
	if form&aBlock != 0 {
		out = appendBlock(out, c.Body)
	}
	if form&anElse != 0 && len(c.Else) > 0 {
		out = appendBlock(row.AppendWords(out, "else"), c.Else)
	}
	if form&someRules != 0 {
		out = appendRules(out, c.Rules)
	}
	return out
}

// appendN puts the tokens that tell the N of c behind out.
func appendN(out []api.Token, c api.Cmd) []api.Token {
	switch {
	case c.Kind == api.CmdIncr && c.N < 0:
		return row.AppendNumber(row.AppendSign(out, "-"), -c.N)
	case c.Kind == api.CmdTimeout && c.N == never:
		return row.AppendWords(out, "never")
	}
	return row.AppendNumber(out, c.N)
}

func appendCond(out []api.Token, e api.Expr) []api.Token {
	// There is no error, as e may be.
	tokens, _ := expr.Tokens(e)
	return row.AppendSign(append(row.AppendSign(out, "("), tokens...), ")")
}

func appendBlock(out []api.Token, l []api.Cmd) []api.Token {
	return row.AppendSign(appendCmds(row.AppendSign(out, "{"), l), "}")
}

func appendRules(out []api.Token, l []api.Rule) []api.Token {
	out = row.AppendSign(out, "{")
	for _, rule := range l {
		out = appendBlock(appendHead(out, rule), rule.Body)
	}
	return row.AppendSign(out, "}")
}

// appendHead puts the tokens of rule, but for those of its Body, behind out.
func appendHead(out []api.Token, rule api.Rule) []api.Token {
	if rule.Peer != used {
		out = row.AppendNumber(row.AppendFlag(out, "i"), rule.Peer)
	}
	if rule.Kind != api.RulePattern {
		return row.AppendWords(out, wordOf(rule.Kind))
	}
	return row.AppendPlain(row.AppendFlag(out, flagOf(rule.Pattern.Kind)), rule.Pattern.Text)
}
