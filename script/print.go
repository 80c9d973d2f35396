package script

import (
	"souffleur/api"
	"souffleur/expr"
)

// appendCmds puts the tokens of the commands l, which may be, behind out.
func appendCmds(out []api.Token, l []api.Cmd) []api.Token {
	for _, c := range l {
		out = appendCmd(out, c)
	}
	return out
}

func appendCmd(out []api.Token, c api.Cmd) []api.Token {
	word, form := formOf(c.Kind)
	out = appendWord(out, word)
	if form&aName != 0 {
		out = appendWord(out, c.Name)
	}
	if form&aNumber != 0 {
		out = appendN(out, c)
	}
	if form&aText != 0 {
		out = append(out, api.Token{Kind: api.TokText, Parts: c.Parts})
	}
	if form&aCond != 0 {
		out = appendCond(out, c.Cond)
	}
	if form&aBlock != 0 {
		out = appendBlock(out, c.Body)
	}
	if form&anElse != 0 && len(c.Else) > 0 {
		out = appendBlock(appendWord(out, "else"), c.Else)
	}
	if form&someRules != 0 {
		out = appendRules(out, c.Rules)
	}
	return out
}

// appendN puts the tokens that tell the N of c behind out.
func appendN(out []api.Token, c api.Cmd) []api.Token {
	switch {
	case c.Kind == api.CmdIncr && c.N < 0:
		return appendNumber(appendSign(out, "-"), -c.N)
	case c.Kind == api.CmdTimeout && c.N == never:
		return appendWord(out, "never")
	}
	return appendNumber(out, c.N)
}

func appendCond(out []api.Token, e api.Expr) []api.Token {
	// There is no error, as e may be.
	tokens, _ := expr.Tokens(e)
	return appendSign(append(appendSign(out, "("), tokens...), ")")
}

func appendBlock(out []api.Token, l []api.Cmd) []api.Token {
	return appendSign(appendCmds(appendSign(out, "{"), l), "}")
}

func appendRules(out []api.Token, l []api.Rule) []api.Token {
	out = appendSign(out, "{")
	for _, rule := range l {
		out = appendBlock(appendHead(out, rule), rule.Body)
	}
	return appendSign(out, "}")
}

// appendHead puts the tokens of rule, but for those of its Body, behind out.
func appendHead(out []api.Token, rule api.Rule) []api.Token {
	if rule.Peer != used {
		out = appendNumber(appendFlag(out, "i"), rule.Peer)
	}
	if rule.Kind != api.RulePattern {
		return appendWord(out, wordOf(rule.Kind))
	}
	return append(appendFlag(out, flagOf(rule.Pattern.Kind)), api.Token{Kind: api.TokText, Parts: partsOf(rule.Pattern.Text)})
}

// partsOf answers the parts of a text without variables.
func partsOf(text string) []api.Part {
	if text == "" {
		return nil
	}
	return []api.Part{{Text: text}}
}

func appendWord(out []api.Token, text string) []api.Token {
	return append(out, api.Token{Kind: api.TokWord, Word: text})
}

func appendSign(out []api.Token, text string) []api.Token {
	return append(out, api.Token{Kind: api.TokSign, Word: text})
}

func appendFlag(out []api.Token, text string) []api.Token {
	return append(out, api.Token{Kind: api.TokFlag, Word: text})
}

func appendNumber(out []api.Token, n int64) []api.Token {
	return append(out, api.Token{Kind: api.TokNum, N: n})
}
