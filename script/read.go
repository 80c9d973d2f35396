package script

import (
	"souffleur/api"
	"souffleur/expr"
	"souffleur/row"
)

// reader reads the commands of a row of tokens.
type reader struct {
	row.Reader
}

// readCmds reads commands, as far as they go, where open { stand open.
func (r *reader) readCmds(open int) []api.Cmd {
	var l []api.Cmd
	for r.Next().Kind == api.TokWord {
		l = append(l, r.readCmd(open))
	}
	return l
}

// readCmd reads the command whose word is next.
func (r *reader) readCmd(open int) api.Cmd {
	word := r.Next()
	c := api.Cmd{Kind: kindOf(word.Word), At: word.At}
	if c.Kind == 0 {
		r.Refuse(api.ErrForm)
		return api.Cmd{}
	}
	r.At++
	_, form := formOf(c.Kind)
	if form&aName != 0 {
		c.Name = r.NeedName()
	}
	if form&aNumber != 0 {
		c.N = r.readNumber(c.Kind)
	}
	if form&aText != 0 {
		c.Parts = r.NeedKind(api.TokText).Parts
	}
	if form&aCond != 0 {
		c.Cond = r.readCond()
	}
	if form&aBlock != 0 {
		c.Body = r.readBlock(open)
	}
	if form&anElse != 0 && r.Take(api.TokWord, "else") {
		c.Else = r.readBlock(open)
	}
	if form&someRules != 0 {
		c.Rules = r.readRules(open)
	}
	return c
}

// readNumber reads what tells the N of a command of the kind.
func (r *reader) readNumber(kind int) int64 {
	switch {
	case kind == api.CmdIncr && r.Take(api.TokSign, "-"):
		return -r.NeedKind(api.TokNum).N
	case kind == api.CmdTimeout && r.Take(api.TokWord, "never"):
		return never
	}
	return r.NeedKind(api.TokNum).N
}

// readCond reads an EXPR.
func (r *reader) readCond() api.Expr {
	from := r.At
	r.Need(api.TokSign, "(")
	if r.Err != api.OK {
		return api.Expr{}
	}
	e, to, err := expr.Parse(r.Tokens, r.At)
	r.At = to
	if err != api.OK {
		r.Refuse(err)
	}
	r.Need(api.TokSign, ")")
	if r.Err == api.OK && !expr.May(e) {
		r.At = from
		r.Refuse(api.ErrDeep)
	}
	return e
}

// readBrace reads a {, where open stand open ahead of it.
func (r *reader) readBrace(open int) {
	if open == api.MaxBlock && r.IsNext(api.TokSign, "{") {
		r.Refuse(api.ErrDeep)
	}
	r.Need(api.TokSign, "{")
}

// readBlock reads a BLOCK.
func (r *reader) readBlock(open int) []api.Cmd {
	r.readBrace(open)
	l := r.readCmds(open + 1)
	r.Need(api.TokSign, "}")
	return l
}

// readRules reads RULES.
func (r *reader) readRules(open int) []api.Rule {
	r.readBrace(open)
	l := []api.Rule{r.readRule(open + 1)}
	for r.Err == api.OK && !r.Take(api.TokSign, "}") {
		l = append(l, r.readRule(open+1))
	}
	return l
}

// readRule reads a rule.
func (r *reader) readRule(open int) api.Rule {
	rule := api.Rule{Peer: used, At: r.Next().At}
	told := r.Take(api.TokFlag, "i")
	if told {
		rule.Peer = r.NeedKind(api.TokNum).N
	}
	if r.Next().Kind == api.TokFlag {
		rule.Kind, rule.Pattern = api.RulePattern, r.readPattern()
	} else {
		rule.Kind = r.readRuleWord(told)
	}
	rule.Body = r.readBlock(open)
	return rule
}

// readPattern reads a flag of a pattern, and its text.
func (r *reader) readPattern() api.Pattern {
	for kind := api.Exact; kind <= api.Regex; kind++ {
		if r.Take(api.TokFlag, flagOf(kind)) {
			return api.Pattern{Kind: kind, Text: r.NeedPlain()}
		}
	}
	r.Refuse(api.ErrForm)
	return api.Pattern{}
}

// readRuleWord reads the word of a rule without a pattern, and answers its kind; told: its peer is.
func (r *reader) readRuleWord(told bool) int {
	for kind := api.RuleTimeout; kind <= api.RuleDefault; kind++ {
		if (kind == api.RuleEof || !told) && r.Take(api.TokWord, wordOf(kind)) {
			return kind
		}
	}
	r.Refuse(api.ErrForm)
	return 0
}
