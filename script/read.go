package script

import (
	"souffleur/api"
	"souffleur/expr"
	"souffleur/quote"
)

// reader reads tokens from the left. Once err isn't OK, at is the place with which it can't go on, there is nothing next, and all else that is asked of it counts nothing.
type reader struct {
	tokens []api.Token
	at     int
	err    api.Errno
}

// refuse ends the reading at what is next; only the first time counts.
func (r *reader) refuse(err api.Errno) {
	if r.err == api.OK {
		r.err = err
	}
}

// next answers the token that is read next; a zero one, if there is none.
func (r *reader) next() api.Token {
	if r.err != api.OK || r.at == len(r.tokens) {
		return api.Token{}
	}
	return r.tokens[r.at]
}

// isNext tells whether a token with this Word is next.
func (r *reader) isNext(kind int, word string) bool {
	t := r.next()
	return t.Kind == kind && t.Word == word
}

// take reads a token with this Word, if it is next, and tells whether it was.
func (r *reader) take(kind int, word string) bool {
	is := r.isNext(kind, word)
	if is {
		r.at++
	}
	return is
}

// need reads a token with this Word.
func (r *reader) need(kind int, word string) {
	if !r.take(kind, word) {
		r.refuse(api.ErrForm)
	}
}

// needKind reads a token of the kind, and answers it.
func (r *reader) needKind(kind int) api.Token {
	t := r.next()
	if t.Kind != kind {
		r.refuse(api.ErrForm)
		return api.Token{}
	}
	r.at++
	return t
}

// readCmds reads commands, as far as they go, where open { stand open.
func (r *reader) readCmds(open int) []api.Cmd {
	var l []api.Cmd
	for r.next().Kind == api.TokWord {
		l = append(l, r.readCmd(open))
	}
	return l
}

// readCmd reads the command whose word is next.
func (r *reader) readCmd(open int) api.Cmd {
	word := r.next()
	c := api.Cmd{Kind: kindOf(word.Word), At: word.At}
	if c.Kind == 0 {
		r.refuse(api.ErrForm)
		return api.Cmd{}
	}
	r.at++
	_, form := formOf(c.Kind)
	if form&aName != 0 {
		c.Name = r.readName()
	}
	if form&aNumber != 0 {
		c.N = r.readNumber(c.Kind)
	}
	if form&aText != 0 {
		c.Parts = r.needKind(api.TokText).Parts
	}
	if form&aCond != 0 {
		c.Cond = r.readCond()
	}
	if form&aBlock != 0 {
		c.Body = r.readBlock(open)
	}
	if form&anElse != 0 && r.take(api.TokWord, "else") {
		c.Else = r.readBlock(open)
	}
	if form&someRules != 0 {
		c.Rules = r.readRules(open)
	}
	return c
}

// readName reads a NAME.
func (r *reader) readName() string {
	if !quote.Name(r.next().Word) {
		r.refuse(api.ErrForm)
	}
	return r.needKind(api.TokWord).Word
}

// readNumber reads what tells the N of a command of the kind.
func (r *reader) readNumber(kind int) int64 {
	switch {
	case kind == api.CmdIncr && r.take(api.TokSign, "-"):
		return -r.needKind(api.TokNum).N
	case kind == api.CmdTimeout && r.take(api.TokWord, "never"):
		return never
	}
	return r.needKind(api.TokNum).N
}

// readCond reads an EXPR.
func (r *reader) readCond() api.Expr {
	from := r.at
	r.need(api.TokSign, "(")
	if r.err != api.OK {
		return api.Expr{}
	}
	e, to, err := expr.Parse(r.tokens, r.at)
	r.at = to
	if err != api.OK {
		r.refuse(err)
	}
	r.need(api.TokSign, ")")
	if r.err == api.OK && !expr.May(e) {
		r.at = from
		r.refuse(api.ErrDeep)
	}
	return e
}

// readBrace reads a {, where open stand open ahead of it.
func (r *reader) readBrace(open int) {
	if open == api.MaxBlock && r.isNext(api.TokSign, "{") {
		r.refuse(api.ErrDeep)
	}
	r.need(api.TokSign, "{")
}

// readBlock reads a BLOCK.
func (r *reader) readBlock(open int) []api.Cmd {
	r.readBrace(open)
	l := r.readCmds(open + 1)
	r.need(api.TokSign, "}")
	return l
}

// readRules reads RULES.
func (r *reader) readRules(open int) []api.Rule {
	r.readBrace(open)
	l := []api.Rule{r.readRule(open + 1)}
	for r.err == api.OK && !r.take(api.TokSign, "}") {
		l = append(l, r.readRule(open+1))
	}
	return l
}

// readRule reads a rule.
func (r *reader) readRule(open int) api.Rule {
	rule := api.Rule{Peer: used, At: r.next().At}
	told := r.take(api.TokFlag, "i")
	if told {
		rule.Peer = r.needKind(api.TokNum).N
	}
	if r.next().Kind == api.TokFlag {
		rule.Kind, rule.Pattern = api.RulePattern, r.readPattern()
	} else {
		rule.Kind = r.readRuleWord(told)
	}
	rule.Body = r.readBlock(open)
	return rule
}

// readPattern reads a flag of a pattern, and its text.
func (r *reader) readPattern() api.Pattern {
	for kind := api.Exact; kind <= api.Regex; kind++ {
		if r.take(api.TokFlag, flagOf(kind)) {
			return api.Pattern{Kind: kind, Text: r.readPlain()}
		}
	}
	r.refuse(api.ErrForm)
	return api.Pattern{}
}

// readPlain reads a TEXT without variables.
func (r *reader) readPlain() string {
	text, plain := quote.Plain(r.next().Parts)
	if !plain {
		r.refuse(api.ErrForm)
	}
	r.needKind(api.TokText)
	return text
}

// readRuleWord reads the word of a rule without a pattern, and answers its kind; told: its peer is.
func (r *reader) readRuleWord(told bool) int {
	for kind := api.RuleTimeout; kind <= api.RuleDefault; kind++ {
		if (kind == api.RuleEof || !told) && r.take(api.TokWord, wordOf(kind)) {
			return kind
		}
	}
	r.refuse(api.ErrForm)
	return 0
}
