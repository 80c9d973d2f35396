package expr

import (
	"strings"

	"souffleur/api"
	"souffleur/token"
)

// reader reads tokens from the left; where a call of it answers an error, at is the place where it can't go on.
type reader struct {
	tokens []api.Token
	at     int
}

// next answers the token that is read next; of what is none, or may be none, a zero one.
func (r *reader) next() api.Token {
	if r.at == len(r.tokens) {
		return api.Token{}
	}
	t := r.tokens[r.at]
	if _, err := token.Text(t); err != api.OK {
		return api.Token{}
	}
	return t
}

// nextSign answers the sign that is read next; of what is none, an empty one.
func (r *reader) nextSign() string {
	t := r.next()
	if t.Kind != api.TokSign {
		return ""
	}
	return t.Word
}

// readRow reads operands with ops of at least a strength between them, where open others count around it.
func (r *reader) readRow(least, open int) (api.Expr, api.Errno) {
	e, err := r.readOperand(open)
	for err == api.OK && strength(r.nextSign()) >= least {
		e, err = r.readBehind(e, open)
	}
	return e, err
}

// readBehind reads an op and what stands on its right, with left on its left.
func (r *reader) readBehind(left api.Expr, open int) (api.Expr, api.Errno) {
	op := r.nextSign()
	if open == api.MaxNest {
		return api.Expr{}, api.ErrDeep
	}
	r.at++
	// Of one strength they are taken from the left, so the right side is of a greater one.
	right, err := r.readRow(strength(op)+1, open+1)
	if err != api.OK {
		return api.Expr{}, err
	}
	return api.Expr{Kind: api.ExprBin, Op: strings.Clone(op), Kids: []api.Expr{left, right}}, api.OK
}

// readOperand reads what may stand on a side of an op.
func (r *reader) readOperand(open int) (api.Expr, api.Errno) {
	switch t := r.next(); t.Kind {
	case api.TokNum:
		r.at++
		return api.Expr{Kind: api.ExprNum, N: t.N}, api.OK
	case api.TokVar:
		r.at++
		return api.Expr{Kind: api.ExprVar, Name: strings.Clone(t.Word)}, api.OK
	}
	switch r.nextSign() {
	case "-":
		return r.readSigned(api.ExprNeg, open)
	case "!":
		return r.readSigned(api.ExprNot, open)
	case "(":
		return r.readInner(open)
	}
	return api.Expr{}, api.ErrForm
}

// readSigned reads a sign, and the operand that it is for, as an expression of the kind.
func (r *reader) readSigned(kind, open int) (api.Expr, api.Errno) {
	if open == api.MaxNest {
		return api.Expr{}, api.ErrDeep
	}
	r.at++
	kid, err := r.readOperand(open + 1)
	if err != api.OK {
		return api.Expr{}, err
	}
	return api.Expr{Kind: kind, Kids: []api.Expr{kid}}, api.OK
}

// readInner reads an expression in ( ).
func (r *reader) readInner(open int) (api.Expr, api.Errno) {
	if open == api.MaxNest {
		return api.Expr{}, api.ErrDeep
	}
	r.at++
	e, err := r.readRow(weakest, open+1)
	if err != api.OK {
		return api.Expr{}, err
	}
	if r.nextSign() != ")" {
		return api.Expr{}, api.ErrForm
	}
	r.at++
	return e, api.OK
}
