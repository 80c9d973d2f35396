package expr

import (
	"strings"

	"souffleur/api"
)

// appendTokens puts the tokens of e, which may be, behind out.
func appendTokens(out []api.Token, e api.Expr) []api.Token {
	switch e.Kind {
	case api.ExprVar:
		return append(out, api.Token{Kind: api.TokVar, Word: strings.Clone(e.Name)})
	case api.ExprNeg:
		return appendKid(appendSign(out, "-"), e.Kids[0], sign)
	case api.ExprNot:
		return appendKid(appendSign(out, "!"), e.Kids[0], sign)
	case api.ExprBin:
		own := strength(e.Op)
		out = appendKid(out, e.Kids[0], own)
		// Of one strength they are taken from the left, so a second Kid must bind more tightly.
		return appendKid(appendSign(out, strings.Clone(e.Op)), e.Kids[1], own+1)
	}
	return append(out, api.Token{Kind: api.TokNum, N: e.N})
}

// appendKid puts the tokens of kid behind out: in ( ), if it binds less tightly than least.
func appendKid(out []api.Token, kid api.Expr, least int) []api.Token {
	if strengthOf(kid) >= least {
		return appendTokens(out, kid)
	}
	return appendSign(appendTokens(appendSign(out, "("), kid), ")")
}

func appendSign(out []api.Token, text string) []api.Token {
	return append(out, api.Token{Kind: api.TokSign, Word: text})
}
