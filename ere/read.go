package ere

import (
	"strings"

	"souffleur/api"
)

// Parse answers the expression that is read from s; beside an error, the place of what is met first.
func Parse(s string) (api.Re, int, api.Errno) {
	if len(s) > api.MaxPattern {
		return api.Re{}, api.MaxPattern, api.ErrLong
	}
	in := reader{text: s}
	r, err := in.expression()
	if err == api.OK && in.at < len(s) {
		// Only a ) ends an expression ahead of the text's end, and none is open here.
		err = api.ErrForm
	}
	if err != api.OK {
		return api.Re{}, in.at, err
	}
	return r, 0, api.OK
}

// reader reads from the place at of a text on. Beside an error, at is the place of what can't be read.
type reader struct {
	text string
	at   int
	// groups have begun so far, and open of them haven't ended.
	groups, open int
}

// sees tells whether one of the bytes of signs is next.
func (in *reader) sees(signs string) bool {
	return in.at < len(in.text) && strings.IndexByte(signs, in.text[in.at]) >= 0
}

// skips goes over the byte sign, and tells whether it was next.
func (in *reader) skips(sign string) bool {
	if !in.sees(sign) {
		return false
	}
	in.at++
	return true
}

// expression reads as far as a ) that isn't of it, or the end.
func (in *reader) expression() (api.Re, api.Errno) {
	var rows []api.Re
	for len(rows) == 0 || in.skips("|") {
		r, err := in.row()
		if err != api.OK {
			return api.Re{}, err
		}
		rows = append(rows, r)
	}
	if len(rows) == 1 {
		return rows[0], api.OK
	}
	return api.Re{Kind: api.ReAlt, Kids: rows}, api.OK
}

func (in *reader) row() (api.Re, api.Errno) {
	var pieces []api.Re
	for in.at < len(in.text) && !in.sees("|)") {
		r, err := in.piece()
		if err != api.OK {
			return api.Re{}, err
		}
		pieces = append(pieces, r)
	}
	switch len(pieces) {
	case 0:
		return api.Re{Kind: api.ReEmpty}, api.OK
	case 1:
		return pieces[0], api.OK
	}
	return api.Re{Kind: api.ReCat, Kids: pieces}, api.OK
}

// piece reads an atom and, if there is one that it may have, a sign of repeat; a sign of more than that is left for the next piece, which can't begin with it.
func (in *reader) piece() (api.Re, api.Errno) {
	r, err := in.atom()
	if err != api.OK || !mayRepeat(r.Kind) {
		return r, err
	}
	repeat := api.Re{Kind: api.ReRepeat, Kids: []api.Re{r}}
	switch {
	case in.skips("*"):
		repeat.Hi = -1
	case in.skips("+"):
		repeat.Lo, repeat.Hi = 1, -1
	case in.skips("?"):
		repeat.Hi = 1
	case in.skips("{"):
		repeat.Lo, repeat.Hi, err = in.bounds()
	default:
		return r, api.OK
	}
	return repeat, err
}

// bounds reads the numbers behind a {, and its }.
func (in *reader) bounds() (lo, hi int, err api.Errno) {
	lo, err = in.number(0)
	if err != api.OK {
		return 0, 0, err
	}
	hi = lo
	if in.skips(",") {
		hi = -1
		if !in.sees("}") {
			hi, err = in.number(lo)
		}
	}
	if err != api.OK || !in.skips("}") {
		return 0, 0, api.ErrForm
	}
	return lo, hi, api.OK
}

// number reads how often something is repeated, which isn't below least.
func (in *reader) number(least int) (int, api.Errno) {
	if in.at == len(in.text) {
		return 0, api.ErrForm
	}
	n := int(in.text[in.at]) - '0'
	if n < least || n > api.MaxRepeat {
		return 0, api.ErrForm
	}
	in.at++
	return n, api.OK
}

// atom reads an atom, where the text hasn't ended.
func (in *reader) atom() (api.Re, api.Errno) {
	switch {
	case in.skips("^"):
		return api.Re{Kind: api.ReBegin}, api.OK
	case in.skips("$"):
		return api.Re{Kind: api.ReEnd}, api.OK
	case in.skips("."):
		return api.Re{Kind: api.ReSet, Set: others(api.Set{})}, api.OK
	case in.sees("("):
		return in.group()
	case in.skips("["):
		set, err := in.set()
		return api.Re{Kind: api.ReSet, Set: set}, err
	}
	c, err := in.byteBut(atomSigns)
	return api.Re{Kind: api.ReSet, Set: withSpan(api.Set{}, c, c)}, err
}

// group reads from a ( on, with all that is within, and its ).
func (in *reader) group() (api.Re, api.Errno) {
	if in.open == api.MaxNest {
		return api.Re{}, api.ErrDeep
	}
	in.at++
	in.groups++
	in.open++
	n := groupNumber(in.groups)
	kid, err := in.expression()
	if err == api.OK && !in.skips(")") {
		err = api.ErrForm
	}
	in.open--
	return api.Re{Kind: api.ReGroup, Kids: []api.Re{kid}, N: n}, err
}

// set reads the items behind a [, and the ] behind them.
func (in *reader) set() (api.Set, api.Errno) {
	var set api.Set
	inverse := in.skips("^")
	for first := true; first || !in.skips("]"); first = false {
		lo, hi, err := in.item()
		if err != api.OK {
			return api.Set{}, err
		}
		set = withSpan(set, lo, hi)
	}
	if inverse {
		set = others(set)
	}
	return set, api.OK
}

func (in *reader) item() (lo, hi byte, err api.Errno) {
	lo, err = in.byteBut(itemSigns)
	if err != api.OK || !in.skips("-") {
		return lo, lo, err
	}
	hi, err = in.byteBut(itemSigns)
	if err == api.OK && hi < lo {
		in.at--
		err = api.ErrForm
	}
	return lo, hi, err
}

// byteBut reads a byte that stands by itself, if it is none of signs, or behind a \.
func (in *reader) byteBut(signs string) (byte, api.Errno) {
	if in.skips(`\`) {
		signs = ""
	}
	if in.at == len(in.text) || in.sees(signs) {
		return 0, api.ErrForm
	}
	c := in.text[in.at]
	in.at++
	return c, api.OK
}

// withSpan answers the set with the bytes lo up to hi in it.
func withSpan(set api.Set, lo, hi byte) api.Set {
	for c := int(lo); c <= int(hi); c++ {
		set[c/64] |= 1 << (c % 64)
	}
	return set
}
