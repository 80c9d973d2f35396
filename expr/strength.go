package expr

import "souffleur/api"

// How tightly ops bind, and what isn't joined by one: nothing hangs on that numbers bind more tightly than signs.
const (
	none = iota
	weakest
	both
	equal
	less
	sum
	product
	sign
)

// strength answers how tightly op binds; none, if it is no op.
func strength(op string) int {
	switch op {
	case "||":
		return weakest
	case "&&":
		return both
	case "==", "!=":
		return equal
	case "<", ">", "<=", ">=":
		return less
	case "+", "-":
		return sum
	case "*", "/", "%":
		return product
	}
	return none
}

// strengthOf answers how tightly e, which may be, binds.
func strengthOf(e api.Expr) int {
	if e.Kind == api.ExprBin {
		return strength(e.Op)
	}
	return sign
}
