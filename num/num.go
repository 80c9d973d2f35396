// Package num reckons with numbers of 64 bits that never go round, and reads and writes their texts. It is layer 1: see shared/doc/01-num.md.
package num

import (
	"math"
	"strconv"
	"strings"

	"souffleur/api"
)

// Add answers the sum of a and b.
func Add(a, b int64) (int64, api.Errno) {
	sum := a + b
	// A sum that went round has a sign that neither of the two has.
	if (a^sum)&(b^sum) < 0 {
		return 0, api.ErrOver
	}
	return sum, api.OK
}

// Sub answers a less b.
func Sub(a, b int64) (int64, api.Errno) {
	difference := a - b
	// It went round just if the signs differ and it has not that of a.
	if (a^b)&(a^difference) < 0 {
		return 0, api.ErrOver
	}
	return difference, api.OK
}

// Mul answers the product of a and b.
func Mul(a, b int64) (int64, api.Errno) {
	switch a {
	case 0:
		return 0, api.OK
	case -1:
		// Dividing by -1 goes round itself, so it can't prove the product.
		return Neg(b)
	}
	product := a * b
	if product/a != b {
		return 0, api.ErrOver
	}
	return product, api.OK
}

// Div answers a divided by b, brought down to the next whole number.
func Div(a, b int64) (int64, api.Errno) {
	switch b {
	case 0:
		return 0, api.ErrZero
	case -1:
		return Neg(a)
	}
	quotient := a / b
	if mustGoDown(a%b, b) {
		quotient--
	}
	return quotient, api.OK
}

// Mod answers what is left of a when it is divided by b, with the sign of b.
func Mod(a, b int64) (int64, api.Errno) {
	if b == 0 {
		return 0, api.ErrZero
	}
	rest := a % b
	if mustGoDown(rest, b) {
		rest += b
	}
	return rest, api.OK
}

// mustGoDown tells whether a division by b that left rest was brought up: the language brings towards 0, which is up where the quotient is below 0.
func mustGoDown(rest, b int64) bool {
	return rest != 0 && (rest < 0) != (b < 0)
}

// Neg answers a with the other sign.
func Neg(a int64) (int64, api.Errno) {
	if a == math.MinInt64 {
		return 0, api.ErrOver
	}
	return -a, api.OK
}

// Parse answers the number whose text is s.
func Parse(s string) (int64, api.Errno) {
	if !isText(s) {
		return 0, api.ErrForm
	}
	n, err := strconv.ParseInt(s, 10, 64)
	if err != nil {
		// The form is known to be right, so only its size can be wrong.
		return 0, api.ErrOver
	}
	return n, api.OK
}

// isText tells whether s has the form of a number's text, whatever its size.
func isText(s string) bool {
	digits, signed := strings.CutPrefix(s, "-")
	if digits == "" {
		return false
	}
	if digits[0] == '0' {
		return digits == "0" && !signed
	}
	for i := range len(digits) {
		if digits[i] < '0' || digits[i] > '9' {
			return false
		}
	}
	return true
}

// Print answers the text of n.
func Print(n int64) string {
	return strconv.FormatInt(n, 10)
}
