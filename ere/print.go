package ere

import (
	"math/bits"
	"strconv"
	"strings"

	"souffleur/api"
)

// Print answers the text of r.
func Print(r api.Re) (string, api.Errno) {
	var s shape
	if !s.fits(r, expression, 0) {
		return "", api.ErrArg
	}
	out := appendRe(nil, r)
	if len(out) > api.MaxPattern {
		return "", api.ErrLong
	}
	return string(out), api.OK
}

// appendRe appends to out the text of r, or so much of it that out is longer than a text may be.
func appendRe(out []byte, r api.Re) []byte {
	if len(out) > api.MaxPattern {
		return out
	}
	switch r.Kind {
	case api.ReSet:
		return appendSet(out, r.Set)
	case api.ReBegin:
		return append(out, '^')
	case api.ReEnd:
		return append(out, '$')
	case api.ReCat:
		return appendKids(out, r.Kids, "")
	case api.ReAlt:
		return appendKids(out, r.Kids, "|")
	case api.ReRepeat:
		return append(appendRe(out, r.Kids[0]), repeatSign(r.Lo, r.Hi)...)
	case api.ReGroup:
		return append(appendRe(append(out, '('), r.Kids[0]), ')')
	}
	return out
}

// appendKids appends to out the texts of the kids, with the sign between.
func appendKids(out []byte, kids []api.Re, sign string) []byte {
	for i, kid := range kids {
		if i > 0 {
			out = append(out, sign...)
		}
		out = appendRe(out, kid)
	}
	return out
}

// repeatSign answers what stands behind something that is repeated lo up to hi times.
func repeatSign(lo, hi int) string {
	switch {
	case lo == 0 && hi == -1:
		return "*"
	case lo == 1 && hi == -1:
		return "+"
	case lo == 0 && hi == 1:
		return "?"
	case hi == lo:
		return "{" + strconv.Itoa(lo) + "}"
	case hi == -1:
		return "{" + strconv.Itoa(lo) + ",}"
	}
	return "{" + strconv.Itoa(lo) + "," + strconv.Itoa(hi) + "}"
}

// appendSet appends to out the text of one byte of the set.
func appendSet(out []byte, set api.Set) []byte {
	switch size(set) {
	case 0:
		return append(out, "[^\x00-\xff]"...)
	case 1:
		return appendByte(out, firstIn(set, 0), atomSigns)
	case 256:
		return append(out, '.')
	}
	// A ^ means something else as the first byte, so it is printed as signs are, wherever it stands.
	const signs = itemSigns + "^"
	out = append(out, '[')
	for lo := firstIn(set, 0); lo < 256; {
		behind := firstIn(others(set), lo)
		out = appendByte(out, lo, signs)
		if lo < behind-1 {
			out = appendByte(append(out, '-'), behind-1, signs)
		}
		lo = firstIn(set, behind)
	}
	return append(out, ']')
}

// appendByte appends to out the byte c, behind a \ if it is one of signs.
func appendByte(out []byte, c int, signs string) []byte {
	if strings.IndexByte(signs, byte(c)) >= 0 {
		out = append(out, '\\')
	}
	return append(out, byte(c))
}

// size answers how many bytes are in the set.
func size(set api.Set) int {
	n := 0
	for _, word := range set {
		n += bits.OnesCount64(word)
	}
	return n
}

// firstIn answers the first byte from c on that is in the set; 256 if there is none.
func firstIn(set api.Set, c int) int {
	for c < 256 && set[c/64]>>(c%64)&1 == 0 {
		c++
	}
	return c
}
