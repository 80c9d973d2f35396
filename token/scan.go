package token

import (
	"strings"

	"souffleur/api"
	"souffleur/num"
	"souffleur/quote"
)

// behindGap answers the place behind the blanks and remarks that stand at the place at.
func behindGap(s string, at int) int {
	for at < len(s) {
		switch {
		case isBlank(s[at]):
			at++
		case s[at] == '#':
			at = runEnd(s, at, isOfRemark)
		default:
			return at
		}
	}
	return at
}

func isBlank(c byte) bool {
	return c == ' ' || c == '\t' || c == '\n'
}

func isOfRemark(c byte) bool {
	return c != '\n'
}

// readToken reads the token that begins at the place at, where s hasn't ended, and answers it and the place behind it; or an error, and its place.
func readToken(s string, at int) (api.Token, int, api.Errno) {
	switch c := s[at]; {
	case c == '"':
		return readText(s, at)
	case isDigit(c):
		return readNumber(s, at)
	case isSmallLetter(c):
		return readWord(s, at, api.TokWord, at, runEnd(s, at, mayFollow))
	case c == '$':
		return readWord(s, at, api.TokVar, at+1, runEnd(s, at+1, mayFollow))
	case c == '-' && at+1 < len(s) && isSmallLetter(s[at+1]):
		return readWord(s, at, api.TokFlag, at+1, runEnd(s, at+1, isSmallLetter))
	}
	return readWord(s, at, api.TokSign, at, signEnd(s, at))
}

// readText is readToken for a text.
func readText(s string, at int) (api.Token, int, api.Errno) {
	parts, bytes, err := quote.Parse(s[at:])
	return api.Token{Kind: api.TokText, Parts: parts}, at + bytes, err
}

// readNumber is readToken for a number.
func readNumber(s string, at int) (api.Token, int, api.Errno) {
	to := runEnd(s, at, isDigit)
	n, err := num.Parse(s[at:to])
	if err != api.OK {
		return api.Token{}, at, err
	}
	return api.Token{Kind: api.TokNum, N: n}, to, api.OK
}

// readWord is readToken for a kind that has a Word, which goes from a place up to another.
func readWord(s string, at, kind, from, to int) (api.Token, int, api.Errno) {
	word := s[from:to]
	if !mayHave(kind, word) {
		return api.Token{}, at, api.ErrForm
	}
	// The Word is the caller's own: it mustn't hold on to s.
	return api.Token{Kind: kind, Word: strings.Clone(word)}, to, api.OK
}

// signEnd answers the place behind the sign at the place at, the longer one of two; at itself, if there is none.
func signEnd(s string, at int) int {
	for to := min(at+2, len(s)); to > at; to-- {
		if isSign(s[at:to]) {
			return to
		}
	}
	return at
}
