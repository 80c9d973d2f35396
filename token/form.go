package token

import (
	"souffleur/api"
	"souffleur/quote"
)

// maxWord is how many bytes a word has at most.
const maxWord = 14

// mayBe tells whether t may be a token; where it stands counts nothing.
func mayBe(t api.Token) bool {
	switch t.Kind {
	case api.TokNum:
		return t.Word == "" && t.N >= 0 && len(t.Parts) == 0
	case api.TokText:
		return t.Word == "" && t.N == 0 && quote.May(t.Parts)
	}
	return mayHave(t.Kind, t.Word) && t.N == 0 && len(t.Parts) == 0
}

// mayHave tells whether kind is one of those that have a Word, and may have this one.
func mayHave(kind int, word string) bool {
	switch kind {
	case api.TokWord:
		return isWord(word)
	case api.TokSign:
		return isSign(word)
	case api.TokFlag:
		return isFlag(word)
	case api.TokVar:
		return quote.Name(word)
	}
	return false
}

func isWord(s string) bool {
	return s != "" && len(s) <= maxWord && isSmallLetter(s[0]) && runEnd(s, 1, mayFollow) == len(s)
}

func isSign(s string) bool {
	switch s {
	case "{", "}", "(", ")", "+", "-", "*", "/", "%", "<", ">", "<=", ">=", "==", "!=", "!", "&&", "||":
		return true
	}
	return false
}

func isFlag(s string) bool {
	switch s {
	case "i", "ex", "gl", "re":
		return true
	}
	return false
}

func isSmallLetter(c byte) bool {
	return 'a' <= c && c <= 'z'
}

func isDigit(c byte) bool {
	return '0' <= c && c <= '9'
}

// mayFollow tells whether c goes on with a word or a variable's name.
func mayFollow(c byte) bool {
	return isSmallLetter(c) || isDigit(c) || c == '_'
}

// runEnd answers the place behind the bytes from the place at on of which each is in the set.
func runEnd(s string, at int, in func(byte) bool) int {
	for at < len(s) && in(s[at]) {
		at++
	}
	return at
}
