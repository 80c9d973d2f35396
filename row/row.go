// Package row holds what texts made of tokens have in common: their tokens are read from the left, and put one behind the other. It is a help to the layers that read and write such texts, and none itself.
package row

import (
	"souffleur/api"
	"souffleur/quote"
)

// Reader reads Tokens from the left. Once Err isn't OK, At is the place with which it can't go on, there is nothing next, and all else that is asked of it counts nothing.
type Reader struct {
	Tokens []api.Token
	At     int
	Err    api.Errno
}

// Refuse ends the reading at what is next; only the first time counts.
func (r *Reader) Refuse(err api.Errno) {
	if r.Err == api.OK {
		r.Err = err
	}
}

// Next answers the token that is read next; a zero one, if there is none.
func (r *Reader) Next() api.Token {
	if r.Err != api.OK || r.At == len(r.Tokens) {
		return api.Token{}
	}
	return r.Tokens[r.At]
}

// IsNext tells whether a token with this Word is next.
func (r *Reader) IsNext(kind int, word string) bool {
	t := r.Next()
	return t.Kind == kind && t.Word == word
}

// Take reads a token with this Word, if it is next, and tells whether it was.
func (r *Reader) Take(kind int, word string) bool {
	is := r.IsNext(kind, word)
	if is {
		r.At++
	}
	return is
}

// Need reads a token with this Word.
func (r *Reader) Need(kind int, word string) {
	if !r.Take(kind, word) {
		r.Refuse(api.ErrForm)
	}
}

// NeedKind reads a token of the kind, and answers it.
func (r *Reader) NeedKind(kind int) api.Token {
	t := r.Next()
	if t.Kind != kind {
		r.Refuse(api.ErrForm)
		return api.Token{}
	}
	r.At++
	return t
}

// NeedName reads a word that is a name, and answers it.
func (r *Reader) NeedName() string {
	if !quote.Name(r.Next().Word) {
		r.Refuse(api.ErrForm)
	}
	return r.NeedKind(api.TokWord).Word
}

// NeedPlain reads a text without variables, and answers it.
func (r *Reader) NeedPlain() string {
	text, plain := quote.Plain(r.Next().Parts)
	if !plain {
		r.Refuse(api.ErrForm)
	}
	r.NeedKind(api.TokText)
	return text
}

// Place answers where in s, whose tokens are read, the one at the place at stands; how many bytes s has, if there is none.
func (r *Reader) Place(s string, at int) int {
	if at == len(r.Tokens) {
		return len(s)
	}
	return r.Tokens[at].At
}

// IsName tells whether s may stand as a word that is a name: those names that are a digit are no words.
func IsName(s string) bool {
	return quote.Name(s) && !('0' <= s[0] && s[0] <= '9')
}
