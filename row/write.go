package row

import "souffleur/api"

// AppendWords puts the words l behind out, each a token.
func AppendWords(out []api.Token, l ...string) []api.Token {
	for _, word := range l {
		out = append(out, api.Token{Kind: api.TokWord, Word: word})
	}
	return out
}

// AppendSign puts a sign behind out.
func AppendSign(out []api.Token, sign string) []api.Token {
	return append(out, api.Token{Kind: api.TokSign, Word: sign})
}

// AppendFlag puts a flag, told without its -, behind out.
func AppendFlag(out []api.Token, flag string) []api.Token {
	return append(out, api.Token{Kind: api.TokFlag, Word: flag})
}

// AppendNumber puts a number behind out.
func AppendNumber(out []api.Token, n int64) []api.Token {
	return append(out, api.Token{Kind: api.TokNum, N: n})
}

// AppendPlain puts a text without variables behind out.
func AppendPlain(out []api.Token, text string) []api.Token {
	t := api.Token{Kind: api.TokText}
	if text != "" {
		t.Parts = []api.Part{{Text: text}}
	}
	return append(out, t)
}
