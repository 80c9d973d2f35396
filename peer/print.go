package peer

import (
	"souffleur/api"
	"souffleur/row"
)

// tokensOf answers the tokens of p, which may be.
func tokensOf(p api.Peer) []api.Token {
	out := row.AppendNumber(row.AppendWords(nil, "cap"), int64(p.Cap))
	for _, place := range p.Places {
		out = row.AppendWords(out, "at", place.Name)
		if place.Echo {
			out = row.AppendWords(out, "echo")
		}
		out = row.AppendSign(out, "{")
		for _, e := range place.Edges {
			out = appendEdge(out, e, p)
		}
		out = row.AppendSign(out, "}")
	}
	return out
}

// appendEdge puts the tokens of e, an edge of p, behind out.
func appendEdge(out []api.Token, e api.Edge, p api.Peer) []api.Token {
	word, form := formOf(e.Kind)
	out = row.AppendWords(out, word)
	if form&aText != 0 {
		out = row.AppendPlain(out, e.Text)
	}
	if form&aDelay != 0 {
		out = row.AppendNumber(row.AppendWords(out, "after"), int64(e.Lo))
		if e.Hi == ever {
			out = row.AppendWords(out, "ever")
		} else {
			out = row.AppendNumber(out, int64(e.Hi))
		}
	}
	if form&aGoto != 0 {
		out = row.AppendWords(out, "goto", p.Places[e.To].Name)
	}
	return out
}
