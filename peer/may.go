package peer

import (
	"souffleur/api"
	"souffleur/glob"
	"souffleur/row"
)

// May tells whether p may be.
func May(p api.Peer) bool {
	if !mayCap(int64(p.Cap)) || len(p.Places) == 0 || len(p.Places) > api.MaxPlaces {
		return false
	}
	for i, place := range p.Places {
		if !row.IsName(place.Name) || isAmong(place.Name, p.Places[:i]) || !mayEdges(place.Edges, p) {
			return false
		}
	}
	return true
}

func mayCap(n int64) bool {
	return 1 <= n && n <= api.MaxPipe
}

// isAmong tells whether one of the places l has the name.
func isAmong(name string, l []api.Place) bool {
	for _, place := range l {
		if place.Name == name {
			return true
		}
	}
	return false
}

// mayEdges tells whether l may be the edges of a place of p.
func mayEdges(l []api.Edge, p api.Peer) bool {
	if len(l) > api.MaxEdges {
		return false
	}
	for _, e := range l {
		if !mayEdge(e, p) {
			return false
		}
	}
	return true
}

// mayEdge tells whether e, an edge of p, has all that its kind has, and nothing else.
func mayEdge(e api.Edge, p api.Peer) bool {
	word, form := formOf(e.Kind)
	return word != "" &&
		(form&aText == 0 && e.Text == "" || form&aText != 0 && mayText(e.Kind, e.Text, p.Cap)) &&
		(form&aDelay == 0 && e.Lo == 0 && e.Hi == 0 || form&aDelay != 0 && mayDelays(e.Lo, e.Hi)) &&
		(form&aGoto == 0 && e.To == 0 || form&aGoto != 0 && 0 <= e.To && e.To < len(p.Places))
}

// mayText tells whether text may be that of an edge of the kind, where so many bytes may be under way.
func mayText(kind int, text string, most int) bool {
	if kind == api.EdgeEmit {
		return text != "" && len(text) <= most
	}
	_, _, err := glob.Parse(text)
	return err == api.OK
}

func mayDelays(lo, hi int) bool {
	return 0 <= lo && lo <= api.MaxDelay && (hi == ever || lo <= hi && hi <= api.MaxDelay)
}
