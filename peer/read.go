package peer

import (
	"slices"

	"souffleur/api"
	"souffleur/quote"
	"souffleur/row"
)

// reader reads a peer's text, whose places have the names, and tells beside what has not its form what is wrong first otherwise: at the token wrongAt.
type reader struct {
	row.Reader
	names   []string
	met     []string
	wrong   api.Errno
	wrongAt int
}

// demand holds that the token that is read next stands as it may; only the first that doesn't counts.
func (r *reader) demand(holds bool, err api.Errno) {
	if !holds && r.wrong == api.OK {
		r.wrong, r.wrongAt = err, r.At
	}
}

// readPeer reads all of it.
func (r *reader) readPeer() api.Peer {
	var p api.Peer
	r.Need(api.TokWord, "cap")
	r.demand(mayCap(r.Next().N), api.ErrLong)
	p.Cap = int(r.NeedKind(api.TokNum).N)
	for r.Err == api.OK && (len(p.Places) == 0 || r.At < len(r.Tokens)) {
		r.demand(len(p.Places) < api.MaxPlaces, api.ErrFull)
		p.Places = append(p.Places, r.readPlace(p.Cap))
	}
	return p
}

// readPlace reads a place of a peer from which so many bytes may be under way.
func (r *reader) readPlace(most int) api.Place {
	r.Need(api.TokWord, "at")
	r.demand(!slices.Contains(r.met, r.Next().Word), api.ErrMet)
	place := api.Place{Name: r.NeedName()}
	r.met = append(r.met, place.Name)
	place.Echo = r.Take(api.TokWord, "echo")
	r.Need(api.TokSign, "{")
	for r.Err == api.OK && !r.Take(api.TokSign, "}") {
		r.demand(len(place.Edges) < api.MaxEdges, api.ErrFull)
		place.Edges = append(place.Edges, r.readEdge(most))
	}
	return place
}

// readEdge reads an edge of such a peer.
func (r *reader) readEdge(most int) api.Edge {
	e := api.Edge{Kind: r.readKind()}
	_, form := formOf(e.Kind)
	if form&aText != 0 {
		e.Text = r.readText(e.Kind, most)
	}
	if form&aDelay != 0 {
		e.Lo, e.Hi = r.readDelays()
	}
	if form&aGoto != 0 {
		e.To = r.readGoto()
	}
	return e
}

// readKind reads the word of an edge, and answers its kind.
func (r *reader) readKind() int {
	for kind := api.EdgeEmit; kind <= api.EdgeShut; kind++ {
		if word, _ := formOf(kind); r.Take(api.TokWord, word) {
			return kind
		}
	}
	r.Refuse(api.ErrForm)
	return 0
}

// readText reads the TEXT of an edge of the kind.
func (r *reader) readText(kind, most int) string {
	text, _ := quote.Plain(r.Next().Parts)
	r.demand(mayText(kind, text, most), api.ErrArg)
	return r.NeedPlain()
}

// readDelays reads how many ticks it takes at least, and at most.
func (r *reader) readDelays() (int, int) {
	r.Need(api.TokWord, "after")
	lo := r.readDelay(0)
	if r.Take(api.TokWord, "ever") {
		return lo, ever
	}
	return lo, r.readDelay(lo)
}

// readDelay reads a number of ticks, which may not be below least.
func (r *reader) readDelay(least int) int {
	n := r.Next().N
	r.demand(n <= api.MaxDelay, api.ErrLong)
	r.demand(n >= int64(least), api.ErrArg)
	return int(r.NeedKind(api.TokNum).N)
}

// readGoto reads where an edge leads, and answers that place.
func (r *reader) readGoto() int {
	r.Need(api.TokWord, "goto")
	to := slices.Index(r.names, r.Next().Word)
	r.demand(to >= 0, api.ErrName)
	r.NeedName()
	return to
}
