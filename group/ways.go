package group

import "souffleur/api"

// What was done with a part where a track is.
const (
	entered = iota
	ended
	// times and n: of a repeat that is apart, n times ended.
	times
)

// nobody is no part.
const nobody = -1

// finder holds the ways of an expression, and of what is within it, in a text, up to a place.
type finder struct {
	parts []part
	text  string
	to    int
	// known are the ways that were asked for: of the whole, and of the times of repeats that are apart. Those are found by themselves, each once: if tracks knew how often each of some repeats within one another was gone over, they would soon be beyond all bounds.
	known map[spot]*ways
}

// spot is a part and a place that it begins at.
type spot struct {
	part, place int
}

// ways are the first ways of a part from a place to all others, the first one of them first, as far as they were asked for.
type ways struct {
	in   *finder
	part int
	// tracks are those to be gone on with yet, the first one last.
	tracks []track
	// met tells where tracks were, 64 places a word. What goes on from there a second time comes to no place that wasn't come to before.
	met   map[crowd]uint64
	found []way
}

// track is a way within a part, as far as it has come.
type track struct {
	part, done, place int
	// mover is the innermost repeat of which a time began at this place that mustn't be over no bytes; or nobody. Which others around it there are doesn't matter: no way leaves that time without a byte, and behind one there are none.
	mover int
	// count is how many times ended of the repeat that counts, but isn't apart, in one more of which the track is; 0 if it is in none.
	count int
	// tried is in how many ways the track went on before.
	tried int
	trail *mark
}

// crowd is where tracks may be, but for the place among 64.
type crowd struct {
	part, done, mover, count, block int
}

func newFinder(r api.Re, s string, to int) *finder {
	return &finder{parts: partsOf(nil, r, nobody), text: s, to: to, known: map[spot]*ways{}}
}

// waysOf answers the ways of the part n from the place on.
func (in *finder) waysOf(n, place int) *ways {
	at := spot{n, place}
	w, ok := in.known[at]
	if !ok {
		w = &ways{in: in, part: n, met: map[crowd]uint64{}}
		w.push(track{part: n, place: place, mover: nobody})
		in.known[at] = w
	}
	return w
}

// nth answers the way behind n others; false if there are no more.
func (w *ways) nth(n int) (way, bool) {
	for len(w.found) <= n {
		next, ok := w.next()
		if !ok {
			return way{}, false
		}
		w.found = append(w.found, next)
	}
	return w.found[n], true
}

// next goes on to the next way that has its end where none ahead has.
func (w *ways) next() (way, bool) {
	for len(w.tracks) > 0 {
		t := w.tracks[len(w.tracks)-1]
		w.tracks = w.tracks[:len(w.tracks)-1]
		if t.tried == 0 && !w.isNew(t) {
			continue
		}
		switch {
		case t.done == entered:
			w.enter(t)
		case t.done >= times:
			w.repeatApart(t)
		case t.part == w.part:
			return way{t.place, t.trail}, true
		default:
			w.leave(t)
		}
	}
	w.tracks, w.met = nil, nil
	return way{}, false
}

// isNew notes where a track is, and tells whether none was there before.
func (w *ways) isNew(t track) bool {
	at := crowd{t.part, t.done, t.mover, t.count, t.place / 64}
	bit := uint64(1) << (t.place % 64)
	before := w.met[at]
	w.met[at] = before | bit
	return before&bit == 0
}

// push leaves a track to be gone on with, ahead of those that were left before.
func (w *ways) push(t track) {
	t.tried = 0
	w.tracks = append(w.tracks, t)
}

// enter goes on from where a part begins.
func (w *ways) enter(t track) {
	p := &w.in.parts[t.part]
	switch p.Kind {
	case api.ReCat:
		t.part = p.kids[0]
	case api.ReAlt:
		w.tryKid(t)
		return
	case api.ReGroup:
		t.part, t.trail = p.kids[0], begins(t.trail, p.N, t.place)
	case api.ReRepeat:
		w.begin(t)
		return
	case api.ReSet:
		if t.place >= w.in.to || !p.has(w.in.text[t.place]) {
			return
		}
		t.done, t.place, t.mover = ended, t.place+1, nobody
	default:
		if p.Kind == api.ReBegin && t.place > 0 || p.Kind == api.ReEnd && t.place < len(w.in.text) {
			return
		}
		t.done = ended
	}
	w.push(t)
}

// tryKid goes on by the first Kid of a ReAlt that wasn't tried yet.
func (w *ways) tryKid(t track) {
	kids := w.in.parts[t.part].kids
	kid := kids[t.tried]
	t.tried++
	if t.tried < len(kids) {
		w.tracks = append(w.tracks, t)
	}
	t.part = kid
	w.push(t)
}

// begin goes on from where a repeat begins.
func (w *ways) begin(t track) {
	if !w.in.parts[t.part].apart {
		w.repeat(t, 0)
		return
	}
	t.done = times
	w.push(t)
}

// leave goes on from where a part, which isn't all, ends.
func (w *ways) leave(t track) {
	p := &w.in.parts[t.part]
	if p.next != 0 {
		t.part, t.done = p.next, entered
		w.push(t)
		return
	}
	t.part = p.parent
	p = &w.in.parts[t.part]
	switch p.Kind {
	case api.ReGroup:
		t.trail = ends(t.trail, p.N, t.place)
	case api.ReRepeat:
		if t.mover != t.part {
			// If the repeat doesn't count, the track's count may be another one's: any will do.
			w.repeat(t, p.oneMore(t.count))
		}
		return
	}
	w.push(t)
}

// repeat goes on from behind n times of a repeat: by another time, or else from where the repeat ends.
func (w *ways) repeat(t track, n int) {
	p := &w.in.parts[t.part]
	kid := t
	kid.part, kid.done = p.kids[0], entered
	if p.counts {
		kid.count, t.count = n, 0
	}
	if n >= p.Lo {
		kid.mover = t.part
		t.done = ended
		w.push(t)
	}
	if p.mayGoOn(n) {
		w.push(kid)
	}
}

// repeatApart is repeat of a repeat that is apart: by the first way of another time that wasn't tried yet, or, if there is none, from where the repeat ends.
func (w *ways) repeatApart(t track) {
	p := &w.in.parts[t.part]
	n := t.done - times
	for p.mayGoOn(n) {
		time, ok := w.in.waysOf(p.kids[0], t.place).nth(t.tried)
		if !ok {
			break
		}
		t.tried++
		if time.end > t.place || n < p.Lo {
			w.tracks = append(w.tracks, t)
			if time.end > t.place {
				t.mover = nobody
			}
			t.done, t.place, t.trail = times+p.oneMore(n), time.end, goesOver(t.trail, time.trail)
			w.push(t)
			return
		}
	}
	if n >= p.Lo {
		t.done = ended
		w.push(t)
	}
}
