package deriv

import "souffleur/api"

// turn is a time of a repeat that counts, from the place on where it begins: within which turns the repeat itself is gone over, and how many times of it ended there. What is within that time goes on alike for all of them, so one turn does for all times that begin at a place. So of each repeat there are no more turns than places, while ways, held apart by how often each repeat was gone over, would soon be beyond all bounds.
type turn []within

// within is a turn, or 0 for none, and the numbers of times that ended within it, a bit each.
type within struct {
	turn  int
	times uint
}

// What was done with a part within a turn.
const (
	entered = 1 << iota
	finished
)

// look goes through all that is reached at one place, over no bytes.
type look struct {
	parts []part
	mode  int
	turns []turn
	// begun tells of each repeat that counts, by the turn that it is gone over within, behind which numbers of times another one begins here. All these are one turn, whose number is behind those of turns.
	begun [][]uint
	// done tells what was done, by turns and parts.
	done  []uint8
	waits []wait
	over  bool
}

// look answers a look at a place of the mode, from the machine's turns on.
func (m *Machine) look(mode int) *look {
	all := len(m.turns) + m.counters
	return &look{parts: m.parts, mode: mode, turns: m.turns, begun: make([][]uint, m.counters), done: make([]uint8, all*len(m.parts))}
}

// isNew notes that something is done with the part n within the turn, and tells whether it wasn't done before.
func (l *look) isNew(n, turn int, what uint8) bool {
	did := &l.done[turn*len(l.parts)+n]
	if *did&what != 0 {
		return false
	}
	*did |= what
	return true
}

// enter goes to where the part n begins, within the turn.
func (l *look) enter(n, turn int) {
	if !l.isNew(n, turn, entered) {
		return
	}
	p := &l.parts[n]
	switch p.kind {
	case api.ReSet:
		l.waits = append(l.waits, wait{n, turn})
	case api.ReEnd:
		// Whether all ends here is told only when it is asked for.
		if l.mode&ends == 0 {
			l.waits = append(l.waits, wait{n, turn})
			return
		}
		l.finish(n, turn)
	case api.ReRepeat:
		l.repeat(n, turn)
	case api.ReCat:
		l.enter(p.kids[0], turn)
	case api.ReAlt, api.ReGroup:
		for _, kid := range p.kids {
			l.enter(kid, turn)
		}
	default:
		if p.empty[l.mode] {
			l.finish(n, turn)
		}
	}
}

// repeat goes to where the repeat n begins, within the turn.
func (l *look) repeat(n, turn int) {
	p := &l.parts[n]
	if p.counter > 0 {
		l.begin(n, turn, 1)
		return
	}
	if p.hi != 0 {
		l.enter(p.kids[0], turn)
	}
	if p.lo == 0 {
		l.finish(n, turn)
	}
}

// finish goes on from where the part n ends, within the turn.
func (l *look) finish(n, turn int) {
	if !l.isNew(n, turn, finished) {
		return
	}
	if n == 0 {
		l.over = true
		return
	}
	p, parent := &l.parts[n], &l.parts[l.parts[n].parent]
	switch {
	case p.next != 0:
		l.enter(p.next, turn)
	case parent.counter > 0:
		l.finishTurn(p.parent, turn)
	default:
		l.finish(p.parent, turn)
		if parent.kind == api.ReRepeat && parent.hi < 0 {
			l.enter(n, turn)
		}
	}
}

// finishTurn goes on from where the turn, one of the part n that counts, ends.
func (l *look) finishTurn(n, turn int) {
	if turn >= len(l.turns) {
		// It ends where it began. What comes of that was gone through when it did.
		return
	}
	for _, w := range l.turns[turn] {
		l.begin(n, w.turn, w.times<<1)
	}
}

// begin goes on from where so many times of the part n, which counts, may have ended, within the turn.
func (l *look) begin(n, turn int, times uint) {
	p := &l.parts[n]
	if p.hi < 0 && times>>p.lo > 1 {
		times |= 1 << p.lo
	}
	if l.parts[p.kids[0]].empty[l.mode] {
		// More times, over no bytes, may have ended here, too: from the least bit on all.
		times |= -(times & -times)
	}
	times &= 2<<p.top() - 1
	if times>>p.lo != 0 {
		l.finish(n, turn)
	}
	if p.hi > 0 {
		times &^= 1 << p.hi
	}
	if times != 0 {
		l.beginTurn(n, turn, times)
	}
}

// beginTurn goes to where another time of the part n begins, behind so many, within the turn.
func (l *look) beginTurn(n, turn int, times uint) {
	p := &l.parts[n]
	begun := &l.begun[p.counter-1]
	if *begun != nil {
		(*begun)[turn] |= times
		return
	}
	*begun = make([]uint, len(l.turns)+len(l.begun))
	(*begun)[turn] = times
	l.enter(p.kids[0], len(l.turns)+p.counter-1)
}
