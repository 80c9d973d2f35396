package deriv

import "souffleur/api"

// What may be so at a place: one, both or neither.
const (
	begins = 1 // all begins here
	ends   = 2 // all ends here
	modes  = 4 // how many such there are
)

// part is an expression within another one, or the whole one. Parts are numbered as they begin, so the whole has 0.
type part struct {
	kind   int
	set    api.Set
	lo, hi int
	kids   []int
	// parent is the part that this one is a kid of; the whole has none.
	parent int
	// next is the part behind this one in a ReCat; 0: none is.
	next int
	// counter numbers the repeats that count, from 1 on; 0: this isn't one.
	counter int
	// empty tells by what is so at a place whether the part stands for the way from it to itself.
	empty [modes]bool
}

// add makes parts of r, a kid of the part parent, and of all within it, and answers the number of r.
func (m *Machine) add(r api.Re, parent int) int {
	n := len(m.parts)
	m.parts = append(m.parts, part{kind: r.Kind, set: r.Set, lo: r.Lo, hi: r.Hi, parent: parent})
	if counts(r) {
		m.counters++
		m.parts[n].counter = m.counters
	}
	kids := make([]int, len(r.Kids))
	for i, kid := range r.Kids {
		kids[i] = m.add(kid, n)
		if i > 0 && r.Kind == api.ReCat {
			m.parts[kids[i-1]].next = kids[i]
		}
	}
	m.parts[n].kids = kids
	for mode := range m.parts[n].empty {
		m.parts[n].empty[mode] = m.isEmpty(n, mode)
	}
	return n
}

// counts tells whether r is a repeat in which one time may go on in another way than the times ahead of it did.
func counts(r api.Re) bool {
	return r.Kind == api.ReRepeat && (r.Hi > 1 || r.Hi < 0 && r.Lo > 1)
}

// isEmpty tells whether the part n stands for the way from a place of the mode to itself; of its kids that is known.
func (m *Machine) isEmpty(n, mode int) bool {
	p := &m.parts[n]
	kids := 0
	for _, kid := range p.kids {
		if m.parts[kid].empty[mode] {
			kids++
		}
	}
	switch p.kind {
	case api.ReEmpty:
		return true
	case api.ReBegin:
		return mode&begins != 0
	case api.ReEnd:
		return mode&ends != 0
	case api.ReCat:
		return kids == len(p.kids)
	case api.ReRepeat:
		return p.lo == 0 || kids > 0
	}
	return kids > 0
}

// has tells whether c is a byte of the part; of a part that is no ReSet none is.
func (p *part) has(c byte) bool {
	return p.set[c/64]>>(c%64)&1 != 0
}

// top is how many times of a repeat are told apart: more than that are none, or go on as that many do.
func (p *part) top() int {
	if p.hi < 0 {
		return p.lo
	}
	return p.hi
}
