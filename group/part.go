package group

import (
	"slices"

	"souffleur/api"
)

// part is an expression within another one, or the whole one. Parts are numbered as they begin, so the whole has 0.
type part struct {
	api.Re
	// kids are the numbers of the Kids.
	kids []int
	// parent is the part that this one is a kid of; the whole has none.
	parent int
	// next is the part behind this one in a ReCat; 0: none is.
	next int
	// counts tells that this is a repeat of which it matters, behind one time or more, how many there were.
	counts bool
	// apart tells that it counts, and that one within it does, too: then its times are found by themselves.
	apart bool
}

// partsOf appends to parts those of r, a kid of the part parent, and of all within it.
func partsOf(parts []part, r api.Re, parent int) []part {
	n := len(parts)
	p := part{Re: r, kids: make([]int, len(r.Kids)), parent: parent}
	parts = append(parts, p)
	for i, kid := range r.Kids {
		p.kids[i] = len(parts)
		if i > 0 && r.Kind == api.ReCat {
			parts[p.kids[i-1]].next = p.kids[i]
		}
		parts = partsOf(parts, kid, n)
	}
	if r.Kind == api.ReRepeat && (r.Hi > 1 || r.Hi < 0 && r.Lo > 1) {
		parts[n].counts = true
		parts[n].apart = slices.ContainsFunc(parts[n+1:], func(p part) bool { return p.counts })
	}
	return parts
}

// oneMore answers how many times of a repeat there are with one more behind so many: of numbers from which on it goes on alike, the least.
func (p *part) oneMore(times int) int {
	return min(times+1, max(p.Lo, p.Hi))
}

// mayGoOn tells whether a repeat may have another time behind so many.
func (p *part) mayGoOn(times int) bool {
	return p.Hi < 0 || times < p.Hi
}

// has tells whether c is a byte of the part, a ReSet.
func (p *part) has(c byte) bool {
	return p.Set[c/64]>>(c%64)&1 != 0
}
