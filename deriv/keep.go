package deriv

import (
	"cmp"
	"slices"
)

// keeper numbers turns anew: those that something waits within, each that goes on otherwise than the others.
type keeper struct {
	from *look
	// to tells of each turn what it is now; 0: that isn't known yet.
	to    []int
	turns []turn
}

// goOnFrom makes what is reached in a look what the machine goes on from. No more is kept than there are unlike ways to go on, however long the text is.
func (m *Machine) goOnFrom(here *look) {
	k := keeper{from: here, to: make([]int, len(here.turns)+len(here.begun)), turns: []turn{nil}}
	for i, w := range here.waits {
		here.waits[i].turn = k.keep(w.turn)
	}
	m.waits, m.turns, m.over = here.waits, k.turns, here.over
}

// keep answers what the turn n is now.
func (k *keeper) keep(n int) int {
	if n == 0 || k.to[n] != 0 {
		return k.to[n]
	}
	kept := k.anew(k.turnOf(n))
	same := func(t turn) bool { return slices.Equal(t, kept) }
	at := slices.IndexFunc(k.turns, same)
	if at < 0 {
		at = len(k.turns)
		k.turns = append(k.turns, kept)
	}
	k.to[n] = at
	return at
}

// turnOf answers the turn n, of those that were there or of those that begin here.
func (k *keeper) turnOf(n int) turn {
	old := len(k.from.turns)
	if n < old {
		return k.from.turns[n]
	}
	var begun turn
	for i, times := range k.from.begun[n-old] {
		if times != 0 {
			begun = append(begun, within{i, times})
		}
	}
	return begun
}

// anew answers the turn t with the new numbers of those that it is within, rising, each once.
func (k *keeper) anew(t turn) turn {
	var kept turn
	for _, w := range t {
		to := k.keep(w.turn)
		at, met := slices.BinarySearchFunc(kept, to, func(w within, n int) int { return cmp.Compare(w.turn, n) })
		if met {
			kept[at].times |= w.times
		} else {
			kept = slices.Insert(kept, at, within{to, w.times})
		}
	}
	return kept
}
