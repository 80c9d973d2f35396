package search

import (
	"souffleur/api"
	"souffleur/deriv"
	"souffleur/group"
)

// regex finds an expression.
type regex struct {
	re api.Re
	// fresh is a machine of it, behind a text's beginning, that has taken nothing. What a copy takes isn't taken by it.
	fresh *deriv.Machine
}

func newRegex(re api.Re) regex {
	return regex{re, deriv.New(re, false)}
}

// machine answers a machine that goes on from a place of a text.
func (f regex) machine(place int) deriv.Machine {
	if place == 0 {
		return *deriv.New(f.re, true)
	}
	return *f.fresh
}

func (f regex) from(s string, at int) (api.Match, bool) {
	cut := api.Cut{From: -1, To: -1}
starts:
	for from := at; from <= len(s); from++ {
		m := f.machine(from)
		for to := from; ; to++ {
			if m.Accepts(to == len(s)) {
				cut = api.Cut{From: from, To: to}
			}
			switch {
			case to < len(s) && m.Alive():
				m.Next(s[to])
			case cut.From == from:
				break starts
			default:
				continue starts
			}
		}
	}
	return group.Find(f.re, s, cut.From, cut.To)
}
