package search

import (
	"souffleur/api"
	"souffleur/glob"
)

// shell finds pieces of a pattern as a shell has them. They are runs, between any two of which stood a GlobMany; so each run stands for as many bytes as it has pieces.
type shell struct {
	runs [][]api.Glob
}

func newShell(pieces []api.Glob) shell {
	runs := [][]api.Glob{nil}
	for _, piece := range pieces {
		if piece.Kind == api.GlobMany {
			runs = append(runs, nil)
			continue
		}
		last := len(runs) - 1
		runs[last] = append(runs[last], piece)
	}
	return shell{runs}
}

// from puts each run where it stands first, but the last one where it stands last. If a run stands nowhere behind those ahead of it, it would stand nowhere either if the first one began later.
func (f shell) from(s string, at int) (api.Match, bool) {
	from, ok := firstPlace(f.runs[0], s, at)
	to := from + len(f.runs[0])
	last := len(f.runs) - 1
	for i := 1; ok && i <= last; i++ {
		run, place := f.runs[i], 0
		if i < last {
			place, ok = firstPlace(run, s, to)
		} else {
			place, ok = lastPlace(run, s, to)
		}
		to = place + len(run)
	}
	if !ok {
		return api.Match{}, false
	}
	return ungrouped(from, to), true
}

// firstPlace answers the first place, from at on, from which on the run stands, and whether there is one.
func firstPlace(run []api.Glob, s string, at int) (int, bool) {
	for place := at; place+len(run) <= len(s); place++ {
		if standsAt(run, s, place) {
			return place, true
		}
	}
	return 0, false
}

// lastPlace answers the last such place.
func lastPlace(run []api.Glob, s string, at int) (int, bool) {
	for place := len(s) - len(run); place >= at; place-- {
		if standsAt(run, s, place) {
			return place, true
		}
	}
	return 0, false
}

// standsAt tells whether the run stands from the place on, behind which s has bytes enough.
func standsAt(run []api.Glob, s string, place int) bool {
	return glob.Match(run, s[place:place+len(run)])
}
