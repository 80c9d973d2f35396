package search

import (
	"strings"

	"souffleur/api"
	"souffleur/ere"
	"souffleur/glob"
)

// finder finds a pattern that may be.
type finder interface {
	// from answers what is found in s from the place at on, which s has, and whether anything is.
	from(s string, at int) (api.Match, bool)
}

// read answers the finder of p, and whether p may be.
func read(p api.Pattern) (finder, bool) {
	switch p.Kind {
	case api.Exact:
		return exact(p.Text), len(p.Text) <= api.MaxPattern
	case api.Shell:
		pieces, _, err := glob.Parse(p.Text)
		return newShell(pieces), err == api.OK
	case api.Regex:
		re, _, err := ere.Parse(p.Text)
		return newRegex(re), err == api.OK
	}
	return nil, false
}

// ungrouped answers the match of a piece of a text, without groups.
func ungrouped(from, to int) api.Match {
	var m api.Match
	for i := range m.Cuts {
		m.Cuts[i] = api.Cut{From: -1, To: -1}
	}
	m.Cuts[0] = api.Cut{From: from, To: to}
	return m
}

// exact finds a text.
type exact string

func (text exact) from(s string, at int) (api.Match, bool) {
	ahead := strings.Index(s[at:], string(text))
	if ahead < 0 {
		return api.Match{}, false
	}
	from := at + ahead
	return ungrouped(from, from+len(text)), true
}
