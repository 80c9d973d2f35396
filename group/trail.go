package group

import "souffleur/api"

// way is the first way of a part to a place, told by its end and by what it left behind.
type way struct {
	end   int
	trail *mark
}

// mark is what a way leaves behind where a group begins or ends, or, in one, where a time of a repeat that is apart ends. Ways that part from one another share the marks ahead of that.
type mark struct {
	ahead *mark
	// within is what the time of the repeat left behind; nil: this is the mark of a group.
	within *mark
	group  int
	// cut holds one place, and -1 for the other one.
	cut api.Cut
}

// begins answers the trail with the mark behind it of a group that begins.
func begins(trail *mark, group, place int) *mark {
	if group == 0 {
		return trail
	}
	return &mark{ahead: trail, group: group, cut: api.Cut{From: place, To: -1}}
}

// ends answers the trail with the mark behind it of a group that ends.
func ends(trail *mark, group, place int) *mark {
	if group == 0 {
		return trail
	}
	return &mark{ahead: trail, group: group, cut: api.Cut{From: -1, To: place}}
}

// goesOver answers the trail with the mark behind it of a time of a repeat. A time that is the same as the one ahead, over no bytes, says nothing more: else such repeats within one another would leave millions of marks.
func goesOver(trail, within *mark) *mark {
	if within == nil || trail != nil && trail.within == within {
		return trail
	}
	return &mark{ahead: trail, within: within}
}

// match answers the groups of the way, which is from the place from.
func (w way) match(from int) api.Match {
	var m api.Match
	for i := range m.Cuts {
		m.Cuts[i] = api.Cut{From: -1, To: -1}
	}
	m.Cuts[0] = api.Cut{From: from, To: w.end}
	w.trail.tell(&m)
	return m
}

// tell goes back over a trail, and puts into m the places of those groups that have none yet: what is met first was gone over last.
func (k *mark) tell(m *api.Match) {
	for ; k != nil; k = k.ahead {
		if k.within != nil {
			k.within.tell(m)
			continue
		}
		cut := &m.Cuts[k.group]
		if cut.To < 0 {
			cut.To = k.cut.To
		}
		if cut.From < 0 {
			cut.From = k.cut.From
		}
	}
}
