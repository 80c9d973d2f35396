package peer

import "souffleur/api"

// What may stand behind the word of an edge, in this order.
const (
	aText = 1 << iota
	aDelay
	aGoto
)

// ever is the Hi of an edge that may be waited for without end.
const ever = -1

// formOf answers the word that an edge of the kind begins with, and what stands behind it; of no kind, an empty one.
func formOf(kind int) (string, int) {
	switch kind {
	case api.EdgeEmit:
		return "emit", aText | aDelay | aGoto
	case api.EdgeLine:
		return "line", aText | aGoto
	case api.EdgeShut:
		return "shut", aDelay
	}
	return "", 0
}
