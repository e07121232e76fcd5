package record

import (
	"muniment/api"
)

// parts are what a kind of records has beside Kind and Tx.
type parts struct {
	prev   bool
	change bool // Page, Off, After
	before bool // Before, as many bytes as After
	next   bool
	check  bool // Dirty, Open
}

// partsOf is what the records of a kind have; false: there is no such kind.
func partsOf(kind byte) (parts, bool) {
	switch kind {
	case api.Begin:
		return parts{}, true
	case api.Update:
		return parts{prev: true, change: true, before: true}, true
	case api.Undo:
		return parts{prev: true, change: true, next: true}, true
	case api.Commit, api.End:
		return parts{prev: true}, true
	case api.Check:
		return parts{prev: true, check: true}, true
	}
	return parts{}, false
}
