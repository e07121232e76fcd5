package shift

import (
	"muniment/api"
	"muniment/snap"
)

// State: the state, as a transaction sees it.
func (t *Table) State(x *snap.Tx) (byte, api.Errno) {
	r, e := t.reached(x)
	return r.state, e
}

// Start: the shift begins.
func (t *Table) Start(x *snap.Tx) api.Errno {
	r, e := t.reached(x)
	switch {
	case e != api.OK:
		return e
	case r.state != Old:
		return api.ErrState
	}
	return t.write(x, reach{state: Moving})
}

// Step: at most so many rows are moved, those first whose names stand first; if none is left, the shift is over: the state is New. How many.
func (t *Table) Step(x *snap.Tx, most int) (int, api.Errno) {
	r, e := t.reached(x)
	switch {
	case e == api.ErrNone:
		return 0, e
	case most < 1:
		return 0, api.ErrArg
	case e != api.OK:
		return 0, e
	case r.state != Moving:
		return 0, api.ErrState
	}
	names, _, e := t.left(x, r)
	if e != api.OK {
		return 0, e
	}
	n := min(most, len(names))
	next := reach{state: New}
	if n > 0 {
		next = reach{state: Moving, from: behind(names[n-1])}
	}
	if e := t.write(x, next); e != api.OK {
		return 0, e
	}
	return n, api.OK
}

// Kept: how many rows aren't moved, and how many are.
func (t *Table) Kept(x *snap.Tx) (int, int, api.Errno) {
	r, e := t.reached(x)
	if e != api.OK {
		return 0, 0, e
	}
	names, all, e := t.left(x, r)
	return len(names), all - len(names), e
}
