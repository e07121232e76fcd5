package chain

import (
	"math"

	"muniment/api"
	"muniment/snap"
)

// Last: the newest event's number and link, as a transaction sees it; 0: there is none.
func Last(x *snap.Tx) (uint64, [32]byte, api.Errno) {
	v, e := newest(x)
	return v.Seq, v.Link, e
}

// Add: one more event, whose number and link are made; it is told. Of two that overlap both write the event of one number, and so they clash.
func Add(x *snap.Tx, v api.Event) (api.Event, api.Errno) {
	// Whether it would be right doesn't hang on the number, and is told ahead of what the transaction answers.
	v.Seq = 1
	if !Form(v) {
		return api.Event{}, api.ErrForm
	}
	before, e := newest(x)
	if e != api.OK {
		return api.Event{}, e
	}
	v.Seq = before.Seq + 1
	v.Link, e = Link(before.Link, v)
	if e != api.OK {
		return api.Event{}, e
	}
	if e := x.Put(keyOf(v.Seq), valueOf(v)); e != api.OK {
		return api.Event{}, e
	}
	return v, api.OK
}

// List: the events from a number on, at most so many.
func List(x *snap.Tx, from uint64, most int) ([]api.Event, api.Errno) {
	if most < 0 {
		return nil, api.ErrArg
	}
	from = max(from, 1)
	// Where the sum wraps round there are no events: the list is empty then too.
	cells, e := x.Scan(keyOf(from), keyOf(from+uint64(most)))
	if e != api.OK {
		return nil, e
	}
	var out []api.Event
	for _, c := range cells {
		v, e := eventOf(c)
		if e != api.OK {
			return nil, e
		}
		out = append(out, v)
	}
	return out, api.OK
}

// newest is the newest event, the zero event if there is none. As no number is left out, it is looked for by steps that grow twofold, and behind the first that goes too far by halves.
func newest(x *snap.Tx) (api.Event, api.Errno) {
	var found api.Event
	beyond := uint64(math.MaxUint64)
	for beyond-found.Seq > 1 {
		next := found.Seq + min(max(found.Seq, 1), (beyond-found.Seq)/2)
		v, e := at(x, next)
		switch {
		case e != api.OK:
			return api.Event{}, e
		case v.Seq == 0:
			beyond = next
		default:
			found = v
		}
	}
	return found, api.OK
}

// at is the event of a number, the zero event if there is none.
func at(x *snap.Tx, seq uint64) (api.Event, api.Errno) {
	key := keyOf(seq)
	p, e := x.Get(key)
	switch {
	case e == api.ErrNone && x != nil:
		return api.Event{}, api.OK
	case e != api.OK:
		return api.Event{}, e
	}
	return eventOf(api.Cell{Key: key, Value: p})
}
