package chain

import (
	"muniment/api"
	"muniment/octet"
)

// audit is what the keys of events begin with. No key of a table does: behind its first byte stands a column's number, or nothing.
const audit = "audit"

// An event's value has not its own bytes, as those, with a nought counted twice, and the link are too long for one: it is the tick, the verb, the link, how many bytes Who has, Who, and Whom.
const (
	valueVerbAt = 8
	valueLinkAt = 9
	valueSizeAt = 41
	valueWhoAt  = 42
)

// keyOf is the key of the event of a number: they stand as their numbers do.
func keyOf(seq uint64) []byte { return append([]byte(audit), octet.Uint(seq)...) }

// valueOf is the value of an event that is right.
func valueOf(v api.Event) []byte {
	out := append(octet.Int(v.Tick), v.Verb)
	out = append(out, v.Link[:]...)
	out = append(out, byte(len(v.Who)))
	out = append(out, v.Who...)
	return append(out, v.Whom...)
}

// eventOf is the event of a cell; ErrForm: it is none.
func eventOf(c api.Cell) (api.Event, api.Errno) {
	seq, end, e := octet.ReadUint(c.Key, len(audit))
	if e != api.OK || end != len(c.Key) || len(c.Value) < valueWhoAt {
		return api.Event{}, api.ErrForm
	}
	texts, size := c.Value[valueWhoAt:], int(c.Value[valueSizeAt])
	if size > len(texts) {
		return api.Event{}, api.ErrForm
	}
	v := api.Event{Seq: seq, Verb: c.Value[valueVerbAt], Who: string(texts[:size]), Whom: string(texts[size:])}
	// There are bytes enough for the tick.
	v.Tick, _, _ = octet.ReadInt(c.Value, 0)
	copy(v.Link[:], c.Value[valueLinkAt:])
	if !Form(v) {
		return api.Event{}, api.ErrForm
	}
	return v, api.OK
}
