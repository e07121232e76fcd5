package record

import (
	"bytes"

	"muniment/api"
)

// reader takes bytes from the front of those that are left. Once there are fewer than it asks for it is short, and has noughts alone to tell.
type reader struct {
	left  []byte
	short bool
}

// record is the record that stands in front; that it is a right one isn't said.
func (d *reader) record() api.Record {
	var r api.Record
	r.Kind = byte(d.number(kindSize))
	r.Tx = d.number(txSize)
	has, _ := partsOf(r.Kind)
	if has.prev {
		r.Prev = d.number(placeSize)
	}
	if has.change {
		r.Page = int(d.number(pageSize))
		r.Off = int(d.number(spanSize))
		size := int(d.number(spanSize))
		if has.before {
			r.Before = d.take(size)
		}
		r.After = d.take(size)
	}
	if has.next {
		r.Next = d.number(placeSize)
	}
	if has.check {
		d.check(&r)
	}
	return r
}

// check reads the dirty pages, and whether a transaction is open.
func (d *reader) check(r *api.Record) {
	count := int(d.number(dirtySize))
	r.Open = count%2 == 1
	for range count / 2 {
		page := int(d.number(pageSize))
		r.Dirty = append(r.Dirty, api.Dirty{Page: page, Since: d.number(placeSize)})
	}
}

// number is the next number, the highest byte first.
func (d *reader) number(size int) uint64 {
	u := uint64(0)
	for _, b := range d.take(size) {
		u = u<<8 | uint64(b)
	}
	return u
}

// take is a copy of the next bytes.
func (d *reader) take(n int) []byte {
	if n > len(d.left) {
		d.left = nil
		d.short = true
		return nil
	}
	out := bytes.Clone(d.left[:n])
	d.left = d.left[n:]
	return out
}
