package pool

import (
	"slices"

	"muniment/api"
)

// lastSize is how many bytes of a sector tell the place of its page's last record.
const lastSize = 8

// bodySize is how many are the page's own.
const bodySize = api.PageSize - lastSize

// frame is a page in memory.
type frame struct {
	bytes [bodySize]byte
	// last is the place of its last record; highest the highest of those by which it was changed in memory.
	last    uint64
	highest uint64
	// changed: is it other than on the disk? since: the record by which it became so.
	changed bool
	since   uint64
	pins    int
	// used is the number of the call that asked for it last.
	used int
}

// change puts bytes into the page, by the record at lsn.
func (f *frame) change(off int, b []byte, lsn uint64) {
	copy(f.bytes[off:], b)
	f.last = lsn
	f.highest = max(f.highest, lsn)
	if !f.changed {
		f.changed = true
		f.since = lsn
	}
}

// sector is what stands on the page's sector.
func (f *frame) sector() []byte {
	s := make([]byte, 0, api.PageSize)
	for shift := 8 * (lastSize - 1); shift >= 0; shift -= 8 {
		s = append(s, byte(f.last>>shift))
	}
	return append(s, f.bytes[:]...)
}

// frameOf is the page that stands on a sector.
func frameOf(s []byte) *frame {
	f := &frame{}
	for _, b := range s[:lastSize] {
		f.last = f.last<<8 | uint64(b)
	}
	copy(f.bytes[:], s[lastSize:])
	return f
}

func (p *Pool) has(i int) bool { return i >= 0 && i < p.pages }

// page brings a page into memory, if it isn't there.
func (p *Pool) page(i int) (*frame, api.Errno) {
	if !p.has(i) {
		return nil, api.ErrArg
	}
	f := p.held[i]
	if f == nil {
		s, e := p.d.Read(p.at + i)
		if e != api.OK {
			return nil, e
		}
		if e := p.makeRoom(); e != api.OK {
			return nil, e
		}
		f = frameOf(s)
		p.held[i] = f
	}
	p.asked++
	f.used = p.asked
	return f, api.OK
}

// makeRoom sees that there is a frame for one page more.
func (p *Pool) makeRoom() api.Errno {
	if len(p.held) < p.frames {
		return api.OK
	}
	i, ok := p.idle()
	if !ok {
		return api.ErrFull
	}
	if p.held[i].changed {
		if e := p.store(i); e != api.OK {
			return e
		}
	}
	delete(p.held, i)
	return api.OK
}

// idle is that page in memory which was asked for the longest ago, of those that aren't pinned; false: all are.
func (p *Pool) idle() (int, bool) {
	least, found := 0, false
	for i, f := range p.held {
		if f.pins == 0 && (!found || f.used < p.held[least].used) {
			least, found = i, true
		}
	}
	return least, found
}

// changed are the pages in memory that are other than on the disk, rising.
func (p *Pool) changed() []int {
	var out []int
	for i, f := range p.held {
		if f.changed {
			out = append(out, i)
		}
	}
	slices.Sort(out)
	return out
}

// store puts a page on its way to the disk, behind all its records.
func (p *Pool) store(i int) api.Errno {
	f := p.held[i]
	if f.highest >= p.g.Sure() {
		if e := p.g.Flush(); e != api.OK {
			return e
		}
	}
	if e := p.d.Write(p.at+i, f.sector()); e != api.OK {
		return e
	}
	p.settle()
	// A write that is on its way already is the first one by which the page isn't durable.
	if _, ok := p.onWay[i]; !ok {
		p.onWay[i] = f.since
	}
	return api.OK
}

// settle forgets the pages that are on their way, if the log was made durable behind them: they are durable too.
func (p *Pool) settle() {
	if sure := p.g.Sure(); sure > p.sure {
		clear(p.onWay)
		p.sure = sure
	}
}
