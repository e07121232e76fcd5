package log

import (
	"bytes"

	"muniment/api"
	"muniment/disk"
	"muniment/octet"
)

// spanSize is how many bytes stand ahead of a record, to say how many it has.
const spanSize = 2

// fits tells why there can't be a log of that size, if there can't.
func fits(d *disk.Disk, at, count int) api.Errno {
	switch {
	case d == nil:
		return api.ErrNone
	case at < 0 || count < leastCount || at > d.Len()-1-count: // no disk has more than MaxPages sectors
		return api.ErrArg
	}
	return api.OK
}

// nextEpoch is one that is later than that of every part that stands there: they may be those of a log that was there.
func nextEpoch(d *disk.Disk, at, count int) (uint64, api.Errno) {
	epoch := uint64(0)
	for i := range count {
		p, ok, e := readPart(d, at+1+i)
		if e != api.OK {
			return 0, e
		}
		if ok {
			epoch = max(epoch, p.epoch+1)
		}
	}
	return epoch, api.OK
}

// find looks for the log's end: where no whole record comes behind those that are there.
func (g *Log) find() api.Errno {
	base := floor(g.head.first)
	all, e := g.there(base)
	if e != api.OK {
		return e
	}
	end := int(g.head.first - base)
	// What the head tells was durable ahead of it: if it isn't there a sector was spoilt.
	if end > len(all) {
		return api.ErrSum
	}
	for n := wholeSize(all[end:]); n > 0; n = wholeSize(all[end:]) {
		end += n
	}
	g.sure = base + uint64(end)
	if g.sure < g.head.check {
		return api.ErrSum
	}
	g.tail = bytes.Clone(all[g.tailAt()-base : end])
	return api.OK
}

// there is the log's bytes from a place on, as far as its parts are there. A part of an earlier epoch than the one ahead of it doesn't go on with that one: it was kept by a fall that has lost what stood ahead of it then.
func (g *Log) there(at uint64) ([]byte, api.Errno) {
	var all []byte
	for epoch := g.head.oldest; ; at += Part {
		p, ok, e := g.part(at)
		if e != api.OK {
			return nil, e
		}
		if !ok || p.epoch < epoch {
			return all, api.OK
		}
		all = append(all, p.bytes...)
		if len(p.bytes) < Part {
			return all, api.OK
		}
		epoch = p.epoch
	}
}

// begin begins the next epoch. What stands behind the log's end on its last sector is written over: else, if a fall lost that sector's next write and kept those behind it, an old record's beginning would go on with a new one's end.
func (g *Log) begin() api.Errno {
	g.head.epoch++
	if e := writeHead(g.d, g.at, g.head); e != api.OK {
		return e
	}
	// Of a log that is full the next sector is that of its beginning.
	if g.Room() > 0 {
		if e := g.write(g.tailAt(), g.tail); e != api.OK {
			return e
		}
	}
	return g.d.Sync()
}

// add puts a record behind the others.
func (g *Log) add(p []byte) uint64 {
	at := g.End()
	size := octet.Uint(uint64(len(p)))
	g.tail = append(g.tail, size[len(size)-spanSize:]...)
	g.tail = append(g.tail, p...)
	return at
}

// firstFrom is the place of the first record that doesn't begin ahead of that place.
func (g *Log) firstFrom(place uint64) (uint64, api.Errno) {
	at := g.head.first
	for at < place {
		span, e := g.bytes(at, spanSize)
		if e != api.OK {
			return 0, e
		}
		at += uint64(spanSize + sizeOf(span))
	}
	return at, api.OK
}

// bytes is so many bytes of the log from a place on, in new memory. ErrArg: they aren't there.
func (g *Log) bytes(at uint64, n int) ([]byte, api.Errno) {
	if uint64(n) > g.End()-at {
		return nil, api.ErrArg
	}
	var out []byte
	for len(out) < n {
		p, e := g.rest(at + uint64(len(out)))
		if e != api.OK {
			return nil, e
		}
		out = append(out, p[:min(len(p), n-len(out))]...)
	}
	return out, api.OK
}

// rest is the log's bytes from a place on, up to the sector's end, or further.
func (g *Log) rest(at uint64) ([]byte, api.Errno) {
	if at >= g.tailAt() {
		return g.tail[at-g.tailAt():], api.OK
	}
	p, ok, e := g.part(at)
	if e != api.OK {
		return nil, e
	}
	if !ok || len(p.bytes) < Part {
		return nil, api.ErrArg
	}
	return p.bytes[at%Part:], api.OK
}

// part is the one in which a place stands; false: it isn't there.
func (g *Log) part(at uint64) (part, bool, api.Errno) {
	p, ok, e := readPart(g.d, g.sector(at))
	return p, ok && p.number == at/Part, e
}

// write puts bytes on the sector that begins with that place; they are on their way.
func (g *Log) write(at uint64, p []byte) api.Errno {
	return writePart(g.d, g.sector(at), part{number: at / Part, epoch: g.head.epoch, bytes: p})
}

// sector is that in which a place stands.
func (g *Log) sector(at uint64) int { return g.at + 1 + int(at/Part%g.head.count) }

func (g *Log) tailAt() uint64 { return floor(g.sure) }

// floor is the place of the first byte of a sector.
func floor(at uint64) uint64 { return at - at%Part }

// sizeOf is how many bytes the record has in front of which these stand; 0: it is none.
func sizeOf(p []byte) int {
	n := int(p[0])<<8 | int(p[1])
	if n > api.MaxRecord {
		return 0
	}
	return n
}

// wholeSize is how many bytes the record in front has, with those that say so; 0: none stands there whole.
func wholeSize(p []byte) int {
	if len(p) < spanSize {
		return 0
	}
	n := sizeOf(p)
	if n == 0 || n > len(p)-spanSize {
		return 0
	}
	return spanSize + n
}
