package log

import (
	"bytes"

	"muniment/api"
	"muniment/disk"
	"muniment/octet"
)

// A sector is the sum of all that stands behind it, a byte that says what it is, its numbers, noughts; and of a part, at the end, the log's bytes.
const (
	sumSize   = 4
	numbersAt = sumSize + 1
	bytesAt   = api.PageSize - Part
)

// What a sector is.
const (
	isHead byte = iota + 1
	isPart
)

// head is what the first sector tells.
type head struct {
	epoch  uint64 // that of the last opening
	oldest uint64 // no part of the log is of an earlier epoch
	start  uint64
	first  uint64 // the place of the first record that doesn't begin ahead of start
	check  uint64
	count  uint64
}

// part is the log's bytes on one of the other sectors.
type part struct {
	number uint64 // the place of its first byte, by Part
	epoch  uint64
	size   uint64
	bytes  []byte
}

func (h *head) numbers() []*uint64 {
	return []*uint64{&h.epoch, &h.oldest, &h.start, &h.first, &h.check, &h.count}
}

func (p *part) numbers() []*uint64 { return []*uint64{&p.number, &p.epoch, &p.size} }

// readHead is the head on a sector. ErrSum, ErrForm: there is none.
func readHead(d *disk.Disk, i int) (head, api.Errno) {
	b, e := d.Read(i)
	if e != api.OK {
		return head{}, e
	}
	var h head
	e = unseal(b, isHead, h.numbers())
	return h, e
}

func writeHead(d *disk.Disk, i int, h head) api.Errno {
	return d.Write(i, sealed(isHead, h.numbers(), nil))
}

// readPart is the part on a sector; false: there is none.
func readPart(d *disk.Disk, i int) (part, bool, api.Errno) {
	b, e := d.Read(i)
	if e != api.OK {
		return part{}, false, e
	}
	var p part
	if unseal(b, isPart, p.numbers()) != api.OK {
		return part{}, false, api.OK
	}
	p.bytes = b[bytesAt:][:min(p.size, Part)]
	return p, true, api.OK
}

func writePart(d *disk.Disk, i int, p part) api.Errno {
	p.size = uint64(len(p.bytes))
	return d.Write(i, sealed(isPart, p.numbers(), p.bytes))
}

// sealed is a sector's bytes.
func sealed(kind byte, numbers []*uint64, tail []byte) []byte {
	b := make([]byte, api.PageSize)
	b[sumSize] = kind
	at := numbersAt
	for _, u := range numbers {
		at += copy(b[at:], octet.Uint(*u))
	}
	copy(b[bytesAt:], tail)
	copy(b, sumOf(b))
	return b
}

// unseal reads a sector's numbers. ErrSum: what stands there wasn't written so; else ErrForm: it is something else.
func unseal(b []byte, kind byte, numbers []*uint64) api.Errno {
	switch {
	case !bytes.Equal(b[:sumSize], sumOf(b)):
		return api.ErrSum
	case b[sumSize] != kind:
		return api.ErrForm
	}
	at := numbersAt
	for _, u := range numbers {
		*u, at, _ = octet.ReadUint(b, at)
	}
	return api.OK
}

// sumOf is the sum that stands in front of a sector's other bytes.
func sumOf(b []byte) []byte {
	u := octet.Uint(uint64(octet.Sum(b[sumSize:])))
	return u[len(u)-sumSize:]
}
