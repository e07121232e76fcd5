package pool_test

import (
	"bytes"
	"encoding/binary"
	"fmt"
	"math/rand"
	"testing"

	"muniment/api"
	"muniment/disk"
	"muniment/log"
	"muniment/pool"
	"muniment/probe"
)

var answers = probe.Answers

// body is how many bytes a page has of its own, by the document.
const body = 504

// filled is n bytes which tell what and where each of them stands.
func filled(n int, what int) []byte {
	p := make([]byte, n)
	for i := range p {
		p[i] = byte(what) ^ byte(i) ^ byte(what>>8+i>>8)*0x55
	}
	return p
}

// version is what a page was behind a record.
type version struct {
	lsn   uint64
	bytes []byte
}

// rig is a pool on a disk with a log and sectors that aren't the pool's, and what is to be told by the document's words.
type rig struct {
	t                 *testing.T
	d                 *disk.Disk
	g                 *log.Log
	p                 *pool.Pool
	at, pages, frames int
	// was has what each page was, and is: the last one is what it is now.
	was [][]version
	// sure tells of each page from which one of these on one must be durable.
	sure []int
	pins []int
	told int
	// ready has the records that are in the log already, durable, and to be taken ahead of others.
	ready []uint64
}

// logCount is how many sectors the log has behind the first one; it stands in front, and then a sector that nobody writes.
const logCount = 40

// foreign is what the sectors have that are neither the log's nor the pool's.
var foreign = filled(api.PageSize, 77)

// newRig is a new pool; its pages have what stands there: noughts, but the second one.
func newRig(t *testing.T, pages, frames int) *rig {
	t.Helper()
	at := logCount + 2
	d, e := disk.New(at + pages + 1)
	if e != api.OK {
		t.Fatalf("disk.New: error %d", e)
	}
	answers(t, "Write", d.Write(at-1, foreign), api.OK)
	answers(t, "Write", d.Write(at+pages, foreign), api.OK)
	answers(t, "log.Format", log.Format(d, 0, logCount), api.OK)
	r := &rig{t: t, d: d, at: at, pages: pages, frames: frames, sure: make([]int, pages), pins: make([]int, pages)}
	for i := range pages {
		v := version{bytes: make([]byte, body)}
		if i == 1 {
			v = version{7, filled(body, 1000)}
			answers(t, "Write", d.Write(at+i, sector(v)), api.OK)
		}
		r.was = append(r.was, []version{v})
	}
	answers(t, "Sync", d.Sync(), api.OK)
	r.open()
	return r
}

// open opens the log and makes a pool, with nothing in memory.
func (r *rig) open() {
	r.t.Helper()
	g, e := log.Open(r.d, 0, logCount)
	if e != api.OK {
		r.t.Fatalf("log.Open: error %d", e)
	}
	p, e := pool.New(r.d, g, r.at, r.pages, r.frames)
	if p == nil || e != api.OK {
		r.t.Fatalf("New: error %d", e)
	}
	r.g, r.p = g, p
	clear(r.pins)
	if p.Len() != 0 || len(p.Dirty()) != 0 {
		r.t.Fatalf("of a new pool Len = %d, Dirty = %v", p.Len(), p.Dirty())
	}
}

// sector is what stands on a page's sector, by the document.
func sector(v version) []byte {
	return append(binary.BigEndian.AppendUint64(nil, v.lsn), v.bytes...)
}

// now is what a page is.
func (r *rig) now(i int) version { return r.was[i][len(r.was[i])-1] }

// prepare puts records into the log, so that pages are changed by them as when a log is gone through again.
func (r *rig) prepare(n int) {
	r.t.Helper()
	var l []uint64
	for range n {
		l = append(l, r.record())
	}
	answers(r.t, "log.Flush", r.g.Flush(), api.OK)
	r.ready = l
}

// record is one more of the log.
func (r *rig) record() uint64 {
	r.t.Helper()
	r.told++
	if len(r.ready) > 0 {
		at := r.ready[0]
		r.ready = r.ready[1:]
		return at
	}
	at, e := r.g.Append(filled(9, r.told), 0)
	if e != api.OK {
		r.t.Fatalf("Append: error %d", e)
	}
	return at
}

// pinned is how many pages are.
func (r *rig) pinned() int {
	n := 0
	for _, k := range r.pins {
		if k > 0 {
			n++
		}
	}
	return n
}

// wants is what a call that brings a page into memory is to answer while the power is on.
func (r *rig) wants(i int) api.Errno {
	switch {
	case i < 0 || i >= r.pages:
		return api.ErrArg
	case r.pins[i] == 0 && r.pinned() == r.frames:
		return api.ErrFull
	}
	return api.OK
}

// does sees that a call has answered what it is to answer; false: the power has gone off in it, or it hasn't done what it is there for.
func (r *rig) does(what string, e, want api.Errno) bool {
	r.t.Helper()
	if e == api.ErrCrash && !r.d.On() {
		return false
	}
	if e != want {
		r.t.Fatalf("%s: error %d, want %d", what, e, want)
	}
	return e == api.OK
}

func (r *rig) write(i, off, n int) bool {
	r.t.Helper()
	want := r.wants(i)
	lsn := r.record()
	p := filled(n, r.told)
	if !r.does(fmt.Sprintf("Write(%d, %d, %d bytes)", i, off, n), r.p.Write(i, off, p, lsn), want) {
		return false
	}
	b := bytes.Clone(r.now(i).bytes)
	copy(b[off:], p)
	r.was[i] = append(r.was[i], version{lsn, b})
	return true
}

func (r *rig) read(i int) bool {
	r.t.Helper()
	want := r.wants(i)
	p, lsn, e := r.p.Read(i)
	if e != api.OK && (p != nil || lsn != 0) {
		r.t.Fatalf("Read(%d) = %x, %d beside error %d", i, p, lsn, e)
	}
	if !r.does(fmt.Sprintf("Read(%d)", i), e, want) {
		return false
	}
	if v := r.now(i); !bytes.Equal(p, v.bytes) || lsn != v.lsn {
		r.t.Fatalf("Read(%d) = %.8x.., %d bytes, %d, want %.8x.., %d", i, p, len(p), lsn, v.bytes, v.lsn)
	}
	return true
}

func (r *rig) pin(i int) bool {
	r.t.Helper()
	want := r.wants(i)
	if !r.does(fmt.Sprintf("Pin(%d)", i), r.p.Pin(i), want) {
		return false
	}
	r.pins[i]++
	return true
}

func (r *rig) unpin(i int) bool {
	r.t.Helper()
	want := api.OK
	if i < 0 || i >= r.pages {
		want = api.ErrArg
	} else if r.pins[i] == 0 {
		want = api.ErrState
	}
	if !r.does(fmt.Sprintf("Unpin(%d)", i), r.p.Unpin(i), want) {
		return false
	}
	r.pins[i]--
	return true
}

func (r *rig) flush() bool {
	r.t.Helper()
	if !r.does("Flush", r.p.Flush(), api.OK) {
		return false
	}
	for i := range r.pages {
		r.sure[i] = len(r.was[i]) - 1
	}
	if l := r.p.Dirty(); len(l) != 0 {
		r.t.Fatalf("behind Flush Dirty = %v", l)
	}
	return true
}

// tells sees that what the pool tells of itself may be.
func (r *rig) tells() {
	r.t.Helper()
	if n := r.p.Len(); n > r.frames || n < r.pinned() {
		r.t.Fatalf("Len = %d, of %d frames, %d pinned", n, r.frames, r.pinned())
	}
	last := -1
	for _, l := range r.p.Dirty() {
		if l.Page <= last || l.Page >= r.pages {
			r.t.Fatalf("Dirty = %v", r.p.Dirty())
		}
		last = l.Page
		if !r.changed(l) {
			r.t.Fatalf("Dirty = %v: since behind the last Flush no record %d has changed page %d", r.p.Dirty(), l.Since, l.Page)
		}
	}
}

// changed: has that record changed the page behind the last Flush?
func (r *rig) changed(l api.Dirty) bool {
	for _, v := range r.was[l.Page][r.sure[l.Page]+1:] {
		if v.lsn == l.Since {
			return true
		}
	}
	return false
}

// stands is which of the versions of a page its sector has; -1: none.
func (r *rig) stands(i int) int {
	r.t.Helper()
	s, e := r.d.Read(r.at + i)
	if e != api.OK {
		r.t.Fatalf("disk.Read: error %d", e)
	}
	for k, v := range r.was[i] {
		if bytes.Equal(s, sector(v)) {
			return k
		}
	}
	return -1
}

// untouched sees that the sectors are as they were that aren't the pool's.
func (r *rig) untouched() {
	r.t.Helper()
	for _, i := range []int{r.at - 1, r.at + r.pages} {
		if s, e := r.d.Read(i); !bytes.Equal(s, foreign) || e != api.OK {
			r.t.Fatalf("sector %d, which isn't the pool's, was written: error %d", i, e)
		}
	}
}

// step is something that is done with the pool, or the log.
type step struct {
	kind      byte
	i, off, n int
}

const (
	writes byte = iota
	reads
	pins
	unpins
	flushes
	logs // the log is flushed
)

// takes does a step; false: the power has gone off.
func (r *rig) takes(s step) bool {
	r.t.Helper()
	switch s.kind {
	case writes:
		r.write(s.i, s.off, s.n)
	case reads:
		r.read(s.i)
	case pins:
		r.pin(s.i)
	case unpins:
		r.unpin(s.i)
	case flushes:
		r.flush()
	case logs:
		r.does("log.Flush", r.g.Flush(), api.OK)
	}
	if r.d.On() {
		r.tells()
	}
	return r.d.On()
}

// drawnStep is one that is drawn; seldom of a page that there isn't.
func drawnStep(draw *rand.Rand, pages int) step {
	i := draw.Intn(pages)
	if draw.Intn(30) == 0 {
		i = []int{-1, pages}[draw.Intn(2)]
	}
	switch n := draw.Intn(24); {
	case n < 10:
		off := draw.Intn(body + 1)
		return step{writes, i, off, draw.Intn(body - off + 1)}
	case n < 17:
		return step{reads, i, 0, 0}
	case n < 19:
		return step{pins, i, 0, 0}
	case n < 22:
		return step{unpins, i, 0, 0}
	case n < 23:
		return step{flushes, 0, 0, 0}
	}
	return step{logs, 0, 0, 0}
}

func drawnSteps(seed int64, n, pages int) []step {
	draw := rand.New(rand.NewSource(seed))
	var out []step
	for range n {
		out = append(out, drawnStep(draw, pages))
	}
	return out
}
