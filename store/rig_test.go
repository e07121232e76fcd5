package store_test

import (
	"bytes"
	"fmt"
	"math/rand"
	"slices"
	"testing"

	"muniment/api"
	"muniment/disk"
	"muniment/probe"
	"muniment/store"
)

// By the document: how many bytes a page has of its own, how many of them there are ahead on its sector, and how many bytes of the log a sector has.
const (
	body = 504
	lead = 8
	part = 480
)

var answers = probe.Answers

// filled is a page which tells what and where each byte of it stands.
func filled(what int) []byte {
	p := make([]byte, body)
	for i := range p {
		p[i] = byte(what) ^ byte(i) ^ byte(what>>8+i>>8)*0x55
	}
	return p
}

// with is a page in which n bytes from a place on are others, each of them.
func with(p []byte, off, n int) []byte {
	q := bytes.Clone(p)
	for i := off; i < off+n; i++ {
		q[i] ^= byte(1 + i%7)
	}
	return q
}

// rig is a store on a disk, and what it is to tell by the document's words.
type rig struct {
	t                    *testing.T
	d                    *disk.Disk
	s                    *store.Store
	count, pages, frames int
	// sure is what the pages are behind the last commit, now what they are.
	sure, now [][]byte
	open      bool
	last      uint64
	// doubt: has the power gone off in a commit? Then it is there, or isn't.
	doubt bool
}

// drive is a disk of noughts.
func drive(t *testing.T, n int) *disk.Disk {
	t.Helper()
	d, e := disk.New(n)
	if e != api.OK {
		t.Fatalf("disk.New(%d): error %d", n, e)
	}
	return d
}

// newRig is a new store, all its pages noughts.
func newRig(t *testing.T, count, pages, frames int) *rig {
	t.Helper()
	r := &rig{t: t, d: drive(t, 1+count+pages), count: count, pages: pages, frames: frames}
	if e := store.Format(r.d, count); e != api.OK {
		t.Fatalf("Format: error %d", e)
	}
	for range pages {
		r.sure = append(r.sure, make([]byte, body))
	}
	if !r.opens() {
		t.Fatal("a new store isn't opened")
	}
	return r
}

// opens opens the store, and sees that it is as it was behind the last commit; false: the power has gone off.
func (r *rig) opens() bool {
	r.t.Helper()
	s, e := store.Open(r.d, r.count, r.frames)
	if (s != nil) != (e == api.OK) {
		r.t.Fatalf("Open: a store %v, error %d", s != nil, e)
	}
	if !r.did("Open", e, api.OK) {
		return false
	}
	r.s, r.open, r.last = s, false, 0
	if n := s.Room(); n < (r.count-1)*part || n > r.count*part {
		r.t.Fatalf("behind Open Room = %d, of %d sectors", n, r.count)
	}
	if r.d.Pending() != 0 {
		r.t.Fatalf("behind Open %d writes are on their way", r.d.Pending())
	}
	if r.doubt && r.is(r.now) {
		r.sure = r.now
	}
	r.doubt = false
	if !r.is(r.sure) {
		r.t.Fatal("behind Open the pages aren't what they were behind the last commit")
	}
	r.now = slices.Clone(r.sure)
	r.tells()
	return true
}

// is: are these the pages?
func (r *rig) is(want [][]byte) bool {
	r.t.Helper()
	for i := range r.pages {
		b, e := r.s.Read(i)
		if e != api.OK {
			r.t.Fatalf("Read(%d): error %d", i, e)
		}
		if !bytes.Equal(b, want[i]) {
			return false
		}
	}
	return true
}

// did sees that a call has answered what it is to answer; false: the power has gone off in it.
func (r *rig) did(what string, e, want api.Errno) bool {
	r.t.Helper()
	if e == api.ErrCrash && !r.d.On() {
		return false
	}
	if e != want || !r.d.On() {
		r.t.Fatalf("%s: error %d, want %d; the power is on: %v", what, e, want, r.d.On())
	}
	return true
}

// tells sees that what the store tells of itself is so.
func (r *rig) tells() {
	r.t.Helper()
	if r.s.Pages() != r.pages || r.s.InTx() != r.open || r.s.Room() < 0 {
		r.t.Fatalf("Pages = %d, InTx = %v, Room = %d, want %d, %v", r.s.Pages(), r.s.InTx(), r.s.Room(), r.pages, r.open)
	}
}

func (r *rig) begin() bool {
	r.t.Helper()
	want := api.OK
	if r.open {
		want = api.ErrState
	}
	n, e := r.s.Begin()
	if !r.did("Begin", e, want) {
		return false
	}
	if e != api.OK {
		if n != 0 {
			r.t.Fatalf("Begin = %d beside error %d", n, e)
		}
		return true
	}
	if n <= r.last {
		r.t.Fatalf("Begin = %d behind %d", n, r.last)
	}
	if r.s.Room() < (r.count/2-1)*part {
		r.t.Fatalf("behind Begin Room = %d, of %d sectors", r.s.Room(), r.count)
	}
	r.open, r.last = true, n
	return true
}

// write writes a page in a transaction; that the log has no room is an answer too, if it may be.
func (r *rig) write(i int, b []byte) bool {
	r.t.Helper()
	want, room, most := api.OK, r.s.Room(), mostOf(r.now[i], b)
	e := r.s.Write(i, b)
	if e == api.ErrFull && r.open && room < most {
		want = api.ErrFull
	} else if !r.open {
		want = api.ErrState
	}
	if !r.did(fmt.Sprintf("Write(%d) with Room %d", i, room), e, want) {
		return false
	}
	took := room - r.s.Room()
	if e != api.OK && took != 0 || e == api.OK && took > most {
		r.t.Fatalf("Write(%d): error %d, and %d of the log's room were taken, of %d", i, e, took, most)
	}
	if e == api.OK {
		r.now[i] = bytes.Clone(b)
	}
	return true
}

// mostOf is how many bytes of the log's room a Write may take.
func mostOf(a, b []byte) int {
	first, last := -1, -1
	for i := range a {
		if a[i] != b[i] {
			last = i
			if first < 0 {
				first = i
			}
		}
	}
	if first < 0 {
		return 100
	}
	return 100 + 3*(last-first+1)
}

func (r *rig) commit() bool {
	r.t.Helper()
	e := r.s.Commit()
	if r.ends("Commit", e) {
		r.sure = slices.Clone(r.now)
		return true
	}
	r.doubt = r.open && e == api.ErrCrash
	return r.d.On()
}

func (r *rig) abort() bool {
	r.t.Helper()
	if r.ends("Abort", r.s.Abort()) {
		r.now = slices.Clone(r.sure)
	}
	return r.d.On()
}

// ends sees that a call may have ended the transaction; false: it hasn't.
func (r *rig) ends(what string, e api.Errno) bool {
	r.t.Helper()
	want := api.OK
	if !r.open {
		want = api.ErrState
	}
	if !r.did(what, e, want) || e != api.OK {
		return false
	}
	r.open = false
	return true
}

// check is a checkpoint; that the log has no room is an answer too, if it may be.
func (r *rig) check() bool {
	r.t.Helper()
	room, most := r.s.Room(), 100+10*r.pages
	e := r.s.Checkpoint()
	if e == api.ErrFull {
		if room >= most || r.s.Room() != room {
			r.t.Fatalf("Checkpoint with Room %d: error %d, and Room is %d", room, e, r.s.Room())
		}
		return true
	}
	if !r.did("Checkpoint", e, api.OK) {
		return false
	}
	if took := room - r.s.Room(); took > most {
		r.t.Fatalf("Checkpoint: %d of the log's room were taken", took)
	}
	return true
}

// flush sees that the pages are on the disk then, as they are.
func (r *rig) flush() bool {
	r.t.Helper()
	if !r.did("Flush", r.s.Flush(), api.OK) {
		return false
	}
	for i := range r.pages {
		if b, e := r.d.Read(1 + r.count + i); e != api.OK || !bytes.Equal(b[lead:], r.now[i]) {
			r.t.Fatalf("behind Flush page %d isn't on the disk as it is: error %d", i, e)
		}
	}
	return true
}

func (r *rig) read(i int) bool {
	r.t.Helper()
	want := api.OK
	if i < 0 || i >= r.pages {
		want = api.ErrArg
	}
	b, e := r.s.Read(i)
	if e != api.OK && b != nil {
		r.t.Fatalf("Read(%d) = %.8x.. beside error %d", i, b, e)
	}
	if !r.did(fmt.Sprintf("Read(%d)", i), e, want) {
		return false
	}
	if e == api.OK && !bytes.Equal(b, r.now[i]) {
		r.t.Fatalf("Read(%d) = %.8x.., want %.8x..", i, b, r.now[i])
	}
	return true
}

// step is something that is done with the store.
type step struct {
	kind byte
	i    int
	// off and n: which bytes of the page are others; n 0: none is.
	off, n int
}

const (
	begins byte = iota
	writes
	commits
	aborts
	checks
	flushes
	reads
)

// takes does a step; false: the power has gone off.
func (r *rig) takes(s step) bool {
	r.t.Helper()
	switch s.kind {
	case begins:
		r.begin()
	case writes:
		r.write(s.i, with(r.now[s.i], s.off, s.n))
	case commits:
		r.commit()
	case aborts:
		r.abort()
	case checks:
		r.check()
	case flushes:
		r.flush()
	case reads:
		r.read(s.i)
	}
	if r.d.On() {
		r.tells()
	}
	return r.d.On()
}

// drawnStep is one that is drawn.
func drawnStep(draw *rand.Rand, pages int) step {
	i := draw.Intn(pages)
	switch n := draw.Intn(40); {
	case n < 8:
		return step{kind: begins}
	case n < 24:
		off := draw.Intn(body)
		size := draw.Intn(min(40, body-off) + 1)
		if draw.Intn(8) == 0 {
			size = draw.Intn(body - off + 1)
		}
		return step{writes, i, off, size}
	case n < 28:
		return step{kind: commits}
	case n < 31:
		return step{kind: aborts}
	case n < 33:
		return step{kind: checks}
	case n < 35:
		return step{kind: flushes}
	}
	return step{kind: reads, i: i}
}

// copyOf is a disk that has what is durable on another one that was just restarted.
func copyOf(t *testing.T, d *disk.Disk) *disk.Disk {
	t.Helper()
	c, e := probe.CopyOf(d)
	if e != api.OK {
		t.Fatalf("CopyOf: error %d", e)
	}
	return c
}

// turnOff turns a disk's power off.
func turnOff(t *testing.T, d *disk.Disk) {
	t.Helper()
	answers(t, "Arm", d.Arm(1), api.OK)
	answers(t, "Sync", d.Sync(), api.ErrCrash)
}
