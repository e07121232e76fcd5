package chain_test

import (
	"crypto/sha256"
	"encoding/binary"
	"math"
	"slices"
	"strings"
	"testing"

	"muniment/api"
	"muniment/chain"
	"muniment/disk"
	"muniment/probe"
	"muniment/snap"
)

var answers, sure = probe.Answers, probe.Sure

// logSize is how many sectors of log the disk of a test has.
const logSize = 300

// bytesOf are the bytes of an event, by the document's words.
func bytesOf(v api.Event) []byte {
	p := binary.BigEndian.AppendUint64(nil, v.Seq)
	p = binary.BigEndian.AppendUint64(p, uint64(v.Tick)+1<<63)
	p = append(p, v.Verb)
	for _, s := range []string{v.Who, v.Whom} {
		p = append(p, strings.ReplaceAll(s, "\x00", "\x00\xff")...)
		p = append(p, 0, 1)
	}
	return p
}

// linkOf is the link of an event behind another one's.
func linkOf(before [32]byte, v api.Event) [32]byte {
	return sha256.Sum256(append(before[:], bytesOf(v)...))
}

// next is the event that stands behind all of a list, with what an event says, its number and its link made.
func next(l []api.Event, v api.Event) api.Event {
	var before [32]byte
	if n := len(l); n > 0 {
		before = l[n-1].Link
	}
	v.Seq = uint64(len(l)) + 1
	v.Link = linkOf(before, v)
	return v
}

// some is what an event says, unlike for each n.
func some(n int) api.Event {
	return api.Event{
		Tick: int64(n) * 3 % 50,
		Who:  strings.Repeat("w", n%33),
		Verb: api.VCreate + byte(n%11),
		Whom: strings.Repeat("é", n/2%17),
	}
}

// story is a list of so many events that are linked.
func story(n int) []api.Event {
	var out []api.Event
	for i := range n {
		out = append(out, next(out, some(i)))
	}
	return out
}

// rig is an audit, and what it is to tell.
type rig struct {
	t   *testing.T
	d   *disk.Disk
	db  *snap.DB
	now []api.Event
	// commits is how many have added events.
	commits int
}

func newRig(t *testing.T) *rig {
	t.Helper()
	db, d, e := probe.NewDB(logSize, 400, 16)
	sure(t, "NewDB", e)
	return &rig{t: t, d: d, db: db}
}

// twin is a transaction, and what it is to tell.
type twin struct {
	*rig
	x    *snap.Tx
	at   int
	view []api.Event
}

func (r *rig) begin() *twin {
	r.t.Helper()
	x, e := r.db.Begin()
	sure(r.t, "Begin", e)
	return &twin{rig: r, x: x, at: r.commits, view: slices.Clone(r.now)}
}

// within does something in a transaction of its own, that is committed.
func (r *rig) within(does func(w *twin)) {
	r.t.Helper()
	w := r.begin()
	does(w)
	if !w.commit() {
		r.t.Fatal("a commit by itself clashes")
	}
}

// sees sees, by a transaction of its own, that all is as it is to be.
func (r *rig) sees() {
	r.t.Helper()
	w := r.begin()
	w.tells()
	sure(r.t, "Abort", w.x.Abort())
}

// froms are the numbers of events from which lists of n are asked for, mosts how many are asked for.
func froms(n int) []uint64 {
	return []uint64{0, 1, 2, uint64(n / 2), uint64(n - 1), uint64(n), uint64(n + 1), uint64(n + 2), 255, 256, 1 << 32, math.MaxInt64, math.MaxUint64 - 1, math.MaxUint64}
}

func mosts(n int) []int { return []int{0, 1, 2, n / 2, n, n + 1, math.MaxInt - 1, math.MaxInt} }

// add sees that an Add tells what it is to tell, and minds it.
func (w *twin) add(v api.Event) {
	w.t.Helper()
	want := next(w.view, v)
	if got, e := chain.Add(w.x, v); got != want || e != api.OK {
		w.t.Fatalf("Add(%+v) = %+v, error %d, want %+v", v, got, e, want)
	}
	w.view = append(w.view, want)
}

// refused sees that an Add answers an error, and has done nothing.
func (w *twin) refused(v api.Event, want api.Errno) {
	w.t.Helper()
	wrote := w.x.Wrote()
	if got, e := chain.Add(w.x, v); got != (api.Event{}) || e != want {
		w.t.Errorf("Add(%+v) = %+v, error %d, want error %d", v, got, e, want)
	}
	if w.x.Wrote() != wrote {
		w.t.Errorf("Add(%+v), which was refused, has written", v)
	}
}

// last sees that Last tells what it is to tell.
func (w *twin) last() {
	w.t.Helper()
	var want api.Event
	if n := len(w.view); n > 0 {
		want = w.view[n-1]
	}
	if seq, link, e := chain.Last(w.x); seq != want.Seq || link != want.Link || e != api.OK {
		w.t.Fatalf("Last = %d, %x, error %d, want %d, %x", seq, link, e, want.Seq, want.Link)
	}
}

// list sees that a List tells what it is to tell.
func (w *twin) list(from uint64, most int) {
	w.t.Helper()
	var want []api.Event
	for _, v := range w.view {
		if v.Seq >= from && len(want) < most {
			want = append(want, v)
		}
	}
	if got, e := chain.List(w.x, from, most); !slices.Equal(got, want) || e != api.OK {
		w.t.Fatalf("List(%d, %d) = %d events, error %d, want %d of %d", from, most, len(got), e, len(want), len(w.view))
	}
}

// tells sees that all that can be asked is as it is to be.
func (w *twin) tells() {
	w.t.Helper()
	w.last()
	n := len(w.view)
	for _, from := range froms(n) {
		for _, most := range mosts(n) {
			w.list(from, most)
		}
	}
	l, e := chain.List(w.x, 0, n+1)
	if at := chain.Verify(l); at != -1 || e != api.OK {
		w.t.Fatalf("the audit isn't right at %d, error %d", at, e)
	}
}

// commit sees that a commit answers what it is to answer; true: it is there.
func (w *twin) commit() bool {
	w.t.Helper()
	adds := w.x.Wrote()
	_, e := w.x.Commit()
	if adds && w.at < w.commits {
		answers(w.t, "Commit of one that clashes", e, api.ErrClash)
		return false
	}
	sure(w.t, "Commit", e)
	if adds {
		w.now = w.view
		w.commits++
	}
	return true
}
