package log_test

import (
	"bytes"
	"testing"

	"muniment/api"
	"muniment/disk"
	"muniment/log"
	"muniment/probe"
)

// entry is a record, and its place.
type entry struct {
	at    uint64
	bytes []byte
}

func (n entry) next() uint64 { return n.at + 2 + uint64(len(n.bytes)) }

// twin is a log, and what it has to tell by the document's words.
type twin struct {
	t         *testing.T
	d         *disk.Disk
	g         *log.Log
	at, count int

	records                 []entry
	start, check, sure, end uint64
	held                    int
}

// drive is a disk of so many sectors.
func drive(t *testing.T, sectors int) *disk.Disk {
	t.Helper()
	d, e := disk.New(sectors)
	if e != api.OK {
		t.Fatalf("disk.New(%d): error %d", sectors, e)
	}
	return d
}

var answers = probe.Answers

// fresh is a new log, and nothing else on its disk.
func fresh(t *testing.T, count int) *twin {
	t.Helper()
	return laid(t, drive(t, 1+count), 0, count)
}

// laid is a new log on sectors of a disk.
func laid(t *testing.T, d *disk.Disk, at, count int) *twin {
	t.Helper()
	answers(t, "Format", log.Format(d, at, count), api.OK)
	w := &twin{t: t, d: d, at: at, count: count, start: log.First, sure: log.First, end: log.First}
	w.open()
	return w
}

// open opens the log anew: what wasn't flushed is gone.
func (w *twin) open() {
	w.t.Helper()
	g, e := log.Open(w.d, w.at, w.count)
	if g == nil || e != api.OK {
		w.t.Fatalf("Open(%d, %d): error %d", w.at, w.count, e)
	}
	w.g = g
	w.end, w.held = w.sure, 0
	for len(w.records) > 0 && w.records[len(w.records)-1].at >= w.end {
		w.records = w.records[:len(w.records)-1]
	}
	if n := w.d.Pending(); n != 0 {
		w.t.Errorf("behind Open %d writes are on their way", n)
	}
	w.tells()
}

func (w *twin) room() int {
	return (int(w.start)/480+w.count)*480 - int(w.end) - w.held
}

// tells fails the test, if the log tells something else of itself.
func (w *twin) tells() {
	w.t.Helper()
	g := w.g
	if g.Start() != w.start || g.Check() != w.check || g.Sure() != w.sure || g.End() != w.end {
		w.t.Fatalf("Start, Check, Sure, End = %d, %d, %d, %d, want %d, %d, %d, %d", g.Start(), g.Check(), g.Sure(), g.End(), w.start, w.check, w.sure, w.end)
	}
	if g.Held() != w.held || g.Room() != w.room() {
		w.t.Fatalf("Held, Room = %d, %d, want %d, %d", g.Held(), g.Room(), w.held, w.room())
	}
}

// append appends, and sees whether what is answered, and told behind it, is as the document says.
func (w *twin) append(p []byte, hold int) api.Errno {
	w.t.Helper()
	want := api.OK
	switch {
	case len(p) == 0 || hold < 0:
		want = api.ErrArg
	case len(p) > api.MaxRecord:
		want = api.ErrLong
	case hold > w.room()-len(p)-2:
		want = api.ErrFull
	}
	at, e := w.g.Append(p, hold)
	if want == api.OK {
		w.held += hold
	}
	w.added(p, at, e, want)
	return want
}

// spend does so of what is held.
func (w *twin) spend(p []byte) api.Errno {
	w.t.Helper()
	want := api.OK
	switch {
	case len(p) == 0:
		want = api.ErrArg
	case len(p) > api.MaxRecord:
		want = api.ErrLong
	case len(p)+2 > w.held:
		want = api.ErrFull
	}
	at, e := w.g.Spend(p)
	if want == api.OK {
		w.held -= len(p) + 2
	}
	w.added(p, at, e, want)
	return want
}

func (w *twin) added(p []byte, at uint64, e, want api.Errno) {
	w.t.Helper()
	place := w.end
	if want != api.OK {
		place = 0
	}
	if at != place || e != want {
		w.t.Fatalf("a record of %d bytes at %d: %d, error %d, want %d, error %d", len(p), w.end, at, e, place, want)
	}
	if want == api.OK {
		w.records = append(w.records, entry{at, bytes.Clone(p)})
		w.end += uint64(len(p)) + 2
	}
	w.tells()
}

func (w *twin) release(n int) api.Errno {
	w.t.Helper()
	want := api.ErrArg
	if n >= 0 && n <= w.held {
		want = api.OK
		w.held -= n
	}
	answers(w.t, "Release", w.g.Release(n), want)
	w.tells()
	return want
}

func (w *twin) flush() {
	w.t.Helper()
	ops, need := w.d.Ops(), w.sure != w.end
	answers(w.t, "Flush", w.g.Flush(), api.OK)
	if did := w.d.Ops() != ops; did != need {
		w.t.Errorf("Flush from %d on to %d: operations %v", w.sure, w.end, did)
	}
	if need && w.d.Pending() != 0 {
		w.t.Errorf("behind Flush %d writes are on their way", w.d.Pending())
	}
	w.sure = w.end
	w.tells()
}

func (w *twin) mark(check, start uint64) api.Errno {
	w.t.Helper()
	want := api.ErrArg
	if start >= w.start && start <= w.sure && check <= w.sure {
		want = api.OK
		w.check, w.start = check, start
	}
	answers(w.t, "Mark", w.g.Mark(check, start), want)
	for want == api.OK && len(w.records) > 0 && w.records[0].at < start {
		w.records = w.records[1:]
	}
	w.tells()
	return want
}

// reads fails the test, if not all records from Start on are there, and none behind them.
func (w *twin) reads() {
	w.t.Helper()
	for _, n := range w.records {
		p, next, e := w.g.Read(n.at)
		if !bytes.Equal(p, n.bytes) || next != n.next() || e != api.OK {
			w.t.Fatalf("Read(%d) = %d bytes, %d, error %d, want %d bytes, %d", n.at, len(p), next, e, len(n.bytes), n.next())
		}
	}
	if p, next, e := w.g.Read(w.end); p != nil || next != 0 || e != api.ErrNone {
		w.t.Fatalf("Read(End() = %d) = %x, %d, error %d", w.end, p, next, e)
	}
}

// filled is n bytes that tell b, and where each of them stands.
func filled(n int, b byte) []byte {
	p := make([]byte, n)
	for i := range p {
		p[i] = b ^ byte(i*7)
	}
	return p
}
