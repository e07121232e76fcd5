package log_test

import (
	"bytes"
	"fmt"
	"math"
	"math/rand"
	"slices"
	"testing"

	"muniment/api"
	"muniment/disk"
	"muniment/log"
	"muniment/probe"
)

// points is what Mark says.
type points struct{ check, start uint64 }

// faller is a log on a disk whose power goes off, and what may be there behind a fall: of the records at least those up to sure, at most all; one of the two points.
type faller struct {
	t       *testing.T
	d       *disk.Disk
	g       *log.Log
	count   int
	records []entry
	sure    uint64
	was     points
	next    points
	told    int // how many records there were, from which each gets its bytes
}

func newFaller(t *testing.T, count int) *faller {
	t.Helper()
	f := &faller{t: t, d: drive(t, 2+count), count: count, sure: log.First}
	f.was = points{start: log.First}
	f.next = f.was
	answers(t, "Format", log.Format(f.d, 1, count), api.OK)
	if !f.open() {
		t.Fatal("a new log isn't opened")
	}
	return f
}

// step is something that is done with the log.
type step struct {
	kind byte
	n    int
}

const (
	adds   byte = iota // a record of n bytes
	spends             // a record of n bytes, that were held
	flushes
	marks  // up to the n-th record that is sure
	others // another sector is written
)

// does does a step; false: the power has gone off.
func (f *faller) does(s step) bool {
	f.t.Helper()
	e := api.OK
	switch s.kind {
	case adds, spends:
		e = f.adds(s)
	case flushes:
		e = f.g.Flush()
		if e == api.OK {
			f.sure = f.g.End()
		}
	case marks:
		e = f.marks(s.n)
	case others:
		e = f.d.Write(0, filled(api.PageSize, byte(s.n)))
	}
	if e != api.OK && e != api.ErrCrash && e != api.ErrFull {
		f.t.Fatalf("step %v: error %d", s, e)
	}
	return e != api.ErrCrash
}

func (f *faller) adds(s step) api.Errno {
	f.told++
	p := filled(s.n, byte(f.told))
	at, e := uint64(0), api.OK
	if s.kind == adds {
		at, e = f.g.Append(p, 0)
	} else if at, e = f.g.Append([]byte{byte(f.told)}, s.n+2); e == api.OK {
		f.records = append(f.records, entry{at, []byte{byte(f.told)}})
		at, e = f.g.Spend(p)
	}
	if e == api.OK {
		f.records = append(f.records, entry{at, p})
	}
	return e
}

func (f *faller) marks(n int) api.Errno {
	start := f.sure
	if n < len(f.records) && f.records[n].at < f.sure {
		start = f.records[n].at
	}
	f.next = points{f.sure, start}
	e := f.g.Mark(f.sure, start)
	if e == api.OK {
		f.was = f.next
		f.drops()
	}
	return e
}

// drops drops the records ahead of Start.
func (f *faller) drops() {
	for len(f.records) > 0 && f.records[0].at < f.was.start {
		f.records = f.records[1:]
	}
}

// open opens the log, and sees that what is there may be; that holds from then on. False: the power has gone off.
func (f *faller) open() bool {
	f.t.Helper()
	g, e := log.Open(f.d, 1, f.count)
	if e == api.ErrCrash && g == nil {
		return false
	}
	if g == nil || e != api.OK {
		f.t.Fatalf("Open: error %d", e)
	}
	f.g = g
	now := points{g.Check(), g.Start()}
	if now != f.was && now != f.next {
		f.t.Fatalf("Check, Start = %v, want %v or %v", now, f.was, f.next)
	}
	f.was, f.next = now, now
	f.drops()
	f.records = f.records[:f.found()]
	if g.End() < f.sure {
		f.t.Fatalf("End = %d, but the log was durable up to %d", g.End(), f.sure)
	}
	f.sure = g.End()
	room := (int(now.start)/480+f.count)*480 - int(g.End())
	if g.Sure() != g.End() || g.Held() != 0 || g.Room() != room || f.d.Pending() != 0 {
		f.t.Fatalf("End, Sure, Held, Room = %d, %d, %d, %d; %d writes are on their way", g.End(), g.Sure(), g.Held(), g.Room(), f.d.Pending())
	}
	return true
}

// found is how many of the records are there, one behind the other, and none besides.
func (f *faller) found() int {
	f.t.Helper()
	at := f.g.Start()
	for k := 0; ; k++ {
		if at == f.g.End() {
			return k
		}
		p, next, e := f.g.Read(at)
		if e != api.OK || k == len(f.records) || at != f.records[k].at || !bytes.Equal(p, f.records[k].bytes) || next != f.records[k].next() {
			f.t.Fatalf("Read(%d): %.8x.., %d bytes, error %d, isn't the record number %d of %d", at, p, len(p), e, k, len(f.records))
		}
		at = next
	}
}

// fall is one in the n-th operation, and the choice of the writes that were on their way; without one there is none yet.
type fall struct {
	n    int
	keep []bool
}

// script is done with the power on, or till it goes off: records that end at a sector's end, go over it, and round the ring.
var script = []step{
	{adds, 100}, {adds, 300}, {flushes, 0}, {adds, 600}, {others, 1}, {adds, 50}, {flushes, 0}, {marks, 1},
	{spends, 474}, {others, 2}, {flushes, 0}, {flushes, 0}, {marks, 3}, {adds, 1200}, {flushes, 0}, {others, 3},
	{adds, 1}, {marks, 9}, {adds, 70}, {flushes, 0}, {adds, 100}, {adds, 900}, {adds, 478}, {flushes, 0}, {marks, 2}, {adds, 800}, {flushes, 0},
}

// runs does the script in which the first fall is, and then the openings in which the others are; how many writes are on their way behind the last one; false: it didn't come to it.
func runs(t *testing.T, falls ...fall) (*faller, bool) {
	t.Helper()
	f := newFaller(t, 5)
	for k, c := range falls {
		answers(t, "Arm", f.d.Arm(c.n), api.OK)
		if k == 0 && f.through(script) || k > 0 && f.open() {
			return f, false
		}
		if k < len(falls)-1 || c.keep != nil {
			answers(t, "Restart", f.d.Restart(c.keep), api.OK)
		}
	}
	return f, true
}

func (f *faller) through(script []step) bool {
	f.t.Helper()
	for _, s := range script {
		if !f.does(s) {
			return false
		}
	}
	return true
}

// each goes through all falls in what comes behind those that were, and all choices in each.
func each(t *testing.T, ahead []fall, seen func(falls []fall)) {
	t.Helper()
	for n := 1; ; n++ {
		f, fell := runs(t, append(slices.Clone(ahead), fall{n: n})...)
		if !fell {
			return
		}
		for _, keep := range probe.Choices(f.d.Pending()) {
			// nil would be no choice.
			seen(append(slices.Clone(ahead), fall{n, append([]bool{}, keep...)}))
		}
	}
}

// P9.1, P9.3, P3: the power goes off in each operation of a script, with each choice of the writes that are kept, and again in each one of the opening behind it.
func TestFallEach(t *testing.T) {
	count := 0
	each(t, nil, func(falls []fall) {
		goesOn(t, falls)
		each(t, falls, func(falls []fall) {
			count++
			goesOn(t, falls)
		})
	})
	if count < 300 {
		t.Errorf("only %d falls", count)
	}
}

// goesOn sees that what is there behind some falls may be, and that the log may be used on.
func goesOn(t *testing.T, falls []fall) {
	t.Helper()
	f, fell := runs(t, falls...)
	if !fell || !f.open() {
		t.Fatalf("%v: the log isn't opened", falls)
	}
	again := []step{{adds, 600}, {adds, 70}, {flushes, 0}, {marks, 2}, {adds, 478}, {flushes, 0}, {adds, 5}}
	if !f.through(again) {
		t.Fatalf("%v: the power isn't on", falls)
	}
	answers(t, "Restart", f.d.Restart(nil), api.OK)
	if !f.open() {
		t.Fatalf("%v: the log isn't opened again", falls)
	}
}

// P9.1, P9.3: many falls, one behind the other, in the openings too; once with records that end anywhere, once with such as end where a sector does, or at its half.
func TestFallMany(t *testing.T) {
	for _, count := range []int{4, 5, 9} {
		fallsMany(t, count, []int{478, 958, 600, 238, 239, 100})
		fallsMany(t, count, []int{478, 958, 238})
	}
}

func fallsMany(t *testing.T, count int, sizes []int) {
	t.Helper()
	draw := rand.New(rand.NewSource(int64(count)))
	f := newFaller(t, count)
	for range 6000 {
		answers(t, "Arm", f.d.Arm(1+draw.Intn(12)), api.OK)
		for f.does(drawnStep(draw, sizes)) {
		}
		for {
			keep := make([]bool, f.d.Pending())
			for k := range keep {
				keep[k] = draw.Intn(2) == 0
			}
			answers(t, "Restart", f.d.Restart(keep), api.OK)
			answers(t, "Arm", f.d.Arm(draw.Intn(6)), api.OK)
			if f.open() {
				break
			}
		}
	}
	if rounds := f.g.End() / uint64(480*count); rounds < 50 {
		t.Errorf("the ring of %d was gone round %d times", count, rounds)
	}
}

// drawnStep is one of a few, so that records of falls that are lost and those behind them stand at the same places.
func drawnStep(draw *rand.Rand, sizes []int) step {
	switch n := draw.Intn(12); {
	case n < 5:
		return step{adds, sizes[draw.Intn(len(sizes))]}
	case n < 6:
		return step{spends, 475}
	case n < 9:
		return step{flushes, 0}
	case n < 11:
		return step{marks, draw.Intn(4)}
	}
	return step{others, draw.Intn(100)}
}

// falls lets the power go off in a Flush, when all its writes are on their way, and keeps those chosen; how many there were.
func (f *faller) falls(kept func(k int) bool) int {
	f.t.Helper()
	writes := int((f.g.End()+479)/480 - f.g.Sure()/480)
	answers(f.t, "Arm", f.d.Arm(writes+1), api.OK)
	answers(f.t, "the Flush that falls", f.g.Flush(), api.ErrCrash)
	if f.d.Pending() != writes {
		f.t.Fatalf("%d writes are on their way, want %d", f.d.Pending(), writes)
	}
	keep := make([]bool, writes)
	for k := range keep {
		keep[k] = kept(k)
	}
	answers(f.t, "Restart", f.d.Restart(keep), api.OK)
	if !f.open() {
		f.t.Fatal("the log isn't opened")
	}
	return writes
}

// P9.1: of records that were on their way at the same places, behind a fall each, none is made that has the one's beginning and the other's end: each choice of the writes in each of three falls.
func TestNoMixture(t *testing.T) {
	for _, ahead := range []int{0, 3, 4, 240, 476, 477, 478, 479} {
		for choices := range 1 << 9 {
			f := newFaller(t, 9)
			if ahead > 0 {
				f.does(step{adds, ahead - 2})
				f.does(step{flushes, 0})
			}
			for n := range 3 {
				f.does(step{adds, 962})
				f.falls(func(k int) bool { return choices>>(3*n+k)&1 == 1 })
			}
		}
	}
}

// fills appends records of that size, which fill so many sectors to their end.
func (f *faller) fills(sectors, size int) {
	f.t.Helper()
	for range sectors * 480 / (size + 2) {
		f.does(step{adds, size})
	}
}

// P9.1: what was kept behind a gap isn't there, when later records have filled the gap just up to it.
func TestNoGap(t *testing.T) {
	for _, size := range []int{478, 238} {
		f := newFaller(t, 6)
		f.fills(3, size)
		f.falls(func(k int) bool { return k > 0 })
		if f.g.End() != 480 {
			t.Fatalf("End = %d", f.g.End())
		}
		for n := range 2 {
			f.fills(1, size)
			f.does(step{flushes, 0})
			if !f.open() || int(f.g.End()) != 480*(n+2) {
				t.Fatalf("End = %d", f.g.End())
			}
		}
	}
}

// toEnd marks the log's end as its beginning.
var toEnd = step{marks, math.MaxInt}

// filledUp is a log behind a fall in which some writes of three were kept, then filled up to a sector's end, on which one of these may stand.
func filledUp(t *testing.T, size, sectors, choices int) *faller {
	t.Helper()
	f := newFaller(t, 6)
	f.fills(3, size)
	f.falls(func(k int) bool { return choices>>k&1 == 1 })
	f.fills(sectors, size)
	f.does(step{flushes, 0})
	return f
}

// P9.1, P9.3: what a fall kept and an opening didn't tell isn't told when the log's beginning is moved to just where it stands: not by the next opening, and not behind a fall in the Flush of further records, with each choice of the writes in both falls.
func TestNoneBehindMark(t *testing.T) {
	for _, size := range []int{478, 238} {
		for sectors := 1; sectors <= 2; sectors++ {
			for choices := range 1 << 6 {
				for _, opened := range []bool{false, true} {
					f := filledUp(t, size, sectors, choices)
					f.does(toEnd)
					if opened && !f.open() {
						t.Fatal("the log isn't opened")
					}
					f.fills(3, 478)
					f.falls(func(k int) bool { return choices>>(3+k)&1 == 1 })
					f.does(toEnd)
					if !f.open() || len(f.records) != 0 {
						t.Fatalf("%d records behind the last Mark", len(f.records))
					}
				}
			}
		}
	}
}

// P9.1, P9.3: the same, when the log's beginning is moved into the midst of its last record, behind which it is empty too.
func TestNoneBehindMarkInside(t *testing.T) {
	for start := uint64(481); start <= 960; start++ {
		f := filledUp(t, 478, 1, 6)
		answers(t, "Mark", f.g.Mark(0, start), api.OK)
		for range 2 {
			g, e := log.Open(f.d, 1, 6)
			if e != api.OK || g.Start() != start || g.End() != 960 {
				t.Fatalf("Start, End = %d, %d, error %d", g.Start(), g.End(), e)
			}
			if p, next, e := g.Read(960); p != nil || next != 0 || e != api.ErrNone {
				t.Fatalf("Read(960) = %x, %d, error %d", p, next, e)
			}
			for range 3 {
				answers(t, "Append", appended(g, filled(478, 9)), api.OK)
			}
			answers(t, "Arm", f.d.Arm(4), api.OK)
			answers(t, "the Flush that falls", g.Flush(), api.ErrCrash)
			answers(t, "Restart", f.d.Restart([]bool{false, true, true}), api.OK)
		}
	}
}

func appended(g *log.Log, p []byte) api.Errno {
	_, e := g.Append(p, 0)
	return e
}

// P9.1, P9.3: the same, when the power goes off in that Mark, and in the opening behind it.
func TestNoneBehindMarkFalling(t *testing.T) {
	for choices := range 1 << 7 {
		for n := 1; n <= 2; n++ {
			f := filledUp(t, 478, 1, choices)
			answers(t, "Arm", f.d.Arm(n), api.OK)
			if f.does(toEnd) {
				t.Fatalf("the power isn't off in operation %d", n)
			}
			answers(t, "Restart", f.d.Restart([]bool{choices>>3&1 == 1}), api.OK)
			answers(t, "Arm", f.d.Arm(3), api.OK)
			if f.open() {
				t.Fatal("the power isn't off in the opening")
			}
			answers(t, "Restart", f.d.Restart([]bool{choices>>4&1 == 1, choices>>5&1 == 1}), api.OK)
			if !f.open() {
				t.Fatal("the log isn't opened")
			}
			f.fills(2, 478)
			f.falls(func(k int) bool { return choices>>6&1 != k })
		}
	}
}

// P9.1: the power goes off while a log is made where one was: there is the old one, whole, or the new one, or none.
func TestFallFormat(t *testing.T) {
	for _, old := range []bool{false, true} {
		made := func(n int) (*twin, bool) {
			w := &twin{t: t, d: drive(t, 7)}
			if old {
				w = laid(t, w.d, 0, 6)
				for w.append(filled(238, 1), 0) == api.OK {
				}
				w.flush()
				w.mark(w.records[2].at, w.records[1].at)
			}
			answers(t, "Arm", w.d.Arm(n), api.OK)
			e := log.Format(w.d, 0, 6)
			if e != api.OK && e != api.ErrCrash {
				t.Fatalf("Format: error %d", e)
			}
			return w, e == api.ErrCrash
		}
		for n := 1; ; n++ {
			w, fell := made(n)
			if !fell {
				break
			}
			for _, keep := range probe.Choices(w.d.Pending()) {
				w, _ = made(n)
				answers(t, "Restart", w.d.Restart(keep), api.OK)
				g, e := log.Open(w.d, 0, 6)
				switch {
				case e == api.ErrSum || e == api.ErrForm:
				case e == api.OK && g.End() == 480 && g.Start() == 480 && g.Check() == 0:
				case e == api.OK && old:
					w.g = g
					w.tells()
					w.reads()
				default:
					t.Errorf("operation %d, kept %v: error %d", n, keep, e)
				}
			}
		}
	}
}

// P9.1, P9.3, P9.4: each call that asks the disk answers its error, behind the others, and the log stays as it is.
func TestOff(t *testing.T) {
	w := fresh(t, 6)
	w.append(filled(700, 1), 0)
	w.append(filled(10, 2), 30)
	w.flush()
	w.mark(w.records[0].at, w.records[1].at)
	w.append(filled(20, 3), 0)
	turnOff(t, w.d)
	ops := w.d.Ops()
	for range 2 {
		answers(t, "Format", log.Format(w.d, 0, 6), api.ErrCrash)
		if g, e := log.Open(w.d, 0, 6); g != nil || e != api.ErrCrash {
			t.Errorf("Open: a log %v, error %d", g != nil, e)
		}
		answers(t, "Flush", w.g.Flush(), api.ErrCrash)
		for _, start := range []uint64{w.start, w.sure} {
			answers(t, "Mark", w.g.Mark(w.sure, start), api.ErrCrash)
		}
		for _, c := range []points{{w.sure + 1, w.start}, {0, w.start - 1}, {0, w.sure + 1}} {
			answers(t, fmt.Sprintf("Mark%v", c), w.g.Mark(c.check, c.start), api.ErrArg)
		}
		for at, want := range map[uint64]api.Errno{w.start: api.ErrCrash, w.sure: api.ErrCrash, w.start - 1: api.ErrArg, w.end + 1: api.ErrArg, w.end: api.ErrNone} {
			if p, next, e := w.g.Read(at); p != nil || next != 0 || e != want {
				t.Errorf("Read(%d) = %x, %d, error %d, want error %d", at, p, next, e, want)
			}
		}
		w.tells()
		// What asks nothing of the disk goes on.
		w.append(filled(40, 4), 10)
		w.spend(filled(5, 5))
		w.release(3)
	}
	if w.d.Ops() != ops {
		t.Errorf("%d operations of a disk that is off", w.d.Ops()-ops)
	}
	answers(t, "Restart", w.d.Restart(nil), api.OK)
	w.open()
	w.reads()
	turnOff(t, w.d)
	answers(t, "Flush with nothing to flush", w.g.Flush(), api.ErrCrash)
}

// P9.1, P9.3: the disk's error in each operation of each call; the log tells then what it told.
func TestErrors(t *testing.T) {
	for n := 1; n <= 5; n++ {
		for _, call := range []struct {
			what string
			ops  bool
			does func(w *twin) api.Errno
		}{
			{"Flush", true, func(w *twin) api.Errno { return w.g.Flush() }},
			{"Mark", true, func(w *twin) api.Errno { return w.g.Mark(w.sure, w.sure) }},
			{"Format", true, func(w *twin) api.Errno { return log.Format(w.d, 0, 6) }},
			{"Open", true, func(w *twin) api.Errno {
				g, e := log.Open(w.d, 0, 6)
				if (g == nil) != (e != api.OK) {
					t.Errorf("Open: a log %v, error %d", g != nil, e)
				}
				return e
			}},
		} {
			w := fresh(t, 6)
			w.append(filled(700, 1), 0)
			w.flush()
			w.append(filled(600, 2), 50)
			answers(t, "Arm", w.d.Arm(n), api.OK)
			ops := w.d.Ops()
			e := call.does(w)
			want := api.OK
			if w.d.Ops()-ops >= n {
				want = api.ErrCrash
			}
			answers(t, fmt.Sprintf("%s, falling in %d", call.what, n), e, want)
			if want == api.ErrCrash {
				w.tells()
			}
		}
	}
}
