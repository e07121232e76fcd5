package pool_test

import (
	"bytes"
	"fmt"
	"math"
	"slices"
	"testing"

	"muniment/api"
	"muniment/disk"
	"muniment/log"
	"muniment/pool"
	"muniment/probe"
)

// The document's example.
func TestExample(t *testing.T) {
	r := newRig(t, 2, 1)
	if !r.write(0, 0, 5) || r.now(0).lsn != 480 || r.g.Sure() != 480 {
		t.Fatalf("the record stands at %d, the log is durable up to %d", r.now(0).lsn, r.g.Sure())
	}
	r.read(1)
	if r.g.Sure() <= 480 || r.d.Pending() != 1 || r.stands(0) != 1 {
		t.Errorf("the log is durable up to %d, %d writes are on their way", r.g.Sure(), r.d.Pending())
	}
}

// P11.1: the places and sizes that work, those that don't, and which error goes first; on a disk that is off too, which isn't asked.
func TestNew(t *testing.T) {
	for _, off := range []bool{false, true} {
		small, _ := disk.New(30)
		large, _ := disk.New(api.MaxPages)
		answers(t, "log.Format", log.Format(small, 0, 10), api.OK)
		g, e := log.Open(small, 0, 10)
		answers(t, "log.Open", e, api.OK)
		if off {
			for _, d := range []*disk.Disk{small, large} {
				answers(t, "Arm", d.Arm(1), api.OK)
				answers(t, "Sync", d.Sync(), api.ErrCrash)
			}
		}
		ops := small.Ops()
		for _, c := range []struct {
			d                 *disk.Disk
			g                 *log.Log
			at, pages, frames int
			want              api.Errno
		}{
			{small, g, 11, 19, 4, api.OK}, {small, g, 11, 1, 1, api.OK}, {small, g, 29, 1, api.MaxFrames, api.OK}, {small, g, 0, 30, 64, api.OK},
			{large, g, 0, api.MaxPages, 1, api.OK}, {large, g, 1, api.MaxPages - 1, 63, api.OK}, {large, g, api.MaxPages - 1, 1, 1, api.OK},
			{nil, g, 11, 19, 4, api.ErrNone}, {small, nil, 11, 19, 4, api.ErrNone}, {nil, nil, 11, 19, 4, api.ErrNone},
			{nil, g, -1, 0, 0, api.ErrNone}, {small, nil, -1, 0, 0, api.ErrNone}, {nil, nil, 0, api.MaxPages + 1, 65, api.ErrNone},
			{small, g, -1, 19, 4, api.ErrArg}, {small, g, math.MinInt, 1, 4, api.ErrArg},
			{small, g, 11, 0, 4, api.ErrArg}, {small, g, 11, -1, 4, api.ErrArg}, {small, g, 0, math.MinInt, 4, api.ErrArg}, {small, g, 30, 0, 4, api.ErrArg},
			{large, g, 0, api.MaxPages + 1, 4, api.ErrArg}, {large, g, 0, math.MaxInt, 4, api.ErrArg}, {large, g, math.MaxInt, math.MaxInt, 4, api.ErrArg},
			{small, g, 11, 20, 4, api.ErrArg}, {small, g, 12, 19, 4, api.ErrArg}, {small, g, 30, 1, 4, api.ErrArg}, {large, g, 1, api.MaxPages, 4, api.ErrArg},
			{small, g, math.MaxInt, 1, 4, api.ErrArg}, {small, g, math.MaxInt, 19, 4, api.ErrArg}, {small, g, 1, math.MaxInt, 4, api.ErrArg},
			{small, g, 11, 19, 0, api.ErrArg}, {small, g, 11, 19, -1, api.ErrArg}, {small, g, 11, 19, api.MaxFrames + 1, api.ErrArg}, {small, g, 11, 19, math.MaxInt, api.ErrArg}, {small, g, 11, 19, math.MinInt, api.ErrArg},
		} {
			p, e := pool.New(c.d, c.g, c.at, c.pages, c.frames)
			if e != c.want || (p != nil) != (e == api.OK) {
				t.Errorf("New(%v, %v, %d, %d, %d): a pool %v, error %d, want %d", c.d != nil, c.g != nil, c.at, c.pages, c.frames, p != nil, e, c.want)
			}
			if p.Len() != 0 || len(p.Dirty()) != 0 {
				t.Errorf("Len = %d, Dirty = %v", p.Len(), p.Dirty())
			}
		}
		if small.Ops() != ops {
			t.Error("New has done operations of the disk")
		}
	}
}

// beyond are the numbers of no page of n.
func beyond(n int) []int {
	return []int{-1, -n, math.MinInt, math.MinInt + 1, n, n + 1, 1 << 32, 1<<32 + 1, math.MaxInt}
}

// P11.2: a page that was never written is noughts, by no record; the first page and the last one; what stands on the disk is read.
func TestRead(t *testing.T) {
	for _, c := range []struct{ pages, frames int }{{1, 1}, {2, 1}, {5, 3}, {200, 64}, {300, 5}} {
		r := newRig(t, c.pages, c.frames)
		for range 2 {
			for i := range c.pages {
				r.takes(step{kind: reads, i: i})
			}
		}
		if want := min(c.pages, c.frames); r.p.Len() != want {
			t.Errorf("of %d pages %d are in memory, of %d frames", c.pages, r.p.Len(), c.frames)
		}
		if r.d.Pending() != 0 || len(r.p.Dirty()) != 0 {
			t.Errorf("what was only read is written, or dirty: %v", r.p.Dirty())
		}
		r.untouched()
	}
}

// P11.2: of pages that there aren't, and bytes beyond a page's end: ErrArg, ahead of all else, and nothing has changed.
func TestRefused(t *testing.T) {
	for _, how := range []string{"free", "full", "off"} {
		r := newRig(t, 3, 1)
		r.write(0, 3, 100)
		r.write(2, 3, 100)
		r.pin(2)
		switch how {
		case "free":
			r.unpin(2)
		case "off":
			answers(t, "Arm", r.d.Arm(1), api.OK)
			answers(t, "Sync", r.d.Sync(), api.ErrCrash)
		}
		dirty, ops := r.p.Dirty(), r.d.Ops()
		for _, i := range beyond(3) {
			if p, lsn, e := r.p.Read(i); p != nil || lsn != 0 || e != api.ErrArg {
				t.Errorf("Read(%d) = %x, %d, error %d", i, p, lsn, e)
			}
			for _, off := range []int{0, -1, body + 1} {
				answers(t, fmt.Sprintf("Write(%d)", i), r.p.Write(i, off, []byte("a"), 480), api.ErrArg)
			}
			answers(t, fmt.Sprintf("Write(%d) of none", i), r.p.Write(i, 0, nil, 480), api.ErrArg)
			answers(t, fmt.Sprintf("Pin(%d)", i), r.p.Pin(i), api.ErrArg)
			answers(t, fmt.Sprintf("Unpin(%d)", i), r.p.Unpin(i), api.ErrArg)
		}
		for i := range 3 {
			for _, c := range []struct{ off, n int }{
				{-1, 0}, {-1, 1}, {-1, body}, {math.MinInt, 0}, {math.MinInt, body}, {math.MinInt + 1, 1000},
				{0, body + 1}, {1, body}, {body, 1}, {body - 1, 2}, {body + 1, 0}, {body + 1, 1}, {math.MaxInt, 0}, {math.MaxInt, 1}, {math.MaxInt, 600}, {250, 255}, {0, 70000},
			} {
				answers(t, fmt.Sprintf("Write(%d, %d, %d bytes)", i, c.off, c.n), r.p.Write(i, c.off, make([]byte, c.n), 480), api.ErrArg)
			}
		}
		if !slices.Equal(r.p.Dirty(), dirty) || r.d.Ops() != ops || r.p.Len() != 1 {
			t.Errorf("%s: Dirty = %v, want %v; Len = %d; %d operations", how, r.p.Dirty(), dirty, r.p.Len(), r.d.Ops()-ops)
		}
		if p, lsn, e := r.p.Read(2); !bytes.Equal(p, r.now(2).bytes) || lsn != r.now(2).lsn || e != api.OK {
			t.Errorf("%s: Read(2) = %.8x.., %d, error %d", how, p, lsn, e)
		}
	}
}

// P11.2: bytes at the beginning, in the midst, up to the end, all, none at each place: those and no others are changed, and the record is the last one.
func TestWrite(t *testing.T) {
	for _, frames := range []int{1, 3} {
		r := newRig(t, 3, frames)
		for _, c := range []struct{ off, n int }{
			{0, 1}, {0, body}, {0, 0}, {body, 0}, {body - 1, 1}, {200, 7}, {200, 0}, {1, body - 1}, {255, 2}, {0, 300}, {503, 0}, {0, body - 1},
		} {
			for i := range 3 {
				r.takes(step{writes, i, c.off, c.n})
				r.takes(step{kind: reads, i: i})
			}
			for i := range 3 {
				r.takes(step{kind: reads, i: i})
			}
		}
		r.takes(step{kind: flushes})
		for i := range 3 {
			if r.stands(i) != len(r.was[i])-1 {
				t.Errorf("page %d isn't on the disk as it is", i)
			}
		}
		r.untouched()
		r.open()
		for i := range 3 {
			r.read(i)
		}
	}
}

// P11.2: the record told is the one of the last Write, whatever it is.
func TestLastRecord(t *testing.T) {
	r := newRig(t, 2, 1)
	at := r.record()
	for range 40 {
		r.record()
	}
	for _, lsn := range []uint64{at, r.record(), at, 0, 1, 0x0102030405060708 % at, r.g.End() - 11} {
		answers(t, "Write", r.p.Write(0, 0, []byte{byte(lsn)}, lsn), api.OK)
		for range 2 {
			if p, got, e := r.p.Read(0); got != lsn || p[0] != byte(lsn) || e != api.OK {
				t.Errorf("the last record = %d, error %d, want %d", got, e, lsn)
			}
			if _, _, e := r.p.Read(1); e != api.OK {
				t.Errorf("Read(1): error %d", e)
			}
		}
	}
}

// P11.2: all records of a page are durable ahead of it, and not the last one alone, where that stands ahead of another.
func TestAllItsRecords(t *testing.T) {
	r := newRig(t, 2, 1)
	first := r.record()
	second := r.record()
	answers(t, "Write", r.p.Write(0, 0, []byte("b"), second), api.OK)
	answers(t, "Write", r.p.Write(0, 1, []byte("a"), first), api.OK)
	answers(t, "log.Flush", r.g.Flush(), api.OK)
	third := r.record()
	answers(t, "Write", r.p.Write(0, 2, []byte("c"), third), api.OK)
	answers(t, "Write", r.p.Write(0, 3, []byte("d"), first), api.OK)
	if _, _, e := r.p.Read(1); e != api.OK || r.g.Sure() <= third || r.d.Pending() != 1 {
		t.Errorf("error %d; the log is durable up to %d", e, r.g.Sure())
	}
	if p, lsn, e := r.p.Read(0); string(p[:4]) != "bacd" || lsn != first || e != api.OK {
		t.Errorf("Read(0) = %q, %d, error %d", p[:4], lsn, e)
	}
}

// P11.2: a page whose records stand nowhere in the log can be written, and brought back.
func TestNoRecord(t *testing.T) {
	r := newRig(t, 2, 1)
	for _, lsn := range []uint64{480, 481, 1 << 40, math.MaxUint64} {
		answers(t, "Write", r.p.Write(0, 0, []byte("x"), lsn), api.OK)
		r.read(1)
		if p, got, e := r.p.Read(0); p[0] != 'x' || got != lsn || e != api.OK {
			t.Errorf("Read(0) = %.4x.., %d, error %d", p, got, e)
		}
		answers(t, "Flush", r.p.Flush(), api.OK)
	}
}

// P11.2: a page is pinned as often as it is, and not once more; one that isn't can't be unpinned.
func TestPins(t *testing.T) {
	r := newRig(t, 4, 2)
	for i := range 4 {
		r.unpin(i)
		r.read(i)
		r.unpin(i)
	}
	for _, i := range []int{0, 3, 0, 0} {
		r.pin(i)
		r.unpin(1)
	}
	for range 4 {
		r.read(1)
		r.read(2)
		r.unpin(0)
		r.tells()
	}
	r.read(1)
	r.unpin(3)
	r.unpin(3)
	r.unpin(0)
	r.pin(1)
	r.pin(2)
	r.pin(3)
}

// P11.2: with all frames pinned a page in memory is there, and another isn't; behind an Unpin it is, if that was the last one.
func TestFull(t *testing.T) {
	for _, frames := range []int{1, 2, api.MaxFrames} {
		r := newRig(t, frames+2, frames)
		for i := range frames {
			r.pin(i)
			r.write(i, 9, 20)
		}
		r.pin(frames - 1)
		dirty, ops, at := r.p.Dirty(), r.d.Ops(), r.record()
		for i := range frames + 2 {
			r.read(i)
			r.does("Write", r.p.Write(i, 0, nil, r.now(i).lsn), r.wants(i))
		}
		for i := frames; i < frames+2; i++ {
			answers(t, "Write", r.p.Write(i, 0, []byte("a"), at), api.ErrFull)
			answers(t, "Pin", r.p.Pin(i), api.ErrFull)
			answers(t, "Unpin", r.p.Unpin(i), api.ErrState)
		}
		if !slices.Equal(r.p.Dirty(), dirty) || r.d.Ops() != ops || r.p.Len() != frames {
			t.Errorf("Dirty = %v, want %v; Len = %d; %d operations", r.p.Dirty(), dirty, r.p.Len(), r.d.Ops()-ops)
		}
		// Flush writes those that are pinned too, and they stay.
		r.flush()
		r.read(frames)
		r.unpin(frames - 1)
		r.read(frames)
		r.pin(frames + 1)
		r.unpin(frames - 1)
		r.read(frames)
		r.pin(frames + 1)
		r.write(frames+1, 1, 1)
		for i := range frames + 2 {
			r.read(i)
		}
		r.tells()
	}
}

// P11.2: a page that is pinned stays in memory, whatever comes and goes beside it: it is there while the disk is off.
func TestPinnedStays(t *testing.T) {
	r := newRig(t, 9, 3)
	r.write(4, 0, body)
	r.pin(4)
	r.pin(1)
	for range 3 {
		for i := range 9 {
			r.read(i)
			r.write(i, i, i)
		}
	}
	r.takes(step{kind: flushes})
	answers(t, "Arm", r.d.Arm(1), api.OK)
	answers(t, "Sync", r.d.Sync(), api.ErrCrash)
	for _, i := range []int{4, 1} {
		if p, lsn, e := r.p.Read(i); !bytes.Equal(p, r.now(i).bytes) || lsn != r.now(i).lsn || e != api.OK {
			t.Errorf("Read(%d) of a page that is pinned: error %d", i, e)
		}
	}
}

// P11.3: pages that are dirty, rising, each since its first record; behind Flush none, which does nothing then.
func TestDirty(t *testing.T) {
	r := newRig(t, 8, 8)
	dirty := func(want ...api.Dirty) {
		t.Helper()
		if got := r.p.Dirty(); !slices.Equal(got, want) {
			t.Errorf("Dirty = %v, want %v", got, want)
		}
	}
	dirty()
	r.read(0)
	r.pin(7)
	dirty()
	r.write(7, 0, 3)
	a := r.now(7).lsn
	dirty(api.Dirty{Page: 7, Since: a})
	r.write(2, 0, 0)
	b := r.now(2).lsn
	dirty(api.Dirty{Page: 2, Since: b}, api.Dirty{Page: 7, Since: a})
	r.write(7, 5, 3)
	r.write(2, 0, 1)
	r.write(0, 0, 1)
	dirty(api.Dirty{Page: 0, Since: r.now(0).lsn}, api.Dirty{Page: 2, Since: b}, api.Dirty{Page: 7, Since: a})
	answers(t, "log.Flush", r.g.Flush(), api.OK)
	dirty(api.Dirty{Page: 0, Since: r.now(0).lsn}, api.Dirty{Page: 2, Since: b}, api.Dirty{Page: 7, Since: a})
	for range 3 {
		r.flush()
		dirty()
	}
	if r.d.Pending() != 0 {
		t.Errorf("behind Flush %d writes are on their way", r.d.Pending())
	}
	r.write(7, 0, 3)
	r.write(7, 0, 3)
	dirty(api.Dirty{Page: 7, Since: r.was[7][3].lsn})
	r.flush()
	r.read(3)
	dirty()
}

// P11.3: Flush with nothing to flush leaves the disk as it is, on a pool that was only read too.
func TestFlushNothing(t *testing.T) {
	r := newRig(t, 5, 2)
	for range 3 {
		ops := r.d.Ops()
		r.flush()
		r.flush()
		for i := range 5 {
			r.read(i)
		}
		r.pin(1)
		r.flush()
		r.unpin(1)
		if r.d.Ops() != ops {
			t.Errorf("%d operations with nothing to flush", r.d.Ops()-ops)
		}
		r.write(1, 1, 1)
		r.write(2, 1, 1)
		r.flush()
	}
	// What was on its way is durable with the log.
	r.write(0, 0, 3)
	r.read(1)
	r.read(2)
	r.record()
	answers(t, "log.Flush", r.g.Flush(), api.OK)
	ops := r.d.Ops()
	r.flush()
	if r.d.Ops() != ops {
		t.Errorf("%d operations with nothing to flush", r.d.Ops()-ops)
	}
}

// P11.3: what is on its way to the disk is dirty till it is durable, whether the page is in memory or not.
func TestDirtyOnItsWay(t *testing.T) {
	for _, again := range []bool{false, true} {
		r := newRig(t, 3, 1)
		r.write(0, 0, 3)
		first := r.now(0).lsn
		r.read(1)
		if again {
			r.write(0, 2, 2)
			r.read(2)
		}
		if r.d.Pending() == 0 {
			t.Fatal("no write is on its way")
		}
		if got := r.p.Dirty(); len(got) != 1 || got[0].Page != 0 || got[0].Since < first || !r.changed(got[0]) {
			t.Errorf("Dirty = %v", got)
		}
		r.tells()
		r.flush()
		if r.d.Pending() != 0 || len(r.p.Dirty()) != 0 {
			t.Errorf("behind Flush %d writes are on their way, Dirty = %v", r.d.Pending(), r.p.Dirty())
		}
		answers(t, "Restart", r.d.Restart(nil), api.OK)
		if r.stands(0) != len(r.was[0])-1 {
			t.Error("page 0 isn't durable behind Flush")
		}
	}
}

// P11.2, P11.3: a nil pool in every call, whatever else applies.
func TestNil(t *testing.T) {
	var p *pool.Pool
	for _, i := range []int{0, 1, -1, math.MinInt, math.MaxInt} {
		if b, lsn, e := p.Read(i); b != nil || lsn != 0 || e != api.ErrNone {
			t.Errorf("Read(%d) of nil = %x, %d, error %d", i, b, lsn, e)
		}
		for _, b := range [][]byte{nil, {1}, make([]byte, body+1)} {
			answers(t, "Write of nil", p.Write(i, i, b, 480), api.ErrNone)
		}
		answers(t, "Pin of nil", p.Pin(i), api.ErrNone)
		answers(t, "Unpin of nil", p.Unpin(i), api.ErrNone)
	}
	answers(t, "Flush of nil", p.Flush(), api.ErrNone)
	if len(p.Dirty()) != 0 || p.Len() != 0 {
		t.Errorf("Dirty of nil = %v, Len = %d", p.Dirty(), p.Len())
	}
}

// The rule of memory: what is handed in isn't changed, and may be written over behind the call.
func TestArgumentsStay(t *testing.T) {
	r := newRig(t, 2, 1)
	for _, n := range []int{0, 3, body} {
		lsn := r.record()
		b, whole := probe.Roomy(filled(n, 5))
		was := bytes.Clone(whole)
		answers(t, "Write", r.p.Write(0, 0, b, lsn), api.OK)
		answers(t, "Write beyond", r.p.Write(0, body-n+1, b, lsn), api.ErrArg)
		if !bytes.Equal(whole, was) {
			t.Errorf("Write has changed what was handed in, of %d bytes", n)
		}
		for range 2 {
			probe.Fill(b)
			if p, _, e := r.p.Read(0); !bytes.Equal(p[:n], filled(n, 5)) || e != api.OK {
				t.Errorf("the page became %.8x.. with what was handed in, error %d", p, e)
			}
			// The other page drives it out, and in again.
			r.read(1)
		}
	}
}

// P2, and the rule of memory: an answer stays, and the pool does, whatever becomes of another one.
func TestAnswersAreNew(t *testing.T) {
	for _, frames := range []int{1, 2} {
		r := newRig(t, 3, frames)
		r.write(0, 0, 9)
		r.write(1, 0, 9)
		made := func() [][]byte {
			var out [][]byte
			for _, i := range []int{0, 1, 0, 2} {
				p, _, _ := r.p.Read(i)
				out = append(out, p)
			}
			return out
		}
		for _, i := range probe.Spoilt(made) {
			t.Errorf("answer %d was written over by another", i)
		}
		p, _, _ := r.p.Read(0)
		was := bytes.Clone(p)
		r.write(0, 0, body)
		if !bytes.Equal(p, was) {
			t.Error("an answer became another as the page was written")
		}
		l := r.p.Dirty()
		want := slices.Clone(l)
		again := r.p.Dirty()
		clear(l[:cap(l)])
		if !slices.Equal(r.p.Dirty(), want) || !slices.Equal(again, want) || len(want) == 0 {
			t.Errorf("Dirty became %v with an earlier answer, want %v", r.p.Dirty(), want)
		}
	}
}

// P1, P2, P11.2, P11.3: many calls that are drawn are answered as the document's words say, and all pages are read as they were written.
func TestDrawn(t *testing.T) {
	for seed := range int64(120) {
		pages, frames := 1+int(seed)%7, 1+int(seed)%5
		r := newRig(t, pages, frames)
		for _, s := range drawnSteps(seed, 150, pages) {
			r.takes(s)
		}
		for i := range pages {
			for r.pins[i] > 0 {
				r.unpin(i)
			}
		}
		for i := range pages {
			r.read(pages - 1 - i)
		}
		r.untouched()
		r.flush()
		r.open()
		for i := range pages {
			r.read(i)
		}
	}
}

// P2: what is asked in the same order is done in the same way, on the disk too, up to each fall.
func TestSameWay(t *testing.T) {
	steps := slices.Insert(drawnSteps(0, 40, 9), 0, step{flushes, 0, 0, 0})
	for i := range 9 {
		steps = slices.Insert(steps, 0, step{writes, i, i, i})
	}
	for n := range 60 {
		a, b := runs(t, 9, 9, false, steps, n), runs(t, 9, 9, false, steps, n)
		if a.d.Ops() != b.d.Ops() || a.d.Pending() != b.d.Pending() {
			t.Fatalf("of two disks one had %d operations, one %d", a.d.Ops(), b.d.Ops())
		}
		for _, r := range []*rig{a, b} {
			answers(t, "Restart", r.d.Restart(slices.Repeat([]bool{true}, r.d.Pending())), api.OK)
		}
		alike(t, a, b)
	}
	for seed := range int64(8) {
		a, b := newRig(t, 20, 7), newRig(t, 20, 7)
		for _, s := range drawnSteps(seed, 150, 20) {
			a.takes(s)
			b.takes(s)
			if a.d.Ops() != b.d.Ops() || a.d.Pending() != b.d.Pending() || a.p.Len() != b.p.Len() || !slices.Equal(a.p.Dirty(), b.p.Dirty()) {
				t.Fatalf("seed %d: of two disks one had %d operations, one %d", seed, a.d.Ops(), b.d.Ops())
			}
			alike(t, a, b)
		}
	}
}

// alike sees that two disks have the same on all sectors.
func alike(t *testing.T, a, b *rig) {
	t.Helper()
	for i := range a.d.Len() {
		p, _ := a.d.Read(i)
		if q, _ := b.d.Read(i); !bytes.Equal(p, q) {
			t.Fatalf("of two disks sector %d is unlike", i)
		}
	}
}
