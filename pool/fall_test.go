package pool_test

import (
	"bytes"
	"math/rand"
	"slices"
	"testing"

	"muniment/api"
	"muniment/log"
	"muniment/probe"
)

// script has pages that are driven out and come back, with records durable and not, flushes, and pages that are pinned then.
var script = []step{
	{writes, 0, 0, 5}, {reads, 1, 0, 0}, {writes, 1, 3, 100}, {writes, 2, 0, 504}, {reads, 3, 0, 0}, {writes, 0, 9, 9},
	{logs, 0, 0, 0}, {writes, 3, 0, 1}, {reads, 0, 0, 0}, {pins, 2, 0, 0}, {writes, 2, 1, 1}, {writes, 0, 2, 2}, {writes, 1, 2, 2},
	{flushes, 0, 0, 0}, {writes, 2, 5, 5}, {writes, 3, 7, 7}, {writes, 1, 7, 7}, {unpins, 2, 0, 0}, {reads, 0, 0, 0}, {reads, 3, 0, 0},
	{writes, 3, 8, 8}, {logs, 0, 0, 0}, {reads, 1, 0, 0}, {writes, 0, 4, 4}, {writes, 1, 4, 4}, {flushes, 0, 0, 0}, {writes, 1, 5, 5}, {reads, 2, 0, 0}, {reads, 3, 0, 0},
}

// runs does steps till the power goes off in the n-th operation of the disk; 0: it doesn't. The log may have all their records ahead.
func runs(t *testing.T, pages, frames int, ahead bool, steps []step, n int) *rig {
	t.Helper()
	r := newRig(t, pages, frames)
	if ahead {
		r.prepare(len(steps))
	}
	answers(t, "Arm", r.d.Arm(n), api.OK)
	for _, s := range steps {
		if !r.takes(s) {
			break
		}
	}
	return r
}

// sound sees that what is behind a fall may be: each page as it was behind one of its records, none of which the log lacks, and no earlier one than Flush has made durable.
func (r *rig) sound(what ...any) {
	r.t.Helper()
	g, e := log.Open(r.d, 0, logCount)
	if e != api.OK {
		r.t.Fatalf("%v: log.Open: error %d", what, e)
	}
	for i := range r.pages {
		k := r.stands(i)
		if k < r.sure[i] {
			r.t.Fatalf("%v: of page %d the version %d stands on the disk, of %d; %d is durable", what, i, k, len(r.was[i]), r.sure[i])
		}
		for _, v := range r.was[i][:k+1] {
			if v.lsn >= g.End() {
				r.t.Fatalf("%v: page %d has the record %d, but the log ends at %d", what, i, v.lsn, g.End())
			}
		}
	}
	r.untouched()
}

// P11.2, P11.3: no page is on the disk ahead of its records: the power goes off in each operation, with each choice of the writes on their way.
func TestFallEach(t *testing.T) {
	count := 0
	for which := range 8 {
		frames, ahead := 1+which/2, which%2 == 0
		for n := 1; ; n++ {
			r := runs(t, 4, frames, ahead, script, n)
			if r.d.On() {
				break
			}
			for _, keep := range probe.Choices(r.d.Pending()) {
				r := runs(t, 4, frames, ahead, script, n)
				answers(t, "Restart", r.d.Restart(keep), api.OK)
				r.sound(frames, ahead, n, keep)
				count++
			}
		}
	}
	if count < 200 {
		t.Errorf("only %d falls", count)
	}
}

// P11.2, P11.3: many falls, one behind the other, each with another pool on what was left.
func TestFallMany(t *testing.T) {
	for seed := range int64(60) {
		draw := rand.New(rand.NewSource(seed))
		pages := 1 + draw.Intn(6)
		r := newRig(t, pages, 1+draw.Intn(3))
		for range 12 {
			answers(t, "Arm", r.d.Arm(1+draw.Intn(12)), api.OK)
			for r.takes(drawnStep(draw, pages)) {
			}
			keep := make([]bool, r.d.Pending())
			for k := range keep {
				keep[k] = draw.Intn(2) == 0
			}
			answers(t, "Restart", r.d.Restart(keep), api.OK)
			r.sound(seed, keep)
			r.forget()
			r.open()
			for i := range pages {
				r.read(i)
			}
		}
	}
}

// forget takes what stands on the disk for what the pages are.
func (r *rig) forget() {
	for i := range r.pages {
		r.was[i] = r.was[i][:r.stands(i)+1]
		r.sure[i] = len(r.was[i]) - 1
	}
}

// P11.3: a page that isn't durable as it is is told, with a record that isn't behind the first one that is lost: behind each step the power goes off, and what was on its way is lost, or kept.
func TestDirtyIsLost(t *testing.T) {
	lost := 0
	for seed := range int64(16) {
		steps := drawnSteps(seed, 60, 5)
		if seed == 0 {
			steps = script
		}
		for n := range len(steps) + 1 {
			for _, kept := range []bool{false, true} {
				r := runs(t, 5, 1+int(seed)%4, seed&4 > 0, steps[:n], 0)
				dirty := r.p.Dirty()
				answers(t, "Restart", r.d.Restart(slices.Repeat([]bool{kept}, r.d.Pending())), api.OK)
				for i := range r.pages {
					k := r.stands(i)
					if k == len(r.was[i])-1 {
						continue
					}
					lost++
					at := slices.IndexFunc(dirty, func(l api.Dirty) bool { return l.Page == i })
					if at < 0 || dirty[at].Since > r.was[i][k+1].lsn {
						t.Fatalf("seed %d, %d steps: Dirty = %v, but page %d has lost the record %d", seed, n, dirty, i, r.was[i][k+1].lsn)
					}
				}
			}
		}
	}
	if lost < 1000 {
		t.Errorf("only %d pages were lost", lost)
	}
}

// P11.3: a page is told no more, when the log was made durable behind its write.
func TestDirtyTillSure(t *testing.T) {
	r := newRig(t, 3, 1)
	r.write(0, 0, 3)
	r.write(1, 0, 3)
	if got := r.p.Dirty(); len(got) != 2 {
		t.Errorf("Dirty = %v", got)
	}
	r.record()
	answers(t, "log.Flush", r.g.Flush(), api.OK)
	if got := r.p.Dirty(); len(got) != 1 || got[0] != (api.Dirty{Page: 1, Since: r.now(1).lsn}) {
		t.Errorf("Dirty = %v", got)
	}
	r.write(0, 1, 1)
	if got := r.p.Dirty(); len(got) != 2 || got[0] != (api.Dirty{Page: 0, Since: r.now(0).lsn}) {
		t.Errorf("Dirty = %v", got)
	}
}

// P11.2, P11.3: the disk's error in each call that needs the disk; what is in memory is there still, and may be written and flushed when the power is on again.
func TestErrors(t *testing.T) {
	for n := range 8 {
		for which, call := range []func(r *rig) api.Errno{
			func(r *rig) api.Errno { _, _, e := r.p.Read(3); return e },
			func(r *rig) api.Errno { return r.p.Write(3, 0, []byte("a"), r.record()) },
			func(r *rig) api.Errno { return r.p.Pin(3) },
			func(r *rig) api.Errno { return r.p.Flush() },
		} {
			r := newRig(t, 4, 2)
			r.write(0, 0, 3)
			r.pin(0)
			r.write(1, 0, 3)
			answers(t, "Arm", r.d.Arm(max(n, 1)), api.OK)
			if n == 0 { // off ahead of the call
				answers(t, "Sync", r.d.Sync(), api.ErrCrash)
			}
			e := call(r)
			if r.d.On() {
				answers(t, "a call", e, api.OK)
				continue
			}
			answers(t, "a call in which the power goes off", e, api.ErrCrash)
			if p, lsn, e := r.p.Read(3); p != nil || lsn != 0 || e != api.ErrCrash {
				t.Errorf("call %d, operation %d: Read(3) = %.4x, %d, error %d", which, n, p, lsn, e)
			}
			answers(t, "Flush of a disk that is off", r.p.Flush(), api.ErrCrash)
			r.tells()
			for range 2 {
				if p, lsn, e := r.p.Read(0); !bytes.Equal(p, r.now(0).bytes) || lsn != r.now(0).lsn || e != api.OK {
					t.Errorf("call %d, operation %d: Read(0) = %.4x, %d, error %d", which, n, p, lsn, e)
				}
				r.write(0, 200, 200)
			}
			answers(t, "Restart", r.d.Restart(nil), api.OK)
			r.flush()
			answers(t, "Restart", r.d.Restart(nil), api.OK)
			if r.stands(0) != len(r.was[0])-1 {
				t.Errorf("call %d, operation %d: page 0 isn't durable behind Flush", which, n)
			}
		}
	}
}

// P11.2: of two errors the one with the least number: the disk's ahead of ErrFull, behind ErrArg.
func TestWhichError(t *testing.T) {
	r := newRig(t, 3, 1)
	r.pin(0)
	answers(t, "Read", r.wants(1), api.ErrFull)
	answers(t, "Arm", r.d.Arm(1), api.OK)
	answers(t, "Sync", r.d.Sync(), api.ErrCrash)
	_, _, e := r.p.Read(1)
	answers(t, "Read", e, api.ErrCrash)
	answers(t, "Write", r.p.Write(1, 0, nil, 480), api.ErrCrash)
	answers(t, "Pin", r.p.Pin(1), api.ErrCrash)
	answers(t, "Write", r.p.Write(1, body, []byte("a"), 480), api.ErrArg)
	answers(t, "Write", r.p.Write(3, 0, nil, 480), api.ErrArg)
	answers(t, "Pin", r.p.Pin(3), api.ErrArg)
	answers(t, "Pin", r.p.Pin(0), api.OK)
	answers(t, "Unpin", r.p.Unpin(0), api.OK)
	answers(t, "Unpin", r.p.Unpin(1), api.ErrState)
	answers(t, "Flush", r.p.Flush(), api.ErrCrash)
}
