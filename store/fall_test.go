package store_test

import (
	"fmt"
	"math/rand"
	"slices"
	"testing"

	"muniment/api"
	"muniment/probe"
	"muniment/store"
)

// script has transactions that are committed and aborted, pages that are driven out in them, checkpoints and flushes in the midst of them and between.
var script = []step{
	{begins, 0, 0, 0}, {writes, 0, 0, 504}, {writes, 1, 3, 20}, {commits, 0, 0, 0},
	{begins, 0, 0, 0}, {writes, 0, 5, 9}, {reads, 3, 0, 0}, {writes, 2, 500, 4}, {checks, 0, 0, 0}, {writes, 0, 7, 30}, {writes, 3, 1, 1}, {writes, 1, 0, 50}, {commits, 0, 0, 0},
	{reads, 2, 0, 0}, {begins, 0, 0, 0}, {writes, 2, 9, 9}, {writes, 3, 0, 40}, {flushes, 0, 0, 0}, {writes, 2, 0, 12}, {aborts, 0, 0, 0}, {checks, 0, 0, 0},
	{begins, 0, 0, 0}, {writes, 1, 100, 100}, {writes, 0, 503, 1}, {writes, 1, 150, 100}, {reads, 0, 0, 0}, {checks, 0, 0, 0}, {writes, 3, 0, 3}, {aborts, 0, 0, 0},
	{begins, 0, 0, 0}, {commits, 0, 0, 0}, {flushes, 0, 0, 0}, {checks, 0, 0, 0},
	{begins, 0, 0, 0}, {writes, 2, 44, 44}, {writes, 2, 45, 1}, {flushes, 0, 0, 0}, {checks, 0, 0, 0}, {writes, 0, 44, 400}, {writes, 2, 46, 2}, {reads, 1, 0, 0}, {commits, 0, 0, 0},
	{begins, 0, 0, 0}, {writes, 0, 0, 504}, {writes, 1, 0, 504}, {aborts, 0, 0, 0}, {begins, 0, 0, 0}, {writes, 3, 0, 504}, {writes, 3, 6, 0}, {writes, 0, 77, 7}, {commits, 0, 0, 0},
	{begins, 0, 0, 0}, {writes, 1, 8, 8}, {writes, 2, 8, 8}, {writes, 0, 8, 8}, {writes, 1, 4, 8},
}

// runs does steps till the power goes off in the n-th operation of the disk; 0: it doesn't.
func runs(t *testing.T, frames int, steps []step, n int) *rig {
	t.Helper()
	r := newRig(t, 16, 4, frames)
	answers(t, "Arm", r.d.Arm(n), api.OK)
	for _, s := range steps {
		if !r.takes(s) {
			break
		}
	}
	return r
}

// eachFall goes through all falls in the script, and all choices of the writes that are kept, up to behind the restart.
func eachFall(t *testing.T, frames int, seen func(what string, r *rig)) {
	t.Helper()
	for n := 1; ; n++ {
		r := runs(t, frames, script, n)
		if r.d.On() {
			return
		}
		for _, keep := range probe.Choices(r.d.Pending()) {
			r := runs(t, frames, script, n)
			answers(t, "Restart", r.d.Restart(keep), api.OK)
			seen(fmt.Sprintf("%d frames, the power off in %d, kept %v", frames, n, keep), r)
		}
	}
}

// P12.1, P12.4, P3: the power goes off in each operation of a script, with each choice of the writes that are kept: behind Open the pages are as they were behind the last commit, and the store may be used on.
func TestFallEach(t *testing.T) {
	for _, frames := range []int{1, 2, 3, 4, api.MaxFrames} {
		t.Run(fmt.Sprint(frames), func(t *testing.T) {
			t.Parallel()
			count := 0
			eachFall(t, frames, func(what string, r *rig) {
				count++
				if !r.opens() {
					t.Fatalf("%s: the store isn't opened", what)
				}
				r.goesOn(what)
			})
			if count < 200 {
				t.Errorf("only %d falls", count)
			}
		})
	}
}

// goesOn sees that a store that was opened behind a fall may be used on.
func (r *rig) goesOn(what string) {
	r.t.Helper()
	for range 2 {
		for _, s := range script[:14] {
			if !r.takes(s) {
				r.t.Fatalf("%s: the power isn't on", what)
			}
		}
		answers(r.t, "Restart", r.d.Restart(nil), api.OK)
		if !r.opens() {
			r.t.Fatalf("%s: the store isn't opened again", what)
		}
	}
}

// P12.4: an Open in which the power goes off, in each operation, with each choice of the writes that are kept, and again in the next ones, opens what one that comes to its end opens.
func TestFallInOpen(t *testing.T) {
	for _, frames := range []int{1, 4} {
		t.Run(fmt.Sprint(frames), func(t *testing.T) {
			t.Parallel()
			count := 0
			eachFall(t, frames, func(what string, r *rig) { count += r.fallsInOpen(what) })
			if count < 3000 {
				t.Errorf("only %d falls", count)
			}
		})
	}
}

// fallsInOpen lets the power go off in each operation of an opening, with each choice; how often it did.
func (r *rig) fallsInOpen(what string) int {
	r.t.Helper()
	left := r.d
	r.d = copyOf(r.t, left)
	if !r.opens() {
		r.t.Fatalf("%s: the store isn't opened", what)
	}
	count := 0
	falls := func(n int) bool {
		r.d = copyOf(r.t, left)
		answers(r.t, "Arm", r.d.Arm(n), api.OK)
		return !r.opens()
	}
	for n := 1; falls(n); n++ {
		for _, keep := range probe.Choices(r.d.Pending()) {
			falls(n)
			answers(r.t, "Restart", r.d.Restart(keep), api.OK)
			r.again(count, n)
			count++
		}
	}
	return count
}

// again opens the store that was restarted, with a fall each time that comes later and later, and a choice that is another one each time, till it is opened.
func (r *rig) again(which, n int) {
	r.t.Helper()
	for tries := 0; ; tries++ {
		answers(r.t, "Arm", r.d.Arm(n+tries), api.OK)
		if r.opens() {
			return
		}
		choices := probe.Choices(r.d.Pending())
		answers(r.t, "Restart", r.d.Restart(choices[(which+tries)%len(choices)]), api.OK)
	}
}

// P12.4: an Open that never comes further than where the power goes off in it can be tried any number of times, in a store whose log was full.
func TestOpenNeverLacksRoom(t *testing.T) {
	for _, frames := range []int{1, 3, api.MaxFrames} {
		for _, size := range []int{1, 40, 504} {
			r := fullRig(t, 16, 5, frames, size)
			r.flush()
			answers(t, "Restart", r.d.Restart(nil), api.OK)
			ops := r.d.Ops()
			left := copyOf(t, r.d)
			if !r.opens() {
				t.Fatal("the store isn't opened")
			}
			ops = r.d.Ops() - ops
			r.d = left
			for tries := range 40 * ops {
				answers(t, "Arm", r.d.Arm(1+tries%ops), api.OK)
				if r.opens() {
					continue
				}
				keep := make([]bool, r.d.Pending())
				for k := range keep {
					keep[k] = (tries+k)%3 > 0
				}
				answers(t, "Restart", r.d.Restart(keep), api.OK)
			}
			if !r.opens() {
				t.Fatal("the store isn't opened")
			}
		}
	}
}

// fullRig is a store in whose transaction so many bytes of a page were changed each time, till the log had no room.
func fullRig(t *testing.T, count, pages, frames, size int) *rig {
	t.Helper()
	r := newRig(t, count, pages, frames)
	r.begin()
	r.fill(size)
	return r
}

// fill writes so many bytes of a page each time, till the log has no room.
func (r *rig) fill(size int) {
	r.t.Helper()
	for i := 0; ; i++ {
		room := r.s.Room()
		r.write(i%r.pages, with(r.now[i%r.pages], i%(body-size+1), size))
		if r.s.Room() == room {
			return
		}
	}
}

// P12.1 to P12.5, P3: many falls, one behind the other, in the openings too; the log's ring is gone round many times.
func TestFallMany(t *testing.T) {
	for seed := range int64(24) {
		draw := rand.New(rand.NewSource(seed))
		pages := 1 + draw.Intn(7)
		r := newRig(t, 16+draw.Intn(9), pages, 1+draw.Intn(5))
		for range 60 {
			answers(t, "Arm", r.d.Arm(1+draw.Intn(60)), api.OK)
			for r.takes(drawnStep(draw, pages)) {
			}
			for {
				keep := make([]bool, r.d.Pending())
				for k := range keep {
					keep[k] = draw.Intn(2) == 0
				}
				answers(t, "Restart", r.d.Restart(keep), api.OK)
				answers(t, "Arm", r.d.Arm(draw.Intn(12)), api.OK)
				if r.opens() {
					break
				}
			}
		}
	}
}

// P12.1, P12.4: the power goes off behind each step, in none, and nothing, or all, that was on its way is kept.
func TestFallBehindEach(t *testing.T) {
	for _, frames := range []int{1, 2, 4} {
		for n := range len(script) + 1 {
			for _, kept := range []bool{false, true} {
				r := runs(t, frames, script[:n], 0)
				answers(t, "Restart", r.d.Restart(slices.Repeat([]bool{kept}, r.d.Pending())), api.OK)
				if !r.opens() {
					t.Fatal("the store isn't opened")
				}
			}
		}
	}
}

// P12.1, P12.4: the power goes off while a store is made where one was: there is the old one, whole, or the new one, or none.
func TestFallFormat(t *testing.T) {
	for _, old := range []bool{false, true} {
		made := func(n int) (*rig, bool) {
			r := &rig{t: t, d: drive(t, 1+16+4), count: 16, pages: 4, frames: 2}
			if old {
				r = runs(t, 2, script, 0)
				answers(t, "Restart", r.d.Restart(nil), api.OK)
			}
			answers(t, "Arm", r.d.Arm(n), api.OK)
			e := store.Format(r.d, 16)
			if e != api.OK && e != api.ErrCrash {
				t.Fatalf("Format: error %d", e)
			}
			return r, e == api.ErrCrash
		}
		for n := 1; ; n++ {
			r, fell := made(n)
			if !fell {
				break
			}
			for _, keep := range probe.Choices(r.d.Pending()) {
				r, _ = made(n)
				answers(t, "Restart", r.d.Restart(keep), api.OK)
				s, e := store.Open(r.d, 16, 2)
				r.s = s
				switch {
				case e == api.ErrSum || e == api.ErrForm:
				case e == api.OK && r.is(noughts(4)):
				case e == api.OK && old && r.is(r.sure):
				default:
					t.Errorf("operation %d, kept %v: error %d, or the pages are mixed", n, keep, e)
				}
			}
		}
	}
}

// noughts are n pages of them.
func noughts(n int) [][]byte {
	var out [][]byte
	for range n {
		out = append(out, make([]byte, body))
	}
	return out
}

// P12.4: each call in which the power goes off answers ErrCrash, and all others behind it, whatever else applies, also when the power is on again; nothing is done then.
func TestCrash(t *testing.T) {
	prepare := func() *rig {
		// One frame, whose page goes to the disk when another one is read.
		r := newRig(t, 16, 3, 1)
		r.begin()
		r.write(0, filled(1))
		return r
	}
	for name, c := range map[string]struct {
		ready func(r *rig)
		call  func(r *rig) api.Errno
	}{
		"Read": {func(r *rig) {}, func(r *rig) api.Errno {
			b, e := r.s.Read(1)
			if e != api.OK && b != nil {
				t.Errorf("Read = %.4x beside error %d", b, e)
			}
			return e
		}},
		"Write":      {func(r *rig) {}, func(r *rig) api.Errno { return r.s.Write(1, filled(2)) }},
		"Commit":     {func(r *rig) {}, func(r *rig) api.Errno { return r.s.Commit() }},
		"Abort":      {func(r *rig) { r.write(1, filled(2)) }, func(r *rig) api.Errno { return r.s.Abort() }},
		"Checkpoint": {func(r *rig) {}, func(r *rig) api.Errno { return r.s.Checkpoint() }},
		"Flush":      {func(r *rig) {}, func(r *rig) api.Errno { return r.s.Flush() }},
		"Begin": {func(r *rig) { r.fill(504); r.abort() }, func(r *rig) api.Errno {
			n, e := r.s.Begin()
			if e != api.OK && n != 0 {
				t.Errorf("Begin = %d beside error %d", n, e)
			}
			return e
		}},
	} {
		falls := 0
		for n := 1; ; n++ {
			r := prepare()
			c.ready(r)
			answers(t, "Arm", r.d.Arm(n), api.OK)
			ops := r.d.Ops()
			e := c.call(r)
			if r.d.Ops()-ops < n {
				answers(t, name, e, api.OK)
				break
			}
			falls++
			answers(t, fmt.Sprintf("%s, falling in %d", name, n), e, api.ErrCrash)
			answers(t, "Restart", r.d.Restart(nil), api.OK)
			r.isDead(name + ", the power on again")
			turnOff(t, r.d)
			r.isDead(name)
		}
		if falls == 0 {
			t.Errorf("%s: no operation is done", name)
		}
	}
}

// isDead sees that each call answers ErrCrash, and does nothing.
func (r *rig) isDead(what string) {
	r.t.Helper()
	ops, pending := r.d.Ops(), r.d.Pending()
	for range 2 {
		n, e := r.s.Begin()
		answers(r.t, what+": Begin", e, api.ErrCrash)
		for _, i := range []int{0, 1, r.pages - 1, -1, r.pages} {
			b, e := r.s.Read(i)
			answers(r.t, what+": Read", e, api.ErrCrash)
			if b != nil || n != 0 {
				r.t.Errorf("%s: Read = %.4x, Begin = %d", what, b, n)
			}
			answers(r.t, what+": Write", r.s.Write(i, filled(9)), api.ErrCrash)
			answers(r.t, what+": Write", r.s.Write(i, nil), api.ErrCrash)
		}
		answers(r.t, what+": Commit", r.s.Commit(), api.ErrCrash)
		answers(r.t, what+": Abort", r.s.Abort(), api.ErrCrash)
		answers(r.t, what+": Checkpoint", r.s.Checkpoint(), api.ErrCrash)
		answers(r.t, what+": Flush", r.s.Flush(), api.ErrCrash)
	}
	if r.d.Ops() != ops || r.d.Pending() != pending {
		r.t.Errorf("%s: %d operations were done", what, r.d.Ops()-ops)
	}
}

// P12.4: so it is too, if the power has gone off in no call of the store's: with a transaction open, behind one, and ahead of the first one.
func TestOff(t *testing.T) {
	for n := range 4 {
		r := newRig(t, 16, 3, 4)
		for _, s := range []step{{begins, 0, 0, 0}, {writes, 0, 0, 9}, {commits, 0, 0, 0}}[:n] {
			r.takes(s)
		}
		turnOff(t, r.d)
		r.isDead("off")
		if r.s.Pages() != 3 {
			t.Errorf("Pages = %d", r.s.Pages())
		}
		answers(t, "Format", store.Format(r.d, 16), api.ErrCrash)
		s, e := store.Open(r.d, 16, 4)
		if s != nil || e != api.ErrCrash {
			t.Errorf("Open: a store %v, error %d", s != nil, e)
		}
		answers(t, "Restart", r.d.Restart(nil), api.OK)
		r.isDead("on again")
		if !r.opens() {
			t.Error("the store isn't opened")
		}
	}
}
