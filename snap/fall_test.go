package snap_test

import (
	"fmt"
	"maps"
	"math/rand"
	"slices"
	"testing"

	"muniment/api"
	"muniment/probe"
	"muniment/snap"
)

// step is something that is done with the database; false: the power has gone off.
type step func(r *rig) bool

// keyed is a deed with a key of the longest, so that a few keys have many pages.
func keyed(k, size int) deed { return puts(fmt.Sprintf("%0*d", mostKey, k), largest[:size]) }

func unkeyed(k int) deed { return dels(fmt.Sprintf("%0*d", mostKey, k)) }

// all does deeds in a transaction, and commits it.
func all(deeds ...deed) step {
	return func(r *rig) bool {
		w := r.begin()
		for _, does := range deeds {
			does(w)
		}
		w.commit()
		return r.d.On()
	}
}

// none does deeds in a transaction, and aborts it.
func none(deeds ...deed) step {
	return func(r *rig) bool {
		w := r.begin()
		for _, does := range deeds {
			does(w)
		}
		w.abort()
		return true
	}
}

// stays begins a transaction that stays open.
func stays(r *rig) bool { r.begin(); return true }

// leaves aborts the transaction that is open the longest.
func leaves(r *rig) bool { r.open[0].abort(); return true }

func sweeps(most int) step { return func(r *rig) bool { return r.sweep(most) } }

// crosses commits two transactions that overlap: the second one clashes.
func crosses(r *rig) bool {
	w, v := r.begin(), r.begin()
	w.put("x", "w")
	v.put("y", "v")
	v.del("x")
	if !w.commit() {
		return false
	}
	return !v.commit()
}

func flushes(r *rig) bool { return r.did("Flush", r.s.Flush(), api.OK) }

// parts make many versions, and take them away.
var parts = [][]step{
	{all(puts("a", "1"))},
	{all(keyed(1, 9), keyed(2, mostValue), puts("a", "2")), all(), all(dels("none"))},
	{stays, all(keyed(1, mostValue), keyed(3, mostValue)), crosses, sweeps(100)},
	{none(keyed(4, 9), unkeyed(1)), all(unkeyed(1), unkeyed(2), keyed(4, mostValue)), flushes, all(keyed(2, 3))},
	{stays, all(keyed(1, 5), dels("a")), stays, all(keyed(1, 6), unkeyed(3)), sweeps(2), leaves, sweeps(100)},
	{all(unkeyed(1), unkeyed(2), unkeyed(4)), all(keyed(5, mostValue), dels("x"), dels("y"))},
	{sweeps(1), sweeps(3), sweeps(100), sweeps(100)},
	{all(unkeyed(5)), sweeps(100), all(puts("a", "3")), stays, all(puts("a", "4"))},
}

// runs does steps till the power goes off; true: it has.
func (r *rig) runs(steps []step) bool {
	r.t.Helper()
	for _, does := range steps {
		if !does(r) {
			return true
		}
	}
	return false
}

// The steps do what they are there for.
func TestSteps(t *testing.T) {
	r := newRig(t, 60, 30, 4)
	most := 0
	for _, steps := range parts {
		for _, does := range steps {
			if !does(r) {
				t.Fatal("the power is off")
			}
			r.sees()
			most = max(most, r.versions)
		}
		r.restarts(nil)
	}
	if most < 12 || r.db.Last() != 14 || len(r.now()) != 1 {
		t.Errorf("%d versions, %d commits, %d keys", most, r.db.Last(), len(r.now()))
	}
}

// copied is a rig of a disk that has what is durable on another one's, opened.
func (r *rig) copied() *rig {
	r.t.Helper()
	d, e := probe.CopyOf(r.d)
	sure(r.t, "CopyOf", e)
	c := &rig{t: r.t, d: d, count: r.count, pages: r.pages, frames: r.frames, states: slices.Clone(r.states), versions: r.versions}
	c.story = maps.Clone(r.story)
	for k, l := range c.story {
		c.story[k] = slices.Clone(l)
	}
	c.opensStore()
	c.opens()
	return c
}

// falls does steps on a copy till the power goes off in the n-th operation of the disk; false: it doesn't.
func (r *rig) falls(steps []step, n int) (*rig, bool) {
	r.t.Helper()
	c := r.copied()
	answers(r.t, "Arm", c.d.Arm(n), api.OK)
	return c, c.runs(steps)
}

// P3, P14.3, P14.4: the power goes off in each operation of each Commit and Sweep, with each choice of the writes that are kept: behind the opening all commits that were answered are there, and at most the one in which it went off besides, whole; and the database goes on.
func TestFallEach(t *testing.T) {
	for _, frames := range []int{1, 6} {
		for part, steps := range parts {
			t.Run(fmt.Sprint(frames, " ", part), func(t *testing.T) {
				t.Parallel()
				base := newRig(t, 60, 30, frames)
				if base.runs(slices.Concat(parts[:part]...)) {
					t.Fatal("the power is off")
				}
				base.restarts(nil)
				count := 0
				for n := 1; ; n++ {
					r, fell := base.falls(steps, n)
					if !fell {
						break
					}
					for _, keep := range probe.Choices(r.d.Pending()) {
						r, _ := base.falls(steps, n)
						r.isDead()
						r.restarts(keep)
						if count++; count%5 == 0 {
							r.goesOn()
						}
					}
				}
				if count == 0 {
					t.Error("the power goes off in nothing")
				}
			})
		}
	}
}

// isDead sees that a database whose power has gone off tells nothing that it would have to read, and writes nothing.
func (r *rig) isDead() {
	r.t.Helper()
	ops := r.d.Ops()
	if len(r.open) < api.MaxOpen {
		x, e := r.db.Begin()
		sure(r.t, "Begin", e)
		if b, e := x.Get([]byte("a")); b != nil || e != api.ErrCrash {
			r.t.Errorf("Get = %q, error %d", b, e)
		}
		if l, e := x.Scan(nil, nil); l != nil || e != api.ErrCrash {
			r.t.Errorf("Scan = %q, error %d", l, e)
		}
		sure(r.t, "Put", x.Put([]byte("q"), nil))
		if n, e := x.Commit(); n != 0 || e != api.ErrCrash {
			r.t.Errorf("Commit = %d, error %d", n, e)
		}
	}
	for most := range 3 {
		if n, e := r.db.Sweep(most); n != 0 || e != api.ErrCrash {
			r.t.Errorf("Sweep(%d) = %d, error %d", most, n, e)
		}
	}
	if n, e := r.db.Versions(); n != 0 || e != api.ErrCrash {
		r.t.Errorf("Versions = %d, error %d", n, e)
	}
	if r.d.Ops() != ops {
		r.t.Error("a database whose power has gone off writes")
	}
}

// goesOn sees that a database behind a fall may be used on.
func (r *rig) goesOn() {
	r.t.Helper()
	w := r.begin()
	r.put("on", "a", "b")
	r.del("a", "x")
	r.sees()
	w.abort()
	r.sweep(1000)
	r.sees()
	r.few()
	r.restarts(nil)
}

// P3, P14.3, P14.4: so it is in a log that is so small that a Sweep is many transactions of the store, and a Commit has room, if it has any, when all of the log is free alone.
func TestFallSmall(t *testing.T) {
	filled := func(n, what int) step {
		return func(r *rig) bool {
			w := r.begin()
			w.fills(n, what)
			w.commitFull()
			return r.d.On()
		}
	}
	steps := []step{sweeps(1000), filled(4, 1), filled(3, 2), filled(2, 3), sweeps(1000)}
	base := newRig(t, 16, 60, 4)
	for n := range 30 {
		filled(1+n%3, n)(base)
	}
	base.restarts(nil)
	if r, _ := base.falls(steps, 0); base.versions < 30 || r.db.Last() == base.db.Last() {
		t.Errorf("%d versions, %d commits", base.versions, r.db.Last())
	}
	for first := range 8 {
		t.Run(fmt.Sprint(first), func(t *testing.T) {
			t.Parallel()
			base := base.copied()
			base.t = t
			for n := 1 + first; ; n += 24 {
				if _, fell := base.falls(steps, n); !fell {
					if n < 100 {
						t.Errorf("only %d operations", n)
					}
					break
				}
				base.fallsSmall(steps, n)
			}
		})
	}
}

// fallsSmall does steps till the power goes off in the n-th operation, and opens what is there with none, all, and some of the writes kept.
func (r *rig) fallsSmall(steps []step, n int) {
	r.t.Helper()
	for kept := range 3 {
		c, _ := r.falls(steps, n)
		keep := make([]bool, c.d.Pending())
		for i := range keep {
			keep[i] = kept == 1 || kept == 2 && i%2 == n/2%2
		}
		c.isDead()
		c.restarts(keep)
		c.within(func(w *twin) { w.put("on", "on") })
		c.sweep(1000)
		c.sees()
		c.restarts(nil)
	}
}

// P14.1: the power goes off in each operation of Open, of a store without a tree, with each choice of the writes that are kept, and in the openings behind it.
func TestFallOpen(t *testing.T) {
	for n := 1; ; n++ {
		fell := false
		r := newStore(t, 16, 5, 2)
		answers(t, "Arm", r.d.Arm(n), api.OK)
		if r.opens() {
			break
		}
		for _, keep := range probe.Choices(r.d.Pending()) {
			for m := 1; ; m++ {
				r := newStore(t, 16, 5, 2)
				answers(t, "Arm", r.d.Arm(n), api.OK)
				r.opens()
				answers(t, "Restart", r.d.Restart(keep), api.OK)
				r.opensStore()
				answers(t, "Arm", r.d.Arm(m), api.OK)
				again := r.opens()
				r.restarts(nil)
				r.put("1", "a")
				r.restarts(nil)
				if again {
					break
				}
				fell = true
			}
		}
		if n == 1 && !fell {
			t.Error("the power goes off in no second Open")
		}
	}
}

// P14.1: Open with the power off, and of a store that has seen it go off.
func TestOpenOff(t *testing.T) {
	r := newRig(t, 20, 8, 2)
	r.put("1", "a")
	turnOff(t, r.d)
	for range 2 {
		if db, e := snap.Open(r.s); db != nil || e != api.ErrCrash {
			t.Errorf("Open: a database %v, error %d", db != nil, e)
		}
		answers(t, "Restart", r.d.Restart(nil), api.OK)
	}
	r.opensStore()
	r.opens()
}

// P3: the power goes off between the steps, and nothing, or all, that was on its way is kept.
func TestFallBetween(t *testing.T) {
	steps := slices.Concat(parts...)
	for n := range len(steps) + 1 {
		for _, kept := range []bool{false, true} {
			r := newRig(t, 60, 30, 2)
			r.runs(steps[:n])
			r.restarts(slices.Repeat([]bool{kept}, r.d.Pending()))
		}
	}
}

// P3, P4, P14.1 to P14.4: many falls, one behind the other, with what is drawn between them.
func TestFallMany(t *testing.T) {
	for seed := range 12 {
		t.Run(fmt.Sprint(seed), func(t *testing.T) {
			t.Parallel()
			draw := rand.New(rand.NewSource(int64(seed)))
			r := newRig(t, 80+draw.Intn(60), 200, 1+draw.Intn(6))
			fell := 0
			for range 80 {
				answers(t, "Arm", r.d.Arm(1+draw.Intn(60)), api.OK)
				for n := 0; n < 60 && r.d.On() && r.versions < 100; n++ {
					r.drawn(draw)
				}
				if !r.d.On() {
					fell++
				}
				keep := make([]bool, r.d.Pending())
				for i := range keep {
					keep[i] = draw.Intn(2) == 0
				}
				r.restarts(keep)
				if r.versions > 60 {
					r.sweep(1000)
					r.sees()
				}
			}
			if fell < 20 || len(r.states) < 40 {
				t.Errorf("the power went off %d times, in %d commits", fell, len(r.states)-1)
			}
		})
	}
}
