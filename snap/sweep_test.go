package snap_test

import (
	"fmt"
	"math"
	"testing"

	"muniment/api"
)

// stack is a database in which keys were put, deleted, and put again, with a transaction open behind each of the commits that are named.
func stack(t *testing.T, moments ...int) *rig {
	t.Helper()
	r := newRig(t, 60, 120, 4)
	open := func() {
		for _, moment := range moments {
			if moment == len(r.states)-1 {
				r.begin()
			}
		}
	}
	open()
	for n := 1; n <= 8; n++ {
		r.within(func(w *twin) {
			w.put("always", fmt.Sprint(n))
			if n%2 == 1 {
				w.put("odd", fmt.Sprint(n))
				w.del("even")
			} else {
				w.del("odd")
				w.put("even", fmt.Sprint(n))
			}
			switch n {
			case 2:
				w.put("once", "2")
				w.put("gone", "2")
				w.put("\x00", "2")
			case 3, 5:
				w.del("never")
				w.del("gone")
			case 4:
				w.del("\x00")
			}
		})
		open()
	}
	r.sees()
	return r
}

// momentSets are moments at which transactions are open.
var momentSets = [][]int{{}, {0}, {8}, {3}, {4}, {7}, {2, 3}, {0, 8}, {1, 5}, {3, 3, 3}, {0, 2, 4, 6, 8}, {1, 2, 3, 4, 5, 6, 7}, {0, 1, 2, 3, 4, 5, 6, 7, 8, 8}}

// P14.4: Sweep with none open and with several open at unlike moments, of each number: how many it answers, how many Versions answers behind it, and that what every open transaction sees stays.
func TestSweep(t *testing.T) {
	for _, moments := range momentSets {
		for _, most := range []int{0, 1, 2, 3, 5, 1000, math.MaxInt} {
			r := stack(t, moments...)
			for left := -1; left != r.versions && r.versions > r.needed(); {
				left = r.versions
				r.sweep(most)
				r.sees()
			}
			if most == 0 {
				continue
			}
			for range 2 {
				r.sweep(most)
				r.sees()
			}
			r.few()
			r.put("9", "odd", "even", "gone", "more")
			r.sees()
			for len(r.open) > 0 {
				r.open[len(r.open)/2].abort()
				r.sweep(most)
				r.sees()
			}
			r.sweep(1000)
			r.few()
			r.restarts(nil)
		}
	}
}

// few sees that there are as few versions as the document says of a database of which Sweep answers 0.
func (r *rig) few() {
	r.t.Helper()
	n, e := r.db.Versions()
	if len(r.open) == 0 && n != len(r.now()) || n > len(r.story)*(len(r.open)+1) || e != api.OK {
		r.t.Fatalf("%d versions of %d keys, with %d open, %d of them there, error %d", n, len(r.story), len(r.open), len(r.now()), e)
	}
}

// P14.4: as many as there are, one less, and one more.
func TestSweepJust(t *testing.T) {
	for _, moments := range momentSets {
		for _, more := range []int{-1, 0, 1} {
			r := stack(t, moments...)
			unseen := r.versions - r.needed()
			if more < 0 && unseen == 0 {
				continue
			}
			r.sweep(unseen + more)
			r.sees()
			if r.versions-r.needed() != max(-more, 0) {
				t.Errorf("%d are left", r.versions-r.needed())
			}
		}
	}
}

// P14.4: keys that are gone have no version left, nor has one that never was.
func TestSweepGone(t *testing.T) {
	r := newRig(t, 60, 60, 4)
	for range 3 {
		for _, most := range []int{1, 2, 100} {
			r.put("1", "a", "b", "c")
			r.put("2", "b")
			r.del("a", "b", "c", "never")
			for r.versions > 0 {
				r.sweep(most)
				r.sees()
			}
			if n, e := r.db.Versions(); n != 0 || e != api.OK {
				t.Fatalf("%d versions are left, error %d", n, e)
			}
			r.sweep(most)
		}
	}
	// The number of the last commit stays, whatever is left of what was written.
	r.restarts(nil)
	if r.db.Last() != 27 {
		t.Errorf("Last = %d", r.db.Last())
	}
}

// P14.4: a most below 0, of a database with versions to take away, of an empty one, and with the power off, which goes behind it.
func TestSweepBelow(t *testing.T) {
	for _, r := range []*rig{stack(t), newRig(t, 16, 6, 2)} {
		below := func() {
			t.Helper()
			for _, most := range []int{-1, -2, math.MinInt} {
				if n, e := r.db.Sweep(most); n != 0 || e != api.ErrArg {
					t.Errorf("Sweep(%d) = %d, error %d", most, n, e)
				}
			}
		}
		below()
		r.sees()
		turnOff(t, r.d)
		below()
		if n, e := r.db.Sweep(3); n != 0 || e != api.ErrCrash {
			t.Errorf("Sweep with the power off = %d, error %d", n, e)
		}
		if n, e := r.db.Versions(); n != 0 || e != api.ErrCrash {
			t.Errorf("Versions with the power off = %d, error %d", n, e)
		}
	}
}

// P14.4, P14.3: that a version was taken away is forgotten by no commit: what has written its key clashes still.
func TestSweepClash(t *testing.T) {
	r := newRig(t, 60, 60, 4)
	puts, dels, apart := r.begin(), r.begin(), r.begin()
	puts.put("k", "old")
	dels.del("l")
	apart.put("m", "old")
	r.put("1", "k", "l")
	r.del("k", "l")
	r.sweep(100)
	r.sees()
	if puts.commit() || dels.commit() || !apart.commit() {
		t.Error("behind a Sweep others clash than those that are to")
	}
	// Behind the last one that was open nobody clashes.
	r.put("2", "k", "l", "m")
	r.sees()
}

// P14.4: what a transaction has written itself is no version till it is committed, and stays.
func TestSweepOwn(t *testing.T) {
	r := stack(t, 3)
	w := r.begin()
	w.put("odd", "own")
	w.del("always")
	w.put("own", "own")
	r.sweep(1000)
	r.sees()
	w.commit()
	r.sees()
	r.sweep(1000)
	r.sees()
}

// P14.4: very many versions, in a log that has no room for all at once: all are taken away.
func TestSweepMany(t *testing.T) {
	for _, count := range []int{16, 17, 24, 60} {
		for _, value := range []string{"", largest} {
			for _, key := range []string{"%d", "%079d"} {
				r := newRig(t, count, 400, 4)
				for full := false; !full && r.versions < 150; {
					w := r.begin()
					w.put(fmt.Sprintf(key, r.versions%4), value)
					full = !w.commitFull()
				}
				if r.versions < 40 {
					t.Fatalf("a log of %d sectors has room for %d commits alone", count, r.versions)
				}
				w := r.begin()
				r.sweep(20)
				r.sees()
				r.del(fmt.Sprintf(key, 0))
				r.del(fmt.Sprintf(key, 3))
				r.sweep(1000)
				r.sees()
				w.abort()
				r.sweep(1000)
				r.few()
				r.restarts(nil)
			}
		}
	}
}
