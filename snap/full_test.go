package snap_test

import (
	"fmt"
	"math/rand"
	"testing"

	"muniment/api"
	"muniment/disk"
	"muniment/store"
)

// P14.3: 300 pages are enough for 40 commits of a few keys, of the longest ones too; so they are, and a log of 200 sectors, for 59 of keys and values as requests have them.
func TestEnough(t *testing.T) {
	short := func(n, k int) string { return fmt.Sprint(n, k) }
	long := func(n, k int) string { return fmt.Sprintf("%0*d", mostKey, n*37%40*10+k) }
	again := func(n, k int) string { return fmt.Sprintf("%0*d", mostKey, k) }
	for name, c := range map[string]struct {
		count, commits, keys int
		key                  func(n, k int) string
		value                string
	}{
		"short": {60, 40, 5, short, "v"}, "large": {60, 40, 4, short, largest}, "long": {60, 40, 4, long, ""}, "longest": {60, 40, 3, long, largest}, "again": {60, 40, 4, again, largest},
		"requests": {200, 59, 5, short, largest[:90]}, "requests again": {200, 59, 5, again, largest[:90]},
	} {
		for _, open := range []bool{false, true} {
			r := newRig(t, c.count, 300, 4)
			for n := range c.commits {
				w := r.begin()
				for k := range c.keys {
					w.put(c.key(n, k), c.value)
				}
				if n, e := w.x.Commit(); n == 0 || e != api.OK {
					t.Fatalf("%s: commit %d: error %d", name, len(r.states), e)
				}
				w.ends()
				r.committed(w.own)
				if open && n%5 == 0 && len(r.open) < api.MaxOpen {
					r.begin()
				}
			}
			r.sees()
			r.sweep(1000)
			r.sees()
			r.restarts(nil)
		}
	}
}

// P14.3: Commit where there is no page more: ErrFull, and it has written nothing; what is open sees what it saw, and behind a Sweep there is room again.
func TestNoPage(t *testing.T) {
	for _, pages := range []int{3, 4, 5, 8, 13, 20} {
		for _, size := range []int{0, 60, mostValue} {
			r := newRig(t, 60, pages, 4)
			early := r.begin()
			full := 0
			for n := 0; full < 5; n++ {
				w := r.begin()
				for k := range 1 + n%3 {
					w.put(fmt.Sprint(k), largest[:size])
				}
				if !w.commitFull() {
					full++
					r.sees()
				}
				if n > 900 {
					t.Fatal("there is always a page more")
				}
			}
			early.abort()
			for len(r.open) > 0 {
				r.open[0].abort()
			}
			r.sees()
			for r.versions > r.needed() {
				was := r.versions
				r.sweepFull()
				r.sees()
				if r.versions == was {
					break
				}
			}
			if r.versions > r.needed() {
				t.Fatalf("with %d pages full %d versions can't be taken away", pages, r.versions-r.needed())
			}
			r.restarts(nil)
		}
	}
}

// sweepFull sweeps where there is little room: all, or some.
func (r *rig) sweepFull() {
	r.t.Helper()
	n, e := r.db.Sweep(1000)
	if e != api.OK || n > r.versions-r.needed() {
		r.t.Fatalf("Sweep = %d of %d, error %d", n, r.versions-r.needed(), e)
	}
	r.versions -= n
}

// P14.3: Commit of more keys than the log has room for: ErrFull, and it has written nothing; of as many as it has room for it isn't refused, however much of the log is used.
func TestNoLog(t *testing.T) {
	for _, count := range []int{16, 21, 40} {
		draw := rand.New(rand.NewSource(int64(count)))
		most := 0
		for tries := range 4 {
			r := newRig(t, count, 400, 8)
			r.put("x", "a", "b")
			for n := 1; ; n++ {
				w := r.begin()
				w.fills(n, tries)
				if !w.commitFull() {
					r.sees()
					r.restarts(nil)
					r.put("y", "a")
					if most == 0 {
						most = n
					}
					most = min(most, n)
					break
				}
				r.sweep(1 << 30)
			}
		}
		if most < count/8 || most > count*4 {
			t.Errorf("a log of %d sectors has room for less than %d keys", count, most)
		}
		r := newRig(t, count, 400, 8)
		for n := range 60 {
			for range draw.Intn(4) {
				r.put(fmt.Sprint(n), "a", "b")
			}
			w := r.begin()
			w.fills(most/2, n)
			w.commit()
			r.sweep(1 << 30)
			r.sees()
		}
	}
}

// fills puts some keys with large values, that change from one transaction to the next.
func (w *twin) fills(n, what int) {
	w.r.t.Helper()
	for k := range n {
		w.put(fmt.Sprintf("%03d", k), fmt.Sprint(what, largest[:mostValue-8]))
	}
}

// P14.3: Commit with no room left clashes with nobody, and nobody with it.
func TestFullNoClash(t *testing.T) {
	r := newRig(t, 16, 60, 4)
	w, v := r.begin(), r.begin()
	w.fills(200, 1)
	v.fills(2, 2)
	if w.commitFull() {
		t.Fatal("200 keys have room in a log of 16 sectors")
	}
	r.sees()
	if !v.commit() {
		t.Error("a commit clashes with one that had no room")
	}
	r.restarts(nil)
}

// P14.4: in a log so small that it has no room to take away every version of a deep tree: Sweep takes away what it can, and where it answers an error nothing has changed.
func TestSweepNoLog(t *testing.T) {
	partial := 0
	for _, size := range []int{0, 40, mostValue} {
		r := newRig(t, 200, 900, 8)
		for n := range 90 {
			r.within(func(w *twin) {
				for k := range 6 {
					w.put(fmt.Sprintf("%0*d", mostKey, (n*41+k)%200), largest[:size])
				}
			})
		}
		r.moves(16)
		for r.versions > r.needed() {
			n, e := r.db.Sweep(1000)
			if e != api.OK && (e != api.ErrFull || n != 0) || e == api.OK && n < 1 {
				t.Fatalf("Sweep = %d, error %d", n, e)
			}
			r.versions -= n
			r.sees()
			if e != api.OK {
				partial++
				break
			}
			if r.versions > r.needed() {
				partial++
			}
		}
		r.restarts(nil)
	}
	if partial == 0 {
		t.Error("there is room for all")
	}
}

// moves brings what is there to another disk, whose log is of another size.
func (r *rig) moves(count int) {
	r.t.Helper()
	was := r.s
	d, e := disk.New(1 + count + r.pages)
	sure(r.t, "disk.New", e)
	sure(r.t, "Format", store.Format(d, count))
	r.d, r.count = d, count
	r.opensStore()
	for i := range r.pages {
		b, e := was.Read(i)
		sure(r.t, "Read", e)
		_, e = r.s.Begin()
		sure(r.t, "Begin", e)
		sure(r.t, "Write", r.s.Write(i, b))
		sure(r.t, "Commit", r.s.Commit())
	}
	r.opens()
}
