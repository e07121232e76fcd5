package shift_test

import (
	"fmt"
	"math"
	"testing"

	"muniment/api"
	"muniment/shift"
)

// is sees which state a transaction of its own sees.
func (r *rig) is(want byte) {
	r.t.Helper()
	w := r.begin()
	if s, e := r.tab.State(w.x); s != want || e != api.OK {
		r.t.Fatalf("State = %d, error %d, want %d", s, e, want)
	}
	w.abort()
}

// P16.2: the state as each transaction sees it: behind Make, behind a Start that isn't committed, that is aborted, and that is committed.
func TestState(t *testing.T) {
	t.Parallel()
	for _, m := range shifts() {
		r := newRig(t, m)
		r.is(shift.Old)
		r.within(func(w *twin) { w.rowsOf(3) })
		r.is(shift.Old)
		w, ahead := r.begin(), r.begin()
		w.start()
		w.tells()
		ahead.tells()
		r.is(shift.Old)
		w.abort()
		r.is(shift.Old)
		ahead.tells()
		r.within(func(w *twin) { w.start() })
		r.is(shift.Moving)
		ahead.tells()
		ahead.abort()
		r.sees()
		r.within(func(w *twin) {
			w.all()
			w.tells()
			r.is(shift.Moving)
		})
		r.is(shift.New)
		r.sees()
	}
}

// P16.2: Start twice, in one transaction and in two, and in the state New: ErrState, and nothing is written.
func TestStartTwice(t *testing.T) {
	t.Parallel()
	for _, rows := range []int{0, 1, 4} {
		r := newRig(t, shifts()[0])
		r.within(func(w *twin) { w.rowsOf(rows) })
		r.within(func(w *twin) {
			w.start()
			w.start()
		})
		for _, does := range []func(w *twin){
			func(w *twin) { w.start() },
			func(w *twin) { w.step(1) },
			func(w *twin) { w.start() },
			func(w *twin) { w.all() },
			func(w *twin) { w.start() },
		} {
			r.within(func(w *twin) {
				does(w)
				w.tells()
			})
			r.sees()
		}
		r.is(shift.New)
	}
}

// P16.4: Step of each number, of each number of rows, till the state is New; what is told is the same behind each.
func TestStep(t *testing.T) {
	t.Parallel()
	for _, m := range shifts() {
		for rows := range 5 {
			r := newRig(t, m)
			r.within(func(w *twin) { w.rowsOf(rows) })
			for _, most := range []int{1, 2, 3, 4, 5, 6, 1 << 40, math.MaxInt} {
				w := r.begin()
				w.start()
				for w.state == shift.Moving {
					w.step(most)
					w.tells()
				}
				w.step(most)
				w.tells()
				w.abort()
			}
			r.within(func(w *twin) { w.start() })
			for {
				r.within(func(w *twin) { w.step(1) })
				r.sees()
				if r.now.state == shift.New {
					break
				}
			}
		}
	}
}

// P16.4: a most below 1 goes ahead of a state that isn't Moving; neither has written.
func TestStepRefused(t *testing.T) {
	t.Parallel()
	r := newRig(t, shifts()[0])
	refused := func() {
		t.Helper()
		w := r.begin()
		for _, most := range []int{0, -1, -5, -256, math.MinInt} {
			w.step(most)
		}
		if w.state != shift.Moving {
			for _, most := range []int{1, 2, math.MaxInt} {
				w.step(most)
			}
		}
		w.tells()
		if w.x.Wrote() {
			t.Error("what was refused has written")
		}
		w.abort()
	}
	refused()
	r.within(func(w *twin) { w.rowsOf(3) })
	refused()
	r.within(func(w *twin) { w.start() })
	refused()
	r.within(func(w *twin) { w.step(2) })
	refused()
	r.within(func(w *twin) { w.all() })
	refused()
}

// P16.4: without rows the state is New behind the first Step; behind the last one's Del behind the next.
func TestStepOfNone(t *testing.T) {
	t.Parallel()
	for _, most := range []int{1, 7, math.MaxInt} {
		r := newRig(t, shifts()[2])
		r.within(func(w *twin) { w.start() })
		r.within(func(w *twin) { w.step(most) })
		r.is(shift.New)
		r.sees()
	}
	r := newRig(t, shifts()[2])
	r.within(func(w *twin) { w.rowsOf(3) })
	r.within(func(w *twin) { w.start() })
	r.within(func(w *twin) { w.step(1) })
	r.within(func(w *twin) {
		for _, name := range []string{"row0", "row1", "row2"} {
			w.del(name)
			w.tells()
		}
	})
	r.is(shift.Moving)
	r.within(func(w *twin) { w.step(1) })
	r.is(shift.New)
	r.sees()
}

// P16.4: Kept behind a Put and a Del of a row that isn't moved, of one that is, and of one that is new, in each state.
func TestKept(t *testing.T) {
	t.Parallel()
	for _, m := range shifts() {
		for moved := range 5 {
			r := newRig(t, m)
			kept := func(left, done int) {
				t.Helper()
				w := r.begin()
				if a, b, e := r.tab.Kept(w.x); a != left || b != done || e != api.OK {
					t.Fatalf("Kept = %d, %d, error %d, want %d, %d", a, b, e, left, done)
				}
				w.abort()
			}
			kept(0, 0)
			r.within(func(w *twin) { w.rowsOf(4) })
			kept(4, 0)
			r.within(func(w *twin) { w.start() })
			kept(4, 0)
			for range moved {
				r.within(func(w *twin) { w.step(1) })
			}
			kept(4-moved, moved)
			r.within(func(w *twin) { w.put(w.row("a new one")...) })
			kept(4-moved, moved+1)
			r.within(func(w *twin) { w.put(w.row("row3")...) })
			kept(max(3-moved, 0), min(moved+2, 5))
			r.within(func(w *twin) { w.del("row2") })
			kept(max(2-moved, 0), min(moved+2, 4))
			r.within(func(w *twin) { w.put(w.row("row2")...) })
			kept(max(2-moved, 0), min(moved+3, 5))
			r.within(func(w *twin) { w.all() })
			kept(0, 5)
			r.within(func(w *twin) { w.put(w.row("row9")...) })
			r.within(func(w *twin) { w.del("row0") })
			kept(0, 5)
			r.sees()
		}
	}
}

// P16.4: rows whose names stand ahead of one another in all ways, a row without a name among them, are moved one by one.
func TestStepByNames(t *testing.T) {
	t.Parallel()
	names := []string{"", "\x00", "\x00\x00", "\x00a", "\x01", "a", "a\x00", "a\x00b", "a\x01", "aa", "b", "z", "\u00e9", "\uffff", "\U0010ffff", "0123456789012345678901234567890123456789"}
	for _, m := range []made{shifts()[6], shifts()[9], shifts()[7]} {
		for _, most := range []int{1, 3, len(names) - 1, len(names)} {
			r := newRig(t, m)
			r.within(func(w *twin) {
				for i := range names {
					w.put(w.row(names[i*5%len(names)])...)
				}
			})
			r.within(func(w *twin) { w.start() })
			for n := 0; r.now.state == shift.Moving; n++ {
				r.within(func(w *twin) {
					w.step(most)
					w.tells()
				})
				if n > len(names) {
					t.Fatal("it comes to no end")
				}
			}
		}
	}
}

// P8: the shift comes to its end, whatever is put and taken away meanwhile.
func TestEnds(t *testing.T) {
	t.Parallel()
	r := newRig(t, shifts()[0])
	r.within(func(w *twin) { w.rowsOf(12) })
	r.within(func(w *twin) { w.start() })
	n := 0
	for ; r.now.state != shift.New; n++ {
		r.within(func(w *twin) {
			w.put(w.row(fmt.Sprint("a", n))...)
			w.put(w.row(fmt.Sprint("row", n), number(int64(100+n)))...)
			w.put(w.row(fmt.Sprint("z", n))...)
			w.del(fmt.Sprint("a", n))
		})
		r.within(func(w *twin) {
			w.step(2)
			w.tells()
		})
	}
	if n > 7 {
		t.Errorf("%d Steps", n)
	}
}
