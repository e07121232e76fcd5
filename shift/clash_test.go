package shift_test

import (
	"fmt"
	"maps"
	"math/rand"
	"slices"
	"testing"

	"muniment/api"
	"muniment/shift"
)

// writers are what may write in a state, of a row that no other one speaks of, by its name.
func writers(state byte) map[string]func(w *twin, name string) {
	out := map[string]func(w *twin, name string){
		"Put of a new row": func(w *twin, name string) { w.put(w.row("new " + name)...) },
		"Put":              func(w *twin, name string) { w.put(w.row(name)...) },
		"Put as it is":     func(w *twin, name string) { w.put(w.rows[name]...) },
		"Del":              func(w *twin, name string) { w.del(name) },
	}
	switch state {
	case shift.Old:
		out["Start"] = func(w *twin, _ string) { w.start() }
	case shift.Moving:
		out["Step"] = func(w *twin, _ string) { w.step(1) }
		out["Step of all"] = func(w *twin, _ string) { w.step(9) }
	}
	return out
}

// inState is a table with rows in a state; in Moving some are moved, or all.
func inState(t *testing.T, m made, state byte, moved int) *rig {
	t.Helper()
	r := newRig(t, m)
	r.within(func(w *twin) { w.rowsOf(4) })
	if state != shift.Old {
		r.within(func(w *twin) { w.start() })
	}
	if moved > 0 {
		r.within(func(w *twin) { w.step(moved) })
	}
	if state == shift.New {
		r.within(func(w *twin) { w.all() })
	}
	return r
}

// P16.5: two that overlap and write, each by each call that does, though of unlike names: one is committed, whichever is the first.
func TestClash(t *testing.T) {
	t.Parallel()
	for _, m := range []made{few(), shifts()[10]} {
		for state, moves := range map[byte][]int{shift.Old: {0}, shift.Moving: {0, 2, 4}, shift.New: {0}} {
			for _, moved := range moves {
				l, as := writers(state), inState(t, m, state, moved)
				for _, one := range slices.Sorted(maps.Keys(l)) {
					for _, other := range slices.Sorted(maps.Keys(l)) {
						for order := range 2 {
							r := as.again()
							x, y := r.begin(), r.begin()
							l[one](x, "row1")
							l[other](y, "row2")
							if order == 1 {
								x, y = y, x
							}
							if !x.commit() || y.commit() {
								t.Errorf("in the state %d, %d moved, %s and %s: both are committed, or none", state, moved, one, other)
							}
							r.sees()
						}
					}
				}
			}
		}
	}
}

// P16.5: those that only read, or are refused, clash with nobody, and see what was there when they began.
func TestReaders(t *testing.T) {
	t.Parallel()
	for state := range shift.New + 1 {
		l, as := writers(state), inState(t, few(), state, 0)
		for _, name := range slices.Sorted(maps.Keys(l)) {
			for order := range 2 {
				r := as.again()
				reads, writes := r.begin(), r.begin()
				reads.tells()
				reads.put(append(reads.row("row1"), api.Value{})...)
				reads.put(reads.row("row1", number(0))...)
				reads.del("nobody")
				reads.step(0)
				if state != shift.Old {
					reads.start()
				}
				if state != shift.Moving {
					reads.step(1)
				}
				l[name](writes, "row1")
				if order == 0 {
					if !writes.commit() {
						t.Error("what writes clashes with what reads")
					}
					reads.tells()
				}
				if !reads.commit() {
					t.Error("what reads clashes")
				}
				if order == 1 && !writes.commit() {
					t.Error("what writes clashes with what reads")
				}
				r.sees()
			}
		}
	}
}

// P16.5: it clashes too where the other one's rows are gone again, and behind a sweep; what begins behind a commit doesn't.
func TestClashBehindSweep(t *testing.T) {
	t.Parallel()
	for state := range shift.New + 1 {
		r := inState(t, few(), state, 0)
		first := r.begin()
		first.put(first.row("x")...)
		r.within(func(w *twin) {
			w.put(w.row("y")...)
			w.del("y")
		})
		for {
			n, e := r.db.Sweep(3)
			sure(t, "Sweep", e)
			if n == 0 {
				break
			}
		}
		if first.commit() {
			t.Error("it doesn't clash")
		}
		r.sees()
		r.within(func(w *twin) { w.put(w.row("x")...) })
		r.sees()
	}
}

// A table in the state Old has no more keys than its rows have: none without rows.
func TestWithoutRows(t *testing.T) {
	t.Parallel()
	r := newRig(t, shifts()[0])
	empty := func() {
		t.Helper()
		w := r.begin()
		if cells, e := w.x.Scan(nil, nil); len(cells) != 0 || e != api.OK {
			t.Errorf("a table without rows has the keys %q, error %d", cells, e)
		}
		w.abort()
	}
	empty()
	r.within(func(w *twin) { w.rowsOf(2) })
	r.within(func(w *twin) {
		w.del("row0")
		w.del("row1")
	})
	empty()
}

// P16.2 to P16.5: some transactions beside one another do what is drawn; each sees one moment and itself.
func TestDrawn(t *testing.T) {
	t.Parallel()
	for i, m := range shifts() {
		for seed := range int64(4) {
			draw := rand.New(rand.NewSource(seed*100 + int64(i)))
			r := newRig(t, m)
			var open []*twin
			for range 120 {
				if len(open) == 0 || len(open) < 3 && draw.Intn(8) == 0 {
					open = append(open, r.begin())
				}
				i := draw.Intn(len(open))
				if w := open[i]; !w.drawn(draw) {
					open = append(open[:i], open[i+1:]...)
				}
			}
			for _, w := range open {
				w.tells()
				w.commit()
			}
			r.sees()
			r.comesBack()
		}
	}
}

// drawn does something in a transaction; false: it is over.
func (w *twin) drawn(draw *rand.Rand) bool {
	w.t.Helper()
	name := []string{"", "a", "ab", "b", "c", "d"}[draw.Intn(6)]
	switch draw.Intn(24) {
	case 0, 1, 2:
		w.commit()
		return false
	case 3:
		w.abort()
		return false
	case 4, 5:
		w.tells()
	case 6, 7, 8:
		w.del(name)
	case 9:
		w.start()
	case 10, 11:
		w.step(draw.Intn(4))
	default:
		w.put(w.drawnRow(name, draw.Intn)...)
	}
	return true
}

// P2: two that are told the same answer the same.
func TestSame(t *testing.T) {
	t.Parallel()
	told := func() string {
		r := newRig(t, shifts()[0])
		draw := rand.New(rand.NewSource(77))
		out := ""
		w := r.begin()
		for range 80 {
			if !w.drawn(draw) {
				w = r.begin()
			}
			l, e := r.tab.List(w.x)
			cells, ce := w.x.Scan(nil, nil)
			out += fmt.Sprint(l, e, cells, ce)
		}
		return out
	}
	if told() != told() {
		t.Error("two that were told the same answer otherwise")
	}
}
