package shift_test

import (
	"fmt"
	"slices"
	"strings"
	"testing"

	"muniment/api"
	"muniment/probe"
	"muniment/shift"
)

// inEach does something in a table of each kind in each state: with rows that are all there ahead of Start, of which none, some or all are moved.
func inEach(t *testing.T, does func(w *twin)) {
	t.Helper()
	for _, m := range shifts() {
		r := newRig(t, m)
		each := func() {
			t.Helper()
			w := r.begin()
			does(w)
			w.tells()
			w.abort()
			r.sees()
		}
		each()
		r.within(func(w *twin) { w.rowsOf(4) })
		each()
		r.within(func(w *twin) { w.start() })
		for r.now.state == shift.Moving {
			each()
			r.within(func(w *twin) { w.step(2) })
		}
		each()
	}
}

// P16.3: in each state a row has as many values as the table has columns then, each of its Kind or Null.
func TestForm(t *testing.T) {
	t.Parallel()
	inEach(t, func(w *twin) {
		wide := append(w.row("row1", number(1), text("1")), w.fill)[:len(w.made.cols)+1]
		for n := range len(wide) + 2 {
			w.put(append(slices.Clone(wide), api.Value{}, api.Value{})[:n]...)
			w.tells()
		}
		w.put()
		for col := range w.cols() {
			for _, v := range []api.Value{{}, number(3), text("t"), truth(1), {Kind: 4}, {N: 1}, {Kind: api.Bool, N: 2}, text("\xff"), {Kind: api.Int, S: "s"}} {
				row := w.row("row2")
				row[col] = v
				w.put(row...)
				row = w.row("another")
				row[col] = v
				w.put(row...)
			}
		}
	})
}

// P16.3: a row is written again, in the place of each that is there, with each value in the new column and in the others; and dropped; and put anew.
func TestPutAgain(t *testing.T) {
	t.Parallel()
	inEach(t, func(w *twin) {
		last := len(w.cols()) - 1
		for _, name := range []string{"row0", "row1", "row2", "row3", "row4"} {
			for _, v := range append(pick(w.cols()[last]), api.Value{}) {
				row := w.row(name, number(30), text("thirty"), number(1), truth(0), number(6), text("y"))
				if last > 0 {
					row[last] = v
				}
				w.put(row...)
				w.tells()
			}
			w.del(name)
			w.tells()
			w.del(name)
			w.put(w.row(name)...)
			w.tells()
		}
	})
}

// P16.3: a value in a Unique column that another row has, be it moved or not: ErrExists; the rows change their values.
func TestUnique(t *testing.T) {
	t.Parallel()
	inEach(t, func(w *twin) {
		if len(w.made.cols) == 1 {
			return
		}
		for i := range 4 {
			for k := range 5 {
				w.put(w.row(fmt.Sprint("row", i), number(int64(k)))...)
				w.put(w.row(fmt.Sprint("other", i), api.Value{}, text(fmt.Sprint(k)))...)
			}
			w.tells()
		}
		w.put(w.row("row0", number(100))...)
		w.put(w.row("row1", number(0))...)
		w.tells()
	})
}

// P16.2: the new value comes out of a column that is written over behind Start: what was written in the new one stays.
func TestFromIsWrittenOver(t *testing.T) {
	t.Parallel()
	for _, moved := range []int{0, 1, 2} {
		for from, v := range map[int]api.Value{1: number(50), 3: number(2), 5: {}} {
			r := newRig(t, made{1, columns(), api.Column{Name: "more", Kind: api.Int, Index: true}, api.Value{}, from})
			r.within(func(w *twin) { w.rowsOf(2) })
			r.within(func(w *twin) { w.start() })
			for range moved {
				r.within(func(w *twin) { w.step(1) })
			}
			for _, last := range []api.Value{number(7), {}, number(0)} {
				r.within(func(w *twin) {
					row := w.row("row1", number(1), text("1"), number(1), truth(1), number(1), text("s"), last)
					row[from] = v
					w.put(row...)
					w.tells()
				})
				r.sees()
			}
			r.within(func(w *twin) { w.all() })
			r.sees()
		}
	}
}

// P16.2: the new value is as it was written in the state Old the last time; Null, too.
func TestNewValue(t *testing.T) {
	t.Parallel()
	for _, m := range shifts() {
		r := newRig(t, m)
		r.within(func(w *twin) {
			w.rowsOf(3)
			w.put(w.row("row1")...)
			w.put(w.row("row2", number(77), text("other"), number(7), truth(1), number(1), text("fill"))...)
			w.del("row0")
		})
		w := r.begin()
		w.start()
		w.tells()
		v := w.rows["row1"][len(m.cols)]
		if want := m.fill; m.from < 0 && v != want || m.from > 0 && v != (api.Value{}) || m.from == 0 && v != text("row1") {
			t.Errorf("the new value is %v, want %v", v, want)
		}
		w.all()
		w.tells()
		w.abort()
	}
}

// P16.3: a row that with the new value has more bytes than a row may have: all is told of it, and it is moved, or refused with ErrForm.
func TestLongRows(t *testing.T) {
	t.Parallel()
	cols := []api.Column{{Name: "name", Kind: api.Text}, {Name: "a", Kind: api.Text}, {Name: "b", Kind: api.Text}}
	long, less := strings.Repeat("x", 60), strings.Repeat("y", 40)
	for _, m := range []made{
		{1, cols, api.Column{Name: "more", Kind: api.Text}, text(strings.Repeat("f", 60)), -1},
		{1, cols, api.Column{Name: "more", Kind: api.Text}, api.Value{}, 1},
		{1, cols, api.Column{Name: "more", Kind: api.Int, Index: true}, number(5), -1},
	} {
		r := newRig(t, m)
		r.within(func(w *twin) {
			w.put(text("a"), text(long), text(long))
			w.put(text("b"), text(long), text(less))
			w.put(text("c"), text(less), text(long))
			w.put(text("d"), text("s"), text("t"))
		})
		r.within(func(w *twin) { w.start() })
		r.sees()
		for r.now.state == shift.Moving {
			r.within(func(w *twin) {
				w.step(1)
				w.tells()
			})
			r.sees()
		}
		r.within(func(w *twin) {
			// What it tells of such a row may be none that may be put.
			for _, name := range []string{"a", "b", "c", "d"} {
				w.put(w.rows[name]...)
			}
			w.tells()
			w.del("a")
			w.tells()
		})
	}
}

// P16.3: nothing that is told says which rows were moved: two tables, one of which was moved more, tell the same, asked by all calls.
func TestNobodySees(t *testing.T) {
	t.Parallel()
	for _, m := range shifts() {
		for steps := range 6 {
			r := newRig(t, m)
			r.within(func(w *twin) {
				w.rowsOf(5)
				w.put(w.row("row5")...)
			})
			r.within(func(w *twin) { w.start() })
			for range steps {
				r.within(func(w *twin) { w.step(1) })
			}
			r.within(func(w *twin) {
				w.put(w.row("row1", number(9), text("nine"), number(1), truth(1))...)
				w.del("row2")
				w.put(w.row("row2", number(2), text("2"), number(2), truth(0))...)
				w.del("row4")
				w.put(w.row("row9", number(4), text("4"), number(2), truth(0))...)
				w.put(w.row("row3", number(4))...)
			})
			// The model of the rows knows of no Step.
			r.sees()
		}
	}
}

// Two tables of unlike numbers, and their shifts, have nothing in common.
func TestTwoTables(t *testing.T) {
	t.Parallel()
	for _, ids := range [][2]byte{{1, 2}, {0, 1}, {0, 255}, {254, 255}} {
		m := shifts()[0]
		m.id = ids[0]
		r := newRig(t, m)
		m.id = ids[1]
		other, e := m.make()
		sure(t, "Make", e)
		second := *r
		second.made, second.tab = m, other
		x := r.begin()
		y := &twin{rig: &second, view: second.now.copy(), x: x.x}
		x.rowsOf(2)
		y.wrote = true
		y.tells()
		y.rowsOf(3)
		x.start()
		y.tells()
		x.step(1)
		y.start()
		x.all()
		y.tells()
		y.del("row1")
		y.del("row0")
		x.tells()
		x.del("row0")
		y.tells()
	}
}

// The rule of memory: what is handed in isn't changed and not kept, its spare room neither, and an answer is new.
func TestMemory(t *testing.T) {
	t.Parallel()
	inEach(t, func(w *twin) {
		row := append(w.row("handed"), number(8), number(9))
		was := slices.Clone(row)
		w.put(row[:len(row)-2]...)
		if !slices.Equal(row, was) {
			t.Errorf("Put made %v of %v", row, was)
		}
		clear(row)
		w.tells()
		told := func() [][]api.Value {
			var out [][]api.Value
			for _, name := range []string{"handed", "row0", "row3"} {
				one, _ := w.tab.Get(w.x, name)
				out = append(out, one)
			}
			all, _ := w.tab.List(w.x)
			out = append(out, all...)
			for col, c := range w.cols() {
				for _, v := range pick(c) {
					l, _ := w.tab.By(w.x, col, v)
					out = append(out, l...)
				}
			}
			return out
		}
		if l := probe.SpoiltRows(told); len(l) != 0 {
			t.Errorf("the answers %v were changed with another one", l)
		}
	})
}
