package table_test

import (
	"fmt"
	"math/rand"
	"testing"

	"muniment/api"
	"muniment/probe"
)

// ends commits two transactions, either one first, and sees which may be there.
func (r *rig) ends(first, second *twin, clash bool) {
	r.t.Helper()
	if !first.commit() {
		r.t.Fatal("the first one clashes")
	}
	if second.commit() == clash {
		r.t.Fatalf("the second one's clash isn't %v", clash)
	}
	r.sees()
}

// P15.3: two that overlap and put rows of unlike names: with one value in a Unique column one is committed, without one both.
func TestClash(t *testing.T) {
	t.Parallel()
	r := newRig(t, 1, columns())
	n := 0
	for _, col := range []int{1, 2, 3, 4, 5, 6, 7} {
		for _, v := range append(pick(r.cols[col]), api.Value{}) {
			for order := range 2 {
				r.within(func(w *twin) {
					for name := range r.now {
						w.del(name)
					}
				})
				n++
				l := []*twin{r.begin(), r.begin()}
				for i, w := range l {
					row := r.first(fmt.Sprint("row", n, i))
					row[col] = v
					w.put(row...)
					w.tells()
				}
				r.ends(l[order], l[1-order], r.cols[col].Unique && v.Kind != api.Null)
			}
		}
	}
}

// P15.3: one value that a row had, and gives away to one row in one transaction and to another one in the other.
func TestClashMoved(t *testing.T) {
	t.Parallel()
	for _, leaves := range []bool{false, true} {
		r := newRig(t, 1, columns())
		r.within(func(w *twin) {
			w.put(r.having("a", number(1))...)
			w.put(r.having("b", number(2))...)
		})
		x, y := r.begin(), r.begin()
		if leaves {
			x.del("a")
		} else {
			x.put(r.having("a", number(3))...)
		}
		x.put(r.having("c", number(1))...)
		y.put(r.having("a", number(4))...)
		y.put(r.having("d", number(1))...)
		r.ends(x, y, true)
	}
}

// P15.3: rows of one index without Unique, of no value at all, and that leave their values, don't clash.
func TestNoClash(t *testing.T) {
	t.Parallel()
	r := newRig(t, 1, columns())
	r.within(func(w *twin) {
		w.put(r.having("a", number(1), text("x"), number(5), truth(1))...)
		w.put(r.having("b", number(2), text("y"), number(5), truth(1))...)
	})
	x, y, z := r.begin(), r.begin(), r.begin()
	x.put(r.having("a", number(3), text("xx"), number(6), truth(0))...)
	y.put(r.having("b", number(4), text("yy"), number(6), truth(0))...)
	z.put(r.having("c", api.Value{}, api.Value{}, number(6), truth(0))...)
	r.ends(x, y, false)
	if !z.commit() {
		t.Error("the third one clashes")
	}
	x, y = r.begin(), r.begin()
	x.del("a")
	y.del("b")
	r.ends(x, y, false)
}

// P15.2 and P15.3: some transactions beside one another put and take away what is drawn; each sees one moment and itself, and what is committed is there.
func TestDrawn(t *testing.T) {
	t.Parallel()
	for seed := range int64(12) {
		draw := rand.New(rand.NewSource(seed))
		cols := columns()
		r := newRig(t, byte(draw.Intn(256)), cols[:2+draw.Intn(7)])
		var open []*twin
		for range 150 {
			if len(open) == 0 || len(open) < 5 && draw.Intn(4) == 0 {
				open = append(open, r.begin())
			}
			i := draw.Intn(len(open))
			if w := open[i]; !w.drawn(draw) {
				open = append(open[:i], open[i+1:]...)
			}
		}
		for _, w := range open {
			w.tells()
			w.commit()
		}
		r.sees()
		r.comesBack()
	}
}

// drawn does something in a transaction; false: it is over.
func (w *twin) drawn(draw *rand.Rand) bool {
	w.t.Helper()
	name := []string{"", "a", "ab", "b", "c"}[draw.Intn(5)]
	switch draw.Intn(12) {
	case 0:
		w.commit()
		return false
	case 1:
		sure(w.t, "Abort", w.x.Abort())
		return false
	case 2:
		w.tells()
	case 3, 4:
		w.del(name)
	default:
		row := w.first(name)
		for col := range row[1:] {
			if l := pick(w.cols[col+1]); draw.Intn(5) > 0 {
				row[col+1] = l[draw.Intn(len(l))]
			}
		}
		w.put(row...)
	}
	return true
}

// comesBack turns the power off and on, and sees that all is there.
func (r *rig) comesBack() {
	r.t.Helper()
	sure(r.t, "Restart", r.d.Restart(nil))
	db, e := probe.OpenDB(r.d, 120, 16)
	sure(r.t, "OpenDB", e)
	r.db = db
	r.has(r.cols)
	r.sees()
}

// P2: two that are told the same answer the same.
func TestSame(t *testing.T) {
	t.Parallel()
	told := func() string {
		r := newRig(t, 9, columns())
		draw := rand.New(rand.NewSource(99))
		out := ""
		w := r.begin()
		for range 80 {
			if !w.drawn(draw) {
				w = r.begin()
			}
			l, e := r.tab.List(w.x)
			cells, ce := w.x.Scan(nil, nil)
			out += fmt.Sprint(l, e, cells, ce)
		}
		return out
	}
	if told() != told() {
		t.Error("two that were told the same answer otherwise")
	}
}
