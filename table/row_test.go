package table_test

import (
	"fmt"
	"math"
	"slices"
	"strings"
	"testing"

	"muniment/api"
	"muniment/probe"
	"muniment/snap"
	"muniment/table"
)

// P15.2: the document's example.
func TestExample(t *testing.T) {
	t.Parallel()
	r := newRig(t, 1, []api.Column{{Name: "name", Kind: api.Text}, {Name: "n", Kind: api.Int, Index: true, Unique: true}})
	x := r.begin().x
	answers(t, "Put(a, 1)", r.tab.Put(x, []api.Value{text("a"), number(1)}), api.OK)
	answers(t, "Put(b, 1)", r.tab.Put(x, []api.Value{text("b"), number(1)}), api.ErrExists)
	if l, e := r.tab.By(x, 1, number(1)); !same(l, [][]api.Value{{text("a"), number(1)}}) || e != api.OK {
		t.Errorf("By(1, 1) = %v, error %d", l, e)
	}
}

// P15.2: a table without rows, new or behind some, has none, and the tree no keys.
func TestWithoutRows(t *testing.T) {
	t.Parallel()
	for _, id := range []byte{0, 1, 255} {
		r := newRig(t, id, columns())
		w := r.begin()
		w.tells()
		w.del("a")
		w.put(r.having("a", number(1), text("x"), number(2), truth(1))...)
		w.del("a")
		w.tells()
		if !w.commit() {
			t.Error("it clashes")
		}
		r.within(func(w *twin) {
			w.empty()
			w.put(r.having("a", number(1), text("x"), number(2), truth(1))...)
			w.put(r.having("b", number(2), text("y"), number(2), truth(1))...)
		})
		r.within(func(w *twin) {
			w.del("b")
			w.tells()
			w.del("a")
		})
		r.sees()
	}
}

// P15.2: a table of one column.
func TestNamesAlone(t *testing.T) {
	t.Parallel()
	r := newRig(t, 7, named("name"))
	r.within(func(w *twin) {
		for _, name := range []string{"b", "", "a", "ab", "b"} {
			w.put(text(name))
		}
		w.del("a")
		w.tells()
	})
	r.sees()
}

// P15.2: Put of a row whose name is there, with the value it had in each column, and with every other one, and Null.
func TestPutAgain(t *testing.T) {
	t.Parallel()
	r := newRig(t, 3, columns())
	full := r.having("m", number(5), text("five"), number(6), truth(1), number(7), text("seven"), truth(0))
	for col, c := range r.cols[1:] {
		for _, v := range append(pick(c), api.Value{}, full[col+1]) {
			r.within(func(w *twin) {
				w.put(full...)
				w.put(r.having("l", number(50), text("fifty"), number(6), truth(1))...)
				w.tells()
				row := slices.Clone(full)
				row[col+1] = v
				w.put(row...)
				w.tells()
			})
			r.sees()
			r.within(func(w *twin) {
				w.put(full...)
				w.tells()
				w.del("m")
				w.tells()
			})
			r.sees()
		}
	}
}

// P15.2: another row has a value in a Unique column: not for Null, not for the row's own value, nor behind a Del, nor when the other one has another one now.
func TestUnique(t *testing.T) {
	t.Parallel()
	for _, col := range []int{1, 2} {
		r := newRig(t, 3, columns())
		for _, v := range pick(r.cols[col]) {
			other := pick(r.cols[col])[0]
			if other == v {
				other = pick(r.cols[col])[1]
			}
			having := func(name string, v api.Value) []api.Value {
				row := r.first(name)
				row[col] = v
				return row
			}
			w := r.begin()
			w.put(having("a", v)...)
			w.put(having("b", v)...)
			w.put(having("b", api.Value{})...)
			w.put(having("c", api.Value{})...)
			w.put(having("a", v)...)
			w.put(having("c", v)...)
			w.put(having("c", other)...)
			w.put(having("a", other)...)
			w.tells()
			w.put(having("a", api.Value{})...)
			w.put(having("b", v)...)
			w.put(having("a", v)...)
			w.tells()
			w.del("b")
			w.put(having("a", v)...)
			w.put(having("aa", v)...)
			w.tells()
			w.del("a")
			w.put(having("", v)...)
			w.tells()
			sure(t, "Abort", w.x.Abort())
		}
	}
}

// P15.2: ErrForm goes ahead of ErrExists, and of all that the transaction answers; nothing is written.
func TestPutRefused(t *testing.T) {
	t.Parallel()
	r := newRig(t, 3, columns())
	w := r.begin()
	w.put(r.having("a", number(1), text("x"))...)
	for _, row := range [][]api.Value{
		nil, {}, {text("b")}, append(r.having("b", number(1), text("x")), api.Value{}), r.having("b", number(1), text("x"))[:7],
		r.having("b", number(1), number(1)), r.having("b", text("x"), text("x")), r.having("a", number(1), text(strings.Repeat("x", 61))),
		r.having("b", number(1), text("x"), truth(1)), r.having("\xff", number(1)), r.having(strings.Repeat("n", 61), number(1)),
		append([]api.Value{{}}, r.having("b", number(1))[1:]...), append([]api.Value{number(1)}, r.having("b")[1:]...),
	} {
		answers(t, fmt.Sprintf("Put(%v)", row), r.tab.Put(w.x, row), api.ErrForm)
		answers(t, fmt.Sprintf("Put(%v) of no transaction", row), r.tab.Put(nil, row), api.ErrForm)
	}
	w.tells()
	fresh := r.begin()
	answers(t, "Put", r.tab.Put(fresh.x, r.first("\xff")), api.ErrForm)
	if fresh.x.Wrote() {
		t.Error("what is no row was written")
	}
}

// P15.2: the other row has the value in the last one of some Unique columns: none of the ones ahead of it has changed.
func TestPutWhole(t *testing.T) {
	t.Parallel()
	r := newRig(t, 3, columns())
	r.within(func(w *twin) {
		w.put(r.having("a", number(1), text("x"), number(1), truth(0))...)
		w.put(r.having("b", number(2), text("y"), number(2), truth(1))...)
	})
	r.within(func(w *twin) {
		w.put(r.having("a", number(3), text("y"), number(3), truth(1))...)
		w.put(r.having("c", number(3), text("y"), number(3), truth(1))...)
		w.put(r.having("c", number(1), text("z"), number(3), truth(1))...)
		w.tells()
		if w.x.Wrote() {
			t.Error("refused ones have written")
		}
	})
	r.sees()
}

// P15.2: rows stand by the bytes of their names, those that begin with another one behind it, in List and in By.
func TestOrder(t *testing.T) {
	t.Parallel()
	names := []string{"", "\x01", " ", "A", "Z", "a", "a\x01", "a ", "aa", "aaa", "ab", "b", "ba", "z", "zz", "\x7f", "\u0080", "\u00e9", "\u00e9a", "\uffff", "\U0010ffff", strings.Repeat("a", 40), strings.Repeat("\u00e9", 20)}
	r := newRig(t, 255, columns())
	for _, step := range []int{1, 7, 11} {
		w := r.begin()
		for i := range names {
			at := i * step % len(names)
			w.put(r.having(names[at], number(int64(at)), text(names[at]), number(int64(at%2)), truth(int64(at%2)))...)
		}
		w.tells()
		for i := range names {
			if i%3 == 0 {
				w.del(names[i*step%len(names)])
			}
		}
		w.tells()
		sure(t, "Abort", w.x.Abort())
	}
}

// P15.2: numbers below 0 and above, whose keys differ in one byte.
func TestByNumbers(t *testing.T) {
	t.Parallel()
	for _, col := range []int{1, 3} {
		r := newRig(t, 0, columns())
		w := r.begin()
		n := 0
		for _, around := range []int64{math.MinInt64, math.MinInt64 + 256, -65536, -256, 0, 255, 256, 1 << 32, math.MaxInt64} {
			for by := int64(-1); by <= 1; by++ {
				row := r.first(fmt.Sprint(n))
				row[col] = number(around + by)
				w.put(row...)
				n++
			}
		}
		w.tells()
	}
}

// P15.2: many rows in many commits, those of a value among them, and some taken away.
func TestMany(t *testing.T) {
	t.Parallel()
	r := newRig(t, 1, columns())
	for i := range 40 {
		r.within(func(w *twin) {
			for k := range 3 {
				n := i*3 + k
				w.put(r.having(fmt.Sprintf("name%d", n), number(int64(n)), text(fmt.Sprint(n)), number(int64(n%5)), truth(int64(n%2)))...)
			}
		})
	}
	r.sees()
	for i := range 30 {
		r.within(func(w *twin) {
			w.del(fmt.Sprintf("name%d", i*4))
			w.put(r.having(fmt.Sprintf("name%d", i*4+1), number(int64(-i-1)), text("new"+fmt.Sprint(i)), number(int64(i%5)))...)
		})
	}
	r.sees()
}

// P15.2: what By refuses, in which order.
func TestByRefused(t *testing.T) {
	t.Parallel()
	r := newRig(t, 1, columns())
	w := r.begin()
	w.put(r.having("a", number(1), text("x"), number(2), truth(1), number(3), text("s"), truth(0))...)
	over := r.begin()
	sure(t, "Abort", over.x.Abort())
	refused := func(col int, v api.Value, want api.Errno) {
		t.Helper()
		for _, x := range []*snap.Tx{w.x, over.x, nil} {
			if l, e := r.tab.By(x, col, v); l != nil || e != want {
				t.Errorf("By(%d, %+v) = %v, error %d, want %d", col, v, l, e, want)
			}
		}
	}
	kinds := []api.Value{{}, number(1), text("x"), truth(1), {Kind: 4}, {Kind: api.Bool, N: 2}}
	for _, v := range kinds {
		for _, col := range []int{math.MinInt, -1, 0, 5, 6, 7, 8, 9, 255, 256, 257, math.MaxInt} {
			refused(col, v, api.ErrArg)
		}
		for col, c := range r.cols {
			if c.Index && v.Kind != c.Kind {
				refused(col, v, api.ErrForm)
			}
		}
	}
	refused(1, api.Value{Kind: api.Int, N: 1, S: "1"}, api.ErrForm)
	refused(2, api.Value{Kind: api.Text, N: 1, S: "x"}, api.ErrForm)
	refused(2, text("\xff"), api.ErrForm)
	refused(2, text(strings.Repeat("a", 61)), api.ErrForm)
	refused(4, truth(2), api.ErrForm)
	refused(4, truth(-1), api.ErrForm)
	w.tells()
}

// P15.2: two tables of unlike numbers have nothing in common, though their rows have one name and one value.
func TestTwoTables(t *testing.T) {
	t.Parallel()
	for _, ids := range [][2]byte{{1, 2}, {0, 1}, {0, 255}, {254, 255}, {2, 3}} {
		r := newRig(t, ids[0], columns())
		other, e := table.New(ids[1], columns())
		sure(t, "New", e)
		x := r.begin()
		second := *r
		second.id, second.tab = ids[1], other
		y := &twin{rig: &second, x: x.x, view: probe.Rows{}, own: nothing()}
		row := r.having("a", number(1), text("x"), number(1), truth(1))
		x.put(row...)
		if l, e := other.List(x.x); len(l) != 0 || e != api.OK {
			t.Fatalf("the other table has %v, error %d", l, e)
		}
		y.put(row...)
		y.put(r.having("b", number(2), text("y"), number(1), truth(0))...)
		x.tells()
		y.tells()
		x.del("a")
		y.tells()
		if l, e := r.tab.List(x.x); len(l) != 0 || e != api.OK {
			t.Fatalf("the first table has %v, error %d", l, e)
		}
		y.del("a")
		y.del("b")
		x.tells()
	}
}

// P15.2: a name, or an indexed text, of more than 40 bytes or with a byte of 0: ErrLong, and nothing is there, or all is as of any other one.
func TestLong(t *testing.T) {
	t.Parallel()
	texts := []string{strings.Repeat("a", 41), strings.Repeat("a", 60), strings.Repeat("\u00e9", 30), "\x00", "a\x00", "\x00a", "a\x00\x01", strings.Repeat("\x00", 40), strings.Repeat("\x00", 60)}
	for _, id := range []byte{0, 1} {
		for _, s := range texts {
			for _, row := range [][]api.Value{
				{text(s), number(math.MinInt64), text("x"), number(math.MinInt64), truth(0), {}, {}, {}},
				{text("a"), number(0), text(s), number(0), truth(1), {}, {}, {}},
				{text(s), {}, text(s), {}, {}, {}, {}, {}},
				{text(s), {}, {}, {}, {}, number(1), text("s"), truth(1)},
			} {
				r := newRig(t, id, columns())
				w := r.begin()
				w.put(r.having("m", number(5), text("y"), number(5), truth(1))...)
				longs(w, row)
			}
		}
	}
	// Names that are no row's, as no text is so.
	r := newRig(t, 1, columns())
	x := r.begin().x
	for _, name := range []string{strings.Repeat("a", 61), strings.Repeat("a", 100000), "\xff", strings.Repeat("\x00", 100000), strings.Repeat("\xff", 61)} {
		if row, e := r.tab.Get(x, name); row != nil || e != api.ErrNone && e != api.ErrLong {
			t.Errorf("Get of %d bytes = %v, error %d", len(name), row, e)
		}
		if e := r.tab.Del(x, name); e != api.ErrNone && e != api.ErrLong {
			t.Errorf("Del of %d bytes: error %d", len(name), e)
		}
	}
}

// longs puts a row that may be refused with ErrLong.
func longs(w *twin, row []api.Value) {
	w.t.Helper()
	switch e := w.tab.Put(w.x, row); e {
	case api.ErrLong:
	case api.OK:
		w.touches(row, nil)
		w.view[row[0].S] = row
	default:
		w.t.Fatalf("Put(%v): error %d", row, e)
	}
	w.tells()
	if w.view[row[0].S] == nil {
		if got, e := w.tab.Get(w.x, row[0].S); got != nil || e != api.ErrNone && e != api.ErrLong {
			w.t.Fatalf("Get of what was refused = %v, error %d", got, e)
		}
		return
	}
	w.del(row[0].S)
	w.tells()
}

// P15.2: each call of a transaction that is over, and of none.
func TestOver(t *testing.T) {
	t.Parallel()
	r := newRig(t, 1, columns())
	r.within(func(w *twin) { w.put(r.having("a", number(1), text("x"))...) })
	committed, aborted := r.begin(), r.begin()
	committed.put(r.having("b", number(2), text("y"))...)
	aborted.put(r.having("c", number(3), text("z"))...)
	if !committed.commit() {
		t.Error("it clashes")
	}
	sure(t, "Abort", aborted.x.Abort())
	for _, c := range []struct {
		x    *snap.Tx
		want api.Errno
	}{{committed.x, api.ErrState}, {aborted.x, api.ErrState}, {nil, api.ErrNone}} {
		for _, name := range []string{"a", "b", "nobody", strings.Repeat("n", 40)} {
			if row, e := r.tab.Get(c.x, name); row != nil || e != c.want {
				t.Errorf("Get(%q) = %v, error %d, want %d", name, row, e, c.want)
			}
			answers(t, "Del", r.tab.Del(c.x, name), c.want)
			answers(t, "Put", r.tab.Put(c.x, r.having(name, number(1), text("x"), number(1), truth(0))), c.want)
			answers(t, "Put", r.tab.Put(c.x, r.first(name)), c.want)
		}
		if l, e := r.tab.List(c.x); l != nil || e != c.want {
			t.Errorf("List = %v, error %d, want %d", l, e, c.want)
		}
		for _, v := range []int64{1, 9} {
			if l, e := r.tab.By(c.x, 1, number(v)); l != nil || e != c.want {
				t.Errorf("By = %v, error %d, want %d", l, e, c.want)
			}
		}
	}
	r.sees()
}

// P15.2: the transaction's errors, where the power is off; what was committed is there when it comes back.
func TestPowerOff(t *testing.T) {
	t.Parallel()
	r := newRig(t, 1, columns())
	r.within(func(w *twin) {
		w.put(r.having("a", number(1), text("x"), number(1), truth(1))...)
		w.put(r.having("b", number(2), text("y"), number(1), truth(0))...)
	})
	w := r.begin()
	sure(t, "Arm", r.d.Arm(1))
	answers(t, "Sync", r.d.Sync(), api.ErrCrash)
	for range 2 {
		if row, e := r.tab.Get(w.x, "a"); row != nil || e != api.ErrCrash {
			t.Errorf("Get = %v, error %d", row, e)
		}
		if l, e := r.tab.List(w.x); l != nil || e != api.ErrCrash {
			t.Errorf("List = %v, error %d", l, e)
		}
		if l, e := r.tab.By(w.x, 1, number(1)); l != nil || e != api.ErrCrash {
			t.Errorf("By = %v, error %d", l, e)
		}
		answers(t, "Put", r.tab.Put(w.x, r.having("c", number(1))), api.ErrCrash)
		answers(t, "Del", r.tab.Del(w.x, "a"), api.ErrCrash)
	}
	if w.x.Wrote() {
		t.Error("what was refused has written")
	}
	r.comesBack()
}

// The rule of memory: what is handed in isn't changed and not kept, its spare room neither, and an answer is new.
func TestMemory(t *testing.T) {
	t.Parallel()
	r := newRig(t, 1, columns())
	w := r.begin()
	w.put(r.having("b", number(2), text("y"), number(1), truth(1))...)
	row := append(r.having("a", number(1), text("x"), number(1), truth(1), number(3), text("s"), truth(0)), number(8), number(9))
	was := slices.Clone(row)
	w.put(row[:8]...)
	if !slices.Equal(row, was) {
		t.Errorf("Put made %v of %v", row, was)
	}
	clear(row)
	w.tells()
	told := func() [][]api.Value {
		one, _ := w.tab.Get(w.x, "a")
		all, _ := w.tab.List(w.x)
		by, _ := w.tab.By(w.x, 3, number(1))
		two, _ := w.tab.By(w.x, 1, number(1))
		return append(append(append([][]api.Value{one}, all...), by...), two...)
	}
	if l := probe.SpoiltRows(told); len(l) != 0 {
		t.Errorf("the answers %v were changed with another one", l)
	}
	w.tells()
	all, _ := w.tab.List(w.x)
	other, _ := w.tab.List(w.x)
	clear(all[:cap(all)])
	if !same(other, w.view.List()) {
		t.Error("a list was changed with another one")
	}
}
