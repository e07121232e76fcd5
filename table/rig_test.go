package table_test

import (
	"fmt"
	"maps"
	"math"
	"slices"
	"strings"
	"testing"

	"muniment/api"
	"muniment/disk"
	"muniment/probe"
	"muniment/snap"
	"muniment/table"
)

var answers, sure, number, text, truth = probe.Answers, probe.Sure, probe.Number, probe.Word, probe.Truth

var columns, same = probe.Columns, probe.SameRows

// pick has of a column some values that a row may have there, none is Null.
func pick(c api.Column) []api.Value {
	switch c.Kind {
	case api.Int:
		return []api.Value{number(math.MinInt64), number(-1), number(0), number(1), number(256), number(math.MaxInt64)}
	case api.Text:
		return []api.Value{text(""), text("a"), text("ab"), text("b"), text("\u00e9"), text(strings.Repeat("z", 40))}
	}
	return []api.Value{truth(0), truth(1)}
}

// rig is a table in a database, and what is there by the document's words.
type rig struct {
	t    *testing.T
	d    *disk.Disk
	db   *snap.DB
	tab  *table.Table
	id   byte
	cols []api.Column
	now  probe.Rows
	// story are what each commit has touched, that of the number 1 first.
	story []touched
}

// touched are the names of the rows that somebody has put or taken away; the values of Unique columns that he has given to one, and those that he has given or taken.
type touched struct {
	names, given, values map[string]int
}

func nothing() touched { return touched{map[string]int{}, map[string]int{}, map[string]int{}} }

// newRig is a table without rows.
func newRig(t *testing.T, id byte, cols []api.Column) *rig {
	t.Helper()
	db, d, e := probe.NewDB(120, 300, 16)
	sure(t, "NewDB", e)
	r := &rig{t: t, d: d, db: db, id: id, now: probe.Rows{}}
	r.has(cols)
	return r
}

// has makes the table anew, of these columns.
func (r *rig) has(cols []api.Column) {
	r.t.Helper()
	tab, e := table.New(r.id, cols)
	sure(r.t, "New", e)
	r.tab, r.cols = tab, cols
}

// twin is a transaction, and what it is to tell.
type twin struct {
	*rig
	x    *snap.Tx
	at   int
	view probe.Rows
	own  touched
}

func (r *rig) begin() *twin {
	r.t.Helper()
	x, e := r.db.Begin()
	sure(r.t, "Begin", e)
	return &twin{rig: r, x: x, at: len(r.story), view: maps.Clone(r.now), own: nothing()}
}

// within does something in a transaction of its own, that is committed.
func (r *rig) within(does func(w *twin)) {
	r.t.Helper()
	w := r.begin()
	does(w)
	if !w.commit() {
		r.t.Fatal("a commit by itself clashes")
	}
}

// sees sees, by a transaction of its own, that all is as it is to be.
func (r *rig) sees() {
	r.t.Helper()
	w := r.begin()
	w.tells()
	sure(r.t, "Abort", w.x.Abort())
}

func (w *twin) get(name string) {
	w.t.Helper()
	want, there := w.view[name]
	wantE := api.OK
	if !there {
		wantE = api.ErrNone
	}
	if got, e := w.tab.Get(w.x, name); !slices.Equal(got, want) || e != wantE {
		w.t.Fatalf("Get(%q) = %v, error %d, want %v, %d", name, got, e, want, wantE)
	}
}

func (w *twin) list() {
	w.t.Helper()
	want := w.view.List()
	if got, e := w.tab.List(w.x); !same(got, want) || e != api.OK {
		w.t.Fatalf("List = %v, error %d, want %v", got, e, want)
	}
	if len(want) == 0 {
		w.empty()
	}
}

// empty sees that the tree has no key.
func (w *twin) empty() {
	w.t.Helper()
	if cells, e := w.x.Scan(nil, nil); len(cells) != 0 || e != api.OK {
		w.t.Fatalf("a table without rows has the keys %q, error %d", cells, e)
	}
}

func (w *twin) by(col int, v api.Value) {
	w.t.Helper()
	want := w.view.With(func(row []api.Value) bool { return row[col] == v })
	if got, e := w.tab.By(w.x, col, v); !same(got, want) || e != api.OK {
		w.t.Fatalf("By(%d, %+v) = %v, error %d, want %v", col, v, got, e, want)
	}
}

// tells sees that all that can be asked is as it is to be.
func (w *twin) tells() {
	w.t.Helper()
	w.list()
	for _, name := range append(slices.Sorted(maps.Keys(w.view)), "nobody", "\xff") {
		w.get(name)
	}
	for col, c := range w.cols {
		if !c.Index {
			continue
		}
		for _, v := range pick(c) {
			w.by(col, v)
		}
		for _, row := range w.view {
			if row[col].Kind != api.Null {
				w.by(col, row[col])
			}
		}
	}
}

// put sees that a Put of a row answers what it is to answer, and minds it.
func (w *twin) put(row ...api.Value) {
	w.t.Helper()
	want := api.OK
	if w.view.Taken(w.cols, row) {
		want = api.ErrExists
	}
	wrote := w.x.Wrote()
	if e := w.tab.Put(w.x, row); e != want {
		w.t.Fatalf("Put(%v): error %d, want %d", row, e, want)
	}
	if want != api.OK {
		if w.x.Wrote() != wrote {
			w.t.Fatalf("Put(%v), which was refused, has written", row)
		}
		return
	}
	w.touches(row, w.view[row[0].S])
	w.view[row[0].S] = slices.Clone(row)
}

func (w *twin) del(name string) {
	w.t.Helper()
	want := api.OK
	if w.view[name] == nil {
		want = api.ErrNone
	}
	if e := w.tab.Del(w.x, name); e != want {
		w.t.Fatalf("Del(%q): error %d, want %d", name, e, want)
	}
	if want == api.OK {
		w.touches(nil, w.view[name])
		delete(w.view, name)
	}
}

// touches minds what is touched by a row that is there now, in the place of an old one; nil: there is none.
func (w *twin) touches(row, old []api.Value) {
	for _, l := range [][]api.Value{row, old} {
		if l != nil {
			w.own.names[l[0].S] = 1
		}
	}
	for col, c := range w.cols {
		if !c.Unique {
			continue
		}
		if row != nil && row[col].Kind != api.Null {
			w.own.given[fmt.Sprint(col, row[col])] = 1
			w.own.values[fmt.Sprint(col, row[col])] = 1
		}
		if old != nil && old[col].Kind != api.Null {
			w.own.values[fmt.Sprint(col, old[col])] = 1
		}
	}
}

// meets: have two something in common?
func meets(a, b map[string]int) bool {
	for k := range a {
		if b[k] != 0 {
			return true
		}
	}
	return false
}

// clashes: must the transaction clash, by the document, and may it?
func (w *twin) clashes() (must, may bool) {
	for _, other := range w.story[w.at:] {
		must = must || meets(w.own.names, other.names) || meets(w.own.given, other.given)
		may = may || must || meets(w.own.values, other.values)
	}
	return must, may
}

// commit sees that a commit answers what it is to answer; true: it is there.
func (w *twin) commit() bool {
	w.t.Helper()
	must, may := w.clashes()
	n, e := w.x.Commit()
	switch {
	case e == api.ErrClash && may:
		return false
	case e != api.OK || must:
		w.t.Fatalf("Commit: error %d; it must clash: %v, it may: %v", e, must, may)
	}
	if len(w.own.names) == 0 {
		return true
	}
	for name := range w.own.names {
		delete(w.now, name)
		if row := w.view[name]; row != nil {
			w.now[name] = row
		}
	}
	w.story = append(w.story, w.own)
	if n != uint64(len(w.story)) {
		w.t.Fatalf("Commit = %d, want %d", n, len(w.story))
	}
	return true
}

// first is a row of a name with the least that a row must have.
func (r *rig) first(name string) []api.Value {
	return append([]api.Value{text(name)}, make([]api.Value, len(r.cols)-1)...)
}

// having is a row of a name, with some values from the second column on.
func (r *rig) having(name string, l ...api.Value) []api.Value {
	row := r.first(name)
	copy(row[1:], l)
	return row
}
