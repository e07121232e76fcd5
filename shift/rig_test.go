package shift_test

import (
	"fmt"
	"maps"
	"slices"
	"strings"
	"testing"

	"muniment/api"
	"muniment/disk"
	"muniment/probe"
	"muniment/shift"
	"muniment/snap"
	"muniment/table"
)

var answers, sure, number, text, truth = probe.Answers, probe.Sure, probe.Number, probe.Word, probe.Truth

var columns, same = probe.Columns, probe.SameRows

// made is what Make is told.
type made struct {
	id   byte
	cols []api.Column
	more api.Column
	fill api.Value
	from int
}

func (m made) make() (*shift.Table, api.Errno) {
	return shift.Make(m.id, m.cols, m.more, m.fill, m.from)
}

// shifts are some of each kind: the new column of each Kind, with an index and without, its values out of fill, of Null, of each kind of column.
func shifts() []made {
	add := func(kind byte, index bool) api.Column { return api.Column{Name: "more", Kind: kind, Index: index} }
	return []made{
		{1, columns(), add(api.Int, true), number(7), -1},
		{0, columns(), add(api.Int, true), api.Value{}, -1},
		{255, columns(), add(api.Int, true), text("counts not"), 3},
		{2, columns(), add(api.Int, false), api.Value{Kind: 9}, 1},
		{3, columns(), add(api.Bool, true), truth(1), -9},
		{4, columns(), add(api.Bool, true), truth(0), 4},
		{5, columns(), add(api.Text, false), text("fill"), -1},
		{6, columns(), add(api.Text, false), api.Value{}, 0},
		{7, columns(), add(api.Text, false), api.Value{}, 6},
		{8, columns()[:1], add(api.Int, true), number(0), -1},
		{9, columns()[:1], add(api.Text, false), text(""), 0},
	}
}

// few is a shift of a table with two columns.
func few() made {
	return made{1, columns()[:2], api.Column{Name: "more", Kind: api.Int, Index: true}, number(7), -1}
}

// pick has of a column some values that a row may have there, none is Null.
func pick(c api.Column) []api.Value {
	switch c.Kind {
	case api.Int:
		return []api.Value{number(-1), number(0), number(1), number(7)}
	case api.Text:
		return []api.Value{text(""), text("a"), text("fill"), text(strings.Repeat("z", 20))}
	}
	return []api.Value{truth(0), truth(1)}
}

// view is what is there by the document's words: the state, the rows as they are told, and which of them aren't moved.
type view struct {
	state byte
	rows  probe.Rows
	left  map[string]int
}

func (v view) copy() view { return view{v.state, maps.Clone(v.rows), maps.Clone(v.left)} }

// rig is a table in a database, and what is there by the document's words.
type rig struct {
	made
	t   *testing.T
	d   *disk.Disk
	db  *snap.DB
	tab *shift.Table
	now view
	// wrote is how many commits have written.
	wrote int
}

func newRig(t *testing.T, m made) *rig {
	t.Helper()
	db, d, e := probe.NewDB(200, 300, 16)
	sure(t, "NewDB", e)
	tab, e := m.make()
	sure(t, "Make", e)
	return &rig{made: m, t: t, d: d, db: db, tab: tab, now: view{rows: probe.Rows{}, left: map[string]int{}}}
}

// twin is a transaction, and what it is to tell.
type twin struct {
	*rig
	view
	x     *snap.Tx
	at    int
	wrote bool
}

func (r *rig) begin() *twin {
	r.t.Helper()
	x, e := r.db.Begin()
	sure(r.t, "Begin", e)
	return &twin{rig: r, view: r.now.copy(), x: x, at: r.wrote}
}

// within does something in a transaction of its own, that is committed.
func (r *rig) within(does func(w *twin)) {
	r.t.Helper()
	w := r.begin()
	does(w)
	if !w.commit() {
		r.t.Fatal("a commit by itself clashes")
	}
}

// sees sees, by a transaction of its own, that all is as it is to be.
func (r *rig) sees() {
	r.t.Helper()
	w := r.begin()
	w.tells()
	w.abort()
}

func (w *twin) abort() {
	w.t.Helper()
	sure(w.t, "Abort", w.x.Abort())
}

// commit sees that a commit answers what it is to answer: two that overlap and write clash, no other ones; true: it is there.
func (w *twin) commit() bool {
	w.t.Helper()
	want := api.OK
	if w.wrote && w.rig.wrote > w.at {
		want = api.ErrClash
	}
	if _, e := w.x.Commit(); e != want {
		w.t.Fatalf("Commit: error %d, want %d", e, want)
	}
	if want == api.OK && w.wrote {
		w.now = w.view
		w.rig.wrote++
	}
	return want == api.OK
}

// cols are the columns in this state.
func (w *twin) cols() []api.Column {
	if w.state == shift.Old {
		return w.made.cols
	}
	return append(slices.Clone(w.made.cols), w.more)
}

// row is one of a name, with some values from the second column on, as many as there are in this state.
func (w *twin) row(name string, l ...api.Value) []api.Value {
	row := make([]api.Value, len(w.cols()))
	row[0] = text(name)
	copy(row[1:], l)
	return row
}

// does sees that what may write does so, or doesn't, if it's refused.
func (w *twin) does(what string, call func() api.Errno, want api.Errno) bool {
	w.t.Helper()
	if e := call(); e != want {
		w.t.Fatalf("%s: error %d, want %d", what, e, want)
	}
	w.wrote = w.wrote || want == api.OK
	if w.x.Wrote() != w.wrote {
		w.t.Fatalf("%s: it has written: %v", what, w.x.Wrote())
	}
	return want == api.OK
}

// put puts what may be a row.
func (w *twin) put(row ...api.Value) {
	w.t.Helper()
	want := api.OK
	form, e := table.New(w.id, w.cols())
	sure(w.t, "New", e)
	switch {
	case !form.Form(row):
		want = api.ErrForm
	case w.rows.Taken(w.cols(), row):
		want = api.ErrExists
	}
	if !w.does(fmt.Sprintf("Put(%v)", row), func() api.Errno { return w.tab.Put(w.x, row) }, want) {
		return
	}
	name := row[0].S
	w.rows[name] = slices.Clone(row)
	delete(w.left, name)
	if w.state == shift.Old {
		w.left[name] = 1
	}
}

func (w *twin) del(name string) {
	w.t.Helper()
	want := api.OK
	if w.rows[name] == nil {
		want = api.ErrNone
	}
	if w.does(fmt.Sprintf("Del(%q)", name), func() api.Errno { return w.tab.Del(w.x, name) }, want) {
		delete(w.rows, name)
		delete(w.left, name)
	}
}

func (w *twin) start() {
	w.t.Helper()
	want := api.OK
	if w.state != shift.Old {
		want = api.ErrState
	}
	if !w.does("Start", func() api.Errno { return w.tab.Start(w.x) }, want) {
		return
	}
	w.state = shift.Moving
	for name, row := range w.rows {
		v := w.fill
		if w.from >= 0 {
			v = row[w.from]
		}
		w.rows[name] = append(slices.Clone(row), v)
	}
}

// step sees that as many rows are moved as are to be, by their names.
func (w *twin) step(most int) {
	w.t.Helper()
	want := api.OK
	switch {
	case most < 1:
		want = api.ErrArg
	case w.state != shift.Moving:
		want = api.ErrState
	}
	got, n := 0, 0
	call := func() (e api.Errno) {
		got, e = w.tab.Step(w.x, most)
		return e
	}
	if w.does(fmt.Sprintf("Step(%d)", most), call, want) {
		n = min(most, len(w.left))
		for _, name := range slices.Sorted(maps.Keys(w.left))[:n] {
			delete(w.left, name)
		}
		if n == 0 {
			w.state = shift.New
		}
	}
	if got != n {
		w.t.Fatalf("Step(%d) = %d, want %d", most, got, n)
	}
}

// all moves all rows, by Steps.
func (w *twin) all() {
	w.t.Helper()
	for w.state == shift.Moving {
		w.step(3)
	}
}

// tells sees that all that can be asked is as it is to be.
func (w *twin) tells() {
	w.t.Helper()
	if s, e := w.tab.State(w.x); s != w.state || e != api.OK {
		w.t.Fatalf("State = %d, error %d, want %d", s, e, w.state)
	}
	if a, b, e := w.tab.Kept(w.x); a != len(w.left) || b != len(w.rows)-len(w.left) || e != api.OK {
		w.t.Fatalf("Kept = %d, %d, error %d, want %d of %d", a, b, e, len(w.left), len(w.rows))
	}
	want := w.rows.List()
	if got, e := w.tab.List(w.x); !same(got, want) || e != api.OK {
		w.t.Fatalf("List = %v, error %d, want %v", got, e, want)
	}
	for _, name := range append(slices.Sorted(maps.Keys(w.rows)), "nobody", "\xff") {
		w.get(name)
	}
	for col := range w.cols() {
		w.bys(col)
	}
	w.by(-1, number(1), api.ErrArg)
	w.by(len(w.cols()), number(1), api.ErrArg)
}

func (w *twin) get(name string) {
	w.t.Helper()
	want, there := w.rows[name]
	wantE := api.OK
	if !there {
		wantE = api.ErrNone
	}
	if got, e := w.tab.Get(w.x, name); !slices.Equal(got, want) || e != wantE {
		w.t.Fatalf("Get(%q) = %v, error %d, want %v, %d", name, got, e, want, wantE)
	}
}

// bys sees what By answers of a column: of values that may be there, of those that are, and of others.
func (w *twin) bys(col int) {
	w.t.Helper()
	c := w.cols()[col]
	l := append(pick(c), api.Value{}, api.Value{Kind: c.Kind, N: 5, S: "\xff"}, api.Value{Kind: c.Kind%3 + 1})
	for _, row := range w.rows {
		l = append(l, row[col])
	}
	for i, v := range l {
		want := api.OK
		switch {
		case !c.Index:
			want = api.ErrArg
		case v.Kind != c.Kind || i == len(pick(c))+1:
			want = api.ErrForm
		}
		w.by(col, v, want)
	}
}

func (w *twin) by(col int, v api.Value, wantE api.Errno) {
	w.t.Helper()
	want := w.rows.With(func(row []api.Value) bool { return wantE == api.OK && row[col] == v })
	if got, e := w.tab.By(w.x, col, v); !same(got, want) || e != wantE {
		w.t.Fatalf("By(%d, %+v) = %v, error %d, want %v, %d", col, v, got, e, want, wantE)
	}
}

// drawnRow is a row of a name with values that are drawn, by their numbers.
func (w *twin) drawnRow(name string, draw func(n int) int) []api.Value {
	row := w.row(name)
	for i, c := range w.cols()[1:] {
		if l := pick(c); draw(4) > 0 {
			row[i+1] = l[draw(len(l))]
		}
	}
	return row
}

// rowsOf puts n rows with values in most columns, that differ where they must.
func (w *twin) rowsOf(n int) {
	w.t.Helper()
	for i := range n {
		k := int64(i)
		w.put(w.row(fmt.Sprint("row", i), number(k), text(fmt.Sprint(i)), number(k%3), truth(k%2), number(k), text("s"))...)
	}
}
