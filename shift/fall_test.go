package shift_test

import (
	"fmt"
	"math"
	"testing"

	"muniment/api"
	"muniment/disk"
	"muniment/probe"
	"muniment/shift"
	"muniment/snap"
	"muniment/table"
)

// comesBack turns the power off and on, and sees that all is there, by a table that is made anew.
func (r *rig) comesBack() {
	r.t.Helper()
	r.restarts(nil)
	r.sees()
}

// restarts turns the power off and on, with those of the writes on their way kept.
func (r *rig) restarts(keep []bool) {
	r.t.Helper()
	sure(r.t, "Restart", r.d.Restart(keep))
	r.opens(r.d)
}

// opens opens all anew, on a disk.
func (r *rig) opens(d *disk.Disk) {
	r.t.Helper()
	db, e := probe.OpenDB(d, 200, 16)
	sure(r.t, "OpenDB", e)
	r.d, r.db = d, db
	r.tab, e = r.make()
	sure(r.t, "Make", e)
}

// again is a table as it is now, on a disk of its own.
func (r *rig) again() *rig {
	r.t.Helper()
	d, e := probe.CopyOf(r.d)
	sure(r.t, "CopyOf", e)
	out := *r
	out.now = r.now.copy()
	out.opens(d)
	return &out
}

// P16.5, and the rule of nil objects: of none, and of no transaction, each call answers ErrNone, whatever else it is told.
func TestNone(t *testing.T) {
	t.Parallel()
	r := inState(t, shifts()[0], shift.Moving, 1)
	w := r.begin()
	for _, c := range []struct {
		tab *shift.Table
		x   *snap.Tx
	}{{nil, w.x}, {nil, nil}, {r.tab, nil}} {
		r.refuses(c.tab, c.x, api.ErrNone)
		for _, most := range []int{0, -1, math.MinInt} {
			if n, e := c.tab.Step(c.x, most); n != 0 || e != api.ErrNone {
				t.Errorf("Step(%d) = %d, error %d", most, n, e)
			}
		}
		answers(t, "Put of no row", c.tab.Put(c.x, nil), api.ErrNone)
		if l, e := c.tab.By(c.x, 99, api.Value{}); l != nil || e != api.ErrNone {
			t.Errorf("By = %v, error %d", l, e)
		}
	}
	w.tells()
}

// refuses sees that each call, of what is right in some state, is refused.
func (r *rig) refuses(tab *shift.Table, x *snap.Tx, want api.Errno) {
	r.t.Helper()
	if s, e := tab.State(x); s != 0 || e != want {
		r.t.Errorf("State = %d, error %d, want %d", s, e, want)
	}
	answers(r.t, "Start", tab.Start(x), want)
	for _, most := range []int{1, math.MaxInt} {
		if n, e := tab.Step(x, most); n != 0 || e != want {
			r.t.Errorf("Step = %d, error %d, want %d", n, e, want)
		}
	}
	if a, b, e := tab.Kept(x); a != 0 || b != 0 || e != want {
		r.t.Errorf("Kept = %d, %d, error %d, want %d", a, b, e, want)
	}
	for _, name := range []string{"row1", "nobody"} {
		if row, e := tab.Get(x, name); row != nil || e != want {
			r.t.Errorf("Get = %v, error %d, want %d", row, e, want)
		}
		answers(r.t, "Del", tab.Del(x, name), want)
		for n := range 2 {
			row := make([]api.Value, len(r.cols)+n)
			row[0] = text(name)
			answers(r.t, "Put", tab.Put(x, row), want)
		}
	}
	if l, e := tab.List(x); l != nil || e != want {
		r.t.Errorf("List = %v, error %d, want %d", l, e, want)
	}
	for _, col := range []int{1, 3, len(r.cols)} {
		if l, e := tab.By(x, col, number(1)); l != nil || e != want {
			r.t.Errorf("By = %v, error %d, want %d", l, e, want)
		}
	}
}

// refusesFirst sees that what is wrong in each state is told, where the transaction can't tell its own.
func (r *rig) refusesFirst(x *snap.Tx) {
	r.t.Helper()
	if n, e := r.tab.Step(x, 0); n != 0 || e != api.ErrArg {
		r.t.Errorf("Step(0) = %d, error %d", n, e)
	}
	for _, row := range [][]api.Value{nil, {text("row1")}, make([]api.Value, len(r.cols)), make([]api.Value, len(r.cols)+1), make([]api.Value, len(r.cols)+2)} {
		answers(r.t, "Put of what is no row", r.tab.Put(x, row), api.ErrForm)
	}
	for _, col := range []int{-1, 0, 5, len(r.cols) + 1} {
		if l, e := r.tab.By(x, col, number(1)); l != nil || e != api.ErrArg {
			r.t.Errorf("By(%d) = %v, error %d", col, l, e)
		}
	}
	if l, e := r.tab.By(x, 1, text("1")); l != nil || e != api.ErrForm {
		r.t.Errorf("By = %v, error %d", l, e)
	}
}

// P16.2 to P16.4: each call of a transaction that is over, in each state.
func TestOver(t *testing.T) {
	t.Parallel()
	for state := range shift.New + 1 {
		r := inState(t, shifts()[0], state, 0)
		committed, aborted, empty := r.begin(), r.begin(), r.begin()
		committed.put(committed.row("row1", number(1))...)
		aborted.put(aborted.row("row2", number(2))...)
		if !committed.commit() || !empty.commit() {
			t.Error("it clashes")
		}
		aborted.abort()
		for _, w := range []*twin{committed, aborted, empty} {
			r.refuses(r.tab, w.x, api.ErrState)
			r.refusesFirst(w.x)
		}
		r.sees()
	}
}

// Each call, where the power is off: ErrCrash; nothing is written.
func TestPowerOff(t *testing.T) {
	t.Parallel()
	for state := range shift.New + 1 {
		r := inState(t, shifts()[0], state, 0)
		w := r.begin()
		sure(t, "Arm", r.d.Arm(1))
		answers(t, "Sync", r.d.Sync(), api.ErrCrash)
		for range 2 {
			r.refuses(r.tab, w.x, api.ErrCrash)
			r.refusesFirst(w.x)
		}
		if w.x.Wrote() {
			t.Error("what was refused has written")
		}
		r.comesBack()
	}
}

// P3, P8: the power goes off in each operation of a commit by each call, and any part of the writes is kept: what it did is there whole, or not at all.
func TestFalls(t *testing.T) {
	t.Parallel()
	for state := range shift.New + 1 {
		t.Run(fmt.Sprint("in the state ", state), func(t *testing.T) {
			t.Parallel()
			moved := 0
			if state == shift.Moving {
				moved = 1
			}
			as := inState(t, few(), state, moved)
			for what, does := range writers(state) {
				for at := 1; ; at++ {
					if !as.falls(at, what, func(w *twin) { does(w, "row1") }) {
						break
					}
				}
			}
		})
	}
}

// falls lets the power go off in an operation of a commit, for each choice of the writes; false: the commit has none such.
func (as *rig) falls(at int, what string, does func(w *twin)) bool {
	t := as.t
	t.Helper()
	fell := false
	for choice := 0; ; choice++ {
		r := as.again()
		w := r.begin()
		does(w)
		sure(t, "Arm", r.d.Arm(at))
		_, e := w.x.Commit()
		if e == api.OK {
			return false
		}
		answers(t, what, e, api.ErrCrash)
		fell = true
		keeps := probe.Choices(r.d.Pending())
		if choice == len(keeps) {
			return fell
		}
		r.restarts(keeps[choice])
		if r.db.Last() > uint64(r.wrote) {
			r.now, r.wrote = w.view, r.wrote+1
		}
		r.sees()
	}
}

// What a shift writes is little: in a store with 200 sectors of log and 300 pages no commit of it is refused with ErrFull, while some 60 have written, and all rows may be moved by one Step.
func TestRoom(t *testing.T) {
	t.Parallel()
	cols := []api.Column{{Name: "name", Kind: api.Text}, {Name: "a", Kind: api.Text}, {Name: "b", Kind: api.Text}}
	for _, most := range []int{1, 10, 60, math.MaxInt} {
		r := newRig(t, made{1, cols, api.Column{Name: "more", Kind: api.Int, Index: true}, number(1), -1})
		for i := range 50 {
			r.within(func(w *twin) {
				w.put(text(fmt.Sprintf("row%036d", i)), text("0123456789012345678901234567890123456789012345678901234567"), text("some more text"))
			})
		}
		r.within(func(w *twin) { w.start() })
		for range 8 {
			if r.now.state == shift.Moving {
				r.within(func(w *twin) { w.step(most) })
			}
		}
		r.sees()
		r.comesBack()
	}
}

// P1: what another table has left in the place of rows, and of the state, makes no call panic.
func TestSpoilt(t *testing.T) {
	t.Parallel()
	for _, m := range shifts() {
		for n := 1; n < len(m.cols)+4; n++ {
			r := newRig(t, m)
			w := r.begin()
			other, e := table.New(m.id, many(n))
			sure(t, "New", e)
			for _, name := range []string{"", "row1", "z"} {
				row := make([]api.Value, n)
				row[0] = text(name)
				sure(t, "Put", other.Put(w.x, row))
			}
			asks(r, w.x)
		}
	}
	for _, p := range []string{"", "\x00", "\x03", "\xff", "\x00a", "\x01", "\x01a", "\x02", "\x02a", "\x01\xff\xff"} {
		r := inState(t, shifts()[0], shift.Old, 0)
		w := r.begin()
		sure(t, "Put", w.x.Put([]byte{r.id}, []byte(p)))
		if len(p) == 0 || p[0] != shift.Moving && p[0] != shift.New {
			r.refuses(r.tab, w.x, api.ErrForm)
		}
		asks(r, w.x)
	}
}

// asks asks all calls, in each state.
func asks(r *rig, x *snap.Tx) {
	for range 3 {
		r.tab.State(x)
		r.tab.Kept(x)
		r.tab.List(x)
		for _, name := range []string{"", "row1", "z", "nobody"} {
			r.tab.Get(x, name)
		}
		for col := range len(r.cols) + 2 {
			for _, v := range []api.Value{{}, number(1), text(""), truth(1)} {
				r.tab.By(x, col, v)
			}
		}
		for n := range 2 {
			row := make([]api.Value, len(r.cols)+n)
			row[0] = text("row1")
			r.tab.Put(x, row)
		}
		r.tab.Del(x, "z")
		r.tab.Start(x)
		r.tab.Step(x, 2)
		r.tab.Step(x, 2)
	}
}
