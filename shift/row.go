package shift

import (
	"slices"

	"muniment/api"
	"muniment/snap"
)

// Get: the row of a name: in the state Old without the new column, else with it.
func (t *Table) Get(x *snap.Tx, name string) ([]api.Value, api.Errno) {
	r, e := t.reached(x)
	if e != api.OK {
		return nil, e
	}
	row, e := t.in(r).Get(x, name)
	if e != api.OK {
		return nil, e
	}
	return t.whole(r, row), api.OK
}

// Put: a row; in the state Old without the new column, else with it.
func (t *Table) Put(x *snap.Tx, row []api.Value) api.Errno {
	r, e := t.reached(x)
	switch {
	case e == api.ErrNone:
		return e
	case !t.narrow.Form(row) && !t.wide.Form(row):
		// It is a row in no state: that goes ahead of a transaction that tells none.
		return api.ErrForm
	case e != api.OK:
		return e
	}
	if e := t.in(r).Put(x, row); e != api.OK {
		return e
	}
	return t.write(x, r)
}

// Del: a row is there no more.
func (t *Table) Del(x *snap.Tx, name string) api.Errno {
	r, e := t.reached(x)
	if e != api.OK {
		return e
	}
	if e := t.in(r).Del(x, name); e != api.OK {
		return e
	}
	return t.write(x, r)
}

// List: all rows, as Get tells them.
func (t *Table) List(x *snap.Tx) ([][]api.Value, api.Errno) {
	r, e := t.reached(x)
	if e != api.OK {
		return nil, e
	}
	l, e := t.in(r).List(x)
	return t.wholes(r, l), e
}

// By: the rows that have a value in a column that is indexed.
func (t *Table) By(x *snap.Tx, col int, v api.Value) ([][]api.Value, api.Errno) {
	r, e := t.reached(x)
	switch {
	case e == api.ErrNone:
		return nil, e
	case e == api.OK && r.state == Old:
		return t.narrow.By(x, col, v)
	}
	l, wrong := t.wide.By(x, col, v)
	switch {
	case wrong != api.OK:
		// What is wrong of the column, or the value, in each state goes ahead of a transaction that tells none.
		return nil, wrong
	case e != api.OK:
		return nil, e
	case col == t.more:
		return t.having(x, v)
	}
	return t.wholes(r, l), api.OK
}

// having are the rows that have a value in the new column. Those of the old form are in no index of it.
func (t *Table) having(x *snap.Tx, v api.Value) ([][]api.Value, api.Errno) {
	l, e := t.List(x)
	return slices.DeleteFunc(l, func(row []api.Value) bool { return row[len(row)-1] != v }), e
}

// whole is a row that stands there as it is told: in the states behind Old one of the old form gets its new value.
func (t *Table) whole(r reach, row []api.Value) []api.Value {
	switch {
	case r.state == Old || len(row) > t.more:
		return row
	case t.from >= 0 && t.from < len(row):
		return append(row, row[t.from])
	}
	return append(row, t.fill)
}

func (t *Table) wholes(r reach, l [][]api.Value) [][]api.Value {
	for i, row := range l {
		l[i] = t.whole(r, row)
	}
	return l
}
