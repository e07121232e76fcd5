package table

import (
	"muniment/api"
	"muniment/codec"
	"muniment/snap"
)

// Get: the row of a name.
func (t *Table) Get(x *snap.Tx, name string) ([]api.Value, api.Errno) {
	if t == nil {
		return nil, api.ErrNone
	}
	p, e := x.Get(append(t.rows(), name...))
	if e != api.OK {
		return nil, e
	}
	return row(name, p)
}

// Put: a row, in the place of the one of its name.
func (t *Table) Put(x *snap.Tx, row []api.Value) api.Errno {
	switch {
	case t == nil:
		return api.ErrNone
	case !t.Form(row):
		return api.ErrForm
	}
	name := row[0].S
	old, e := t.Get(x, name)
	if e != api.OK && e != api.ErrNone {
		return e
	}
	come := t.apart(name, row, old)
	// All that may be refused is looked at first, so that a row is put whole or not at all.
	if e := free(x, come, name); e != api.OK {
		return e
	}
	if e := drop(x, t.apart(name, old, row)); e != api.OK {
		return e
	}
	return t.write(x, row, come)
}

// Del: a row is there no more.
func (t *Table) Del(x *snap.Tx, name string) api.Errno {
	old, e := t.Get(x, name)
	if e != api.OK {
		return e
	}
	return drop(x, append(t.apart(name, old, nil), append(t.rows(), name...)))
}

// List: all rows, by their names.
func (t *Table) List(x *snap.Tx) ([][]api.Value, api.Errno) {
	if t == nil {
		return nil, api.ErrNone
	}
	from := t.rows()
	return each(x, from, func(c api.Cell) ([]api.Value, api.Errno) {
		return row(string(c.Key[len(from):]), c.Value)
	})
}

// By: the rows that have a value in a column that is indexed, by their names.
func (t *Table) By(x *snap.Tx, col int, v api.Value) ([][]api.Value, api.Errno) {
	switch {
	case t == nil:
		return nil, api.ErrNone
	case col < 0 || col >= len(t.cols) || !t.cols[col].Index:
		return nil, api.ErrArg
	case v.Kind != t.cols[col].Kind || !codec.Form(v):
		return nil, api.ErrForm
	}
	return each(x, t.entries(col, v), func(c api.Cell) ([]api.Value, api.Errno) {
		return t.Get(x, string(c.Value))
	})
}

// row is what stands under a name: as many values as were put there, by a table that may have had fewer columns then.
func row(name string, p []byte) ([]api.Value, api.Errno) {
	l, e := codec.Decode(p)
	if e != api.OK {
		return nil, e
	}
	return append([]api.Value{{Kind: api.Text, S: name}}, l...), api.OK
}

// each are the rows that are read of the cells whose keys begin so.
func each(x *snap.Tx, from []byte, read func(c api.Cell) ([]api.Value, api.Errno)) ([][]api.Value, api.Errno) {
	to := append([]byte{}, from...)
	cells, e := x.Scan(from, append(to, last))
	if e != api.OK {
		return nil, e
	}
	var out [][]api.Value
	for _, c := range cells {
		l, e := read(c)
		if e != api.OK {
			return nil, e
		}
		out = append(out, l)
	}
	return out, api.OK
}

// free: may a row of that name have keys of indexes? Not one that a row of another name has.
func free(x *snap.Tx, keys [][]byte, name string) api.Errno {
	for _, key := range keys {
		p, e := x.Get(key)
		switch {
		case e == api.OK && string(p) != name:
			return api.ErrExists
		case e != api.OK && e != api.ErrNone:
			return e
		}
	}
	return api.OK
}

// drop takes keys away.
func drop(x *snap.Tx, keys [][]byte) api.Errno {
	for _, key := range keys {
		if e := x.Del(key); e != api.OK {
			return e
		}
	}
	return api.OK
}

// write puts a row, and its name under keys of indexes.
func (t *Table) write(x *snap.Tx, row []api.Value, keys [][]byte) api.Errno {
	// A row that isn't of the form isn't written.
	p, _ := codec.Encode(row[1:])
	name := row[0].S
	for _, key := range keys {
		if e := x.Put(key, []byte(name)); e != api.OK {
			return e
		}
	}
	return x.Put(append(t.rows(), name...), p)
}
