package shift

import (
	"muniment/api"
	"muniment/snap"
	"muniment/table"
)

// reach is how far a shift has come: its state, and in the state Moving the name from which on rows of the old form aren't moved.
type reach struct {
	state byte
	from  string
}

// behind is the first name that stands behind another one.
func behind(name string) string { return name + "\x00" }

// key is where the reach is kept: table has no key there.
func (t *Table) key() []byte { return []byte{t.id} }

// reached is how far the shift has come, as a transaction sees it. ErrNone: there is no table, or no transaction.
func (t *Table) reached(x *snap.Tx) (reach, api.Errno) {
	if t == nil || x == nil {
		return reach{}, api.ErrNone
	}
	p, e := x.Get(t.key())
	switch {
	case e == api.ErrNone:
		return reach{state: Old}, api.OK
	case e != api.OK:
		return reach{}, e
	case len(p) == 0 || p[0] != Moving && p[0] != New:
		return reach{}, api.ErrForm
	}
	return reach{state: p[0], from: string(p[1:])}, api.OK
}

// write writes how far the shift has come. All who write do so, where it has come no further too: so any two of them clash.
func (t *Table) write(x *snap.Tx, r reach) api.Errno {
	if r == (reach{state: Old}) {
		return x.Del(t.key())
	}
	return x.Put(t.key(), append([]byte{r.state}, r.from...))
}

// in is the table whose rows are taken, and told, when the shift has come so far.
func (t *Table) in(r reach) *table.Table {
	if r.state == Old {
		return t.narrow
	}
	return t.wide
}

// moved: is a row moved, as it stands there?
func (t *Table) moved(r reach, row []api.Value) bool {
	return r.state == New || len(row) > t.more || row[0].S < r.from
}

// left are the names of the rows that aren't moved, and how many rows there are in all.
func (t *Table) left(x *snap.Tx, r reach) ([]string, int, api.Errno) {
	l, e := t.wide.List(x)
	if e != api.OK {
		return nil, 0, e
	}
	var names []string
	for _, row := range l {
		if !t.moved(r, row) {
			names = append(names, row[0].S)
		}
	}
	return names, len(l), api.OK
}
