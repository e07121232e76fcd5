package snap_test

import (
	"bytes"
	"fmt"
	"math"
	"testing"

	"muniment/api"
	"muniment/snap"
	"muniment/tree"
)

// spoilt are cells that somebody else might have made of one.
func spoilt(c api.Cell) []api.Cell {
	var out []api.Cell
	add := func(key, value []byte) {
		if len(key) <= api.MaxKey && len(value) <= api.MaxValue {
			out = append(out, api.Cell{Key: key, Value: value})
		}
	}
	for n := range c.Key {
		add(bytes.Clone(c.Key[:n]), c.Value)
		for _, b := range []byte{0, 1, 2, 0xff} {
			key := bytes.Clone(c.Key)
			key[n] = b
			add(key, c.Value)
		}
	}
	for n := range c.Value {
		add(c.Key, bytes.Clone(c.Value[:n]))
		for _, b := range []byte{0, 1, 2, 0xff} {
			value := bytes.Clone(c.Value)
			value[n] = b
			add(c.Key, value)
		}
	}
	for _, more := range []string{"\x00", "\x01", "\xff", "\x00\x01", "more and more"} {
		add(append(bytes.Clone(c.Key), more...), c.Value)
		add(c.Key, append(bytes.Clone(c.Value), more...))
	}
	return out
}

// P1: in a tree whose cells somebody else has changed each call ends, none panics, and what it answers beside an error is nothing.
func TestSpoilt(t *testing.T) {
	base := newRig(t, 60, 40, 4)
	base.put("1", "a", "\x00b", "")
	base.put("22", "a")
	base.del("\x00b")
	cells, e := tree.On(base.s).Scan(nil, nil, math.MaxInt)
	sure(t, "Scan", e)
	if len(cells) < 5 {
		t.Fatalf("%d cells", len(cells))
	}
	refused := 0
	for i, c := range cells {
		for k, other := range spoilt(c) {
			t.Run(fmt.Sprint(i, " ", k), func(t *testing.T) {
				r := newStore(t, 60, 40, 4)
				r.lays(cells, i, other)
				db, e := snap.Open(r.s)
				if e != api.OK {
					refused++
					if db != nil || e != api.ErrForm {
						t.Fatalf("Open: a database %v, error %d", db != nil, e)
					}
					return
				}
				if i == 0 && bytes.Equal(other.Key, c.Key) && len(other.Value) != len(c.Value) {
					t.Errorf("a number of the last commit of %d bytes isn't refused", len(other.Value))
				}
				if asks(t, db) {
					refused++
				} else if bytes.HasPrefix(other.Key, c.Key) && len(other.Key) > len(c.Key) && len(c.Key) > 8 {
					t.Errorf("a version with more behind its key isn't refused")
				}
			})
		}
	}
	if refused == 0 {
		t.Error("no cell is refused")
	}
}

// lays makes a tree of cells, with another one in the place of one.
func (r *rig) lays(cells []api.Cell, at int, other api.Cell) {
	r.t.Helper()
	_, e := r.s.Begin()
	sure(r.t, "Begin", e)
	w := tree.On(r.s)
	sure(r.t, "Create", w.Create())
	for i, c := range cells {
		if i != at {
			sure(r.t, "Put", w.Put(c.Key, c.Value))
		}
	}
	sure(r.t, "Put", w.Put(other.Key, other.Value))
	sure(r.t, "Commit", r.s.Commit())
}

// asks does each call; true: one has answered ErrForm.
func asks(t *testing.T, db *snap.DB) bool {
	t.Helper()
	refused := false
	told := func(what string, e api.Errno, empty bool) {
		t.Helper()
		refused = refused || e == api.ErrForm
		if e != api.OK && e != api.ErrForm && e != api.ErrNone || e != api.OK && !empty {
			t.Errorf("%s: error %d, with nothing beside it: %v", what, e, empty)
		}
	}
	for range 2 {
		x, e := db.Begin()
		sure(t, "Begin", e)
		for _, key := range []string{"", "a", "\x00b", "b", "\xff"} {
			b, e := x.Get([]byte(key))
			told("Get", e, b == nil)
		}
		l, e := x.Scan(nil, nil)
		told("Scan", e, l == nil)
		sure(t, "Put", x.Put([]byte("a"), []byte("3")))
		l, e = x.Scan([]byte("a"), []byte("b"))
		told("Scan", e, l == nil)
		at, e := x.Commit()
		told("Commit", e, at == 0)
		n, e := db.Versions()
		told("Versions", e, n == 0)
		n, e = db.Sweep(2)
		told("Sweep", e, n == 0)
		n, e = db.Sweep(1000)
		told("Sweep", e, n == 0)
	}
	return refused
}
