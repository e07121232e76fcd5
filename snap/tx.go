package snap

import (
	"bytes"
	"slices"

	"muniment/api"
)

// Tx is a transaction: what it sees, and what it has written.
type Tx struct {
	db   *DB
	at   uint64
	over bool
	// wrote stays when the transaction is over, writes are gone then.
	wrote  bool
	writes map[string]write
}

// write is what a transaction makes of a key.
type write struct {
	value []byte
	gone  bool
}

// At: the number of the last commit that it sees. Wrote: has it written anything?
func (t *Tx) At() uint64 {
	if t == nil {
		return 0
	}
	return t.at
}

func (t *Tx) Wrote() bool { return t != nil && t.wrote }

// Get: the value of a key.
func (t *Tx) Get(key []byte) ([]byte, api.Errno) {
	if e := t.takes(key); e != api.OK {
		return nil, e
	}
	if w, own := t.writes[string(key)]; own {
		if w.gone {
			return nil, api.ErrNone
		}
		return bytes.Clone(w.value), api.OK
	}
	return t.db.get(string(key), t.at)
}

// Put: a key has that value, if the transaction is committed. Del: it isn't there.
func (t *Tx) Put(key, value []byte) api.Errno {
	if e := t.takes(key); e != api.OK {
		return e
	}
	if len(value) > MaxValue {
		return api.ErrLong
	}
	t.put(key, write{value: bytes.Clone(value)})
	return api.OK
}

func (t *Tx) Del(key []byte) api.Errno {
	if e := t.takes(key); e != api.OK {
		return e
	}
	t.put(key, write{gone: true})
	return api.OK
}

// Scan: the keys from one on, below another one (empty: to the end), and their values.
func (t *Tx) Scan(from, to []byte) ([]api.Cell, api.Errno) {
	if e := t.ready(); e != api.OK {
		return nil, e
	}
	cells, e := t.db.scan(from, to, t.at)
	if e != api.OK {
		return nil, e
	}
	cells = slices.DeleteFunc(cells, func(c api.Cell) bool {
		_, own := t.writes[string(c.Key)]
		return own
	})
	for key, w := range t.writes {
		c := api.Cell{Key: []byte(key), Value: bytes.Clone(w.value)}
		if !w.gone && stands(c.Key, from, to) {
			cells = append(cells, c)
		}
	}
	slices.SortFunc(cells, func(a, b api.Cell) int { return bytes.Compare(a.Key, b.Key) })
	return cells, api.OK
}

// Commit: the transaction is over, and what it has written is there, durable; the number of the commit.
func (t *Tx) Commit() (uint64, api.Errno) {
	if e := t.ready(); e != api.OK {
		return 0, e
	}
	number, e := t.at, api.OK
	if t.wrote {
		number, e = t.db.commit(t)
	}
	t.end()
	return number, e
}

// Abort: the transaction is over, and has written nothing.
func (t *Tx) Abort() api.Errno {
	if e := t.ready(); e != api.OK {
		return e
	}
	t.end()
	return api.OK
}

// ready tells why nothing is done, if nothing is.
func (t *Tx) ready() api.Errno {
	switch {
	case t == nil:
		return api.ErrNone
	case t.over:
		return api.ErrState
	}
	return api.OK
}

// takes is ready of what is done with a key.
func (t *Tx) takes(key []byte) api.Errno {
	e := t.ready()
	if e == api.OK && len(key)+bytes.Count(key, []byte{0}) > MaxKey {
		return api.ErrLong
	}
	return e
}

func (t *Tx) put(key []byte, w write) {
	t.wrote = true
	t.writes[string(key)] = w
}

func (t *Tx) end() {
	t.over = true
	t.writes = nil
	t.db.leave(t)
}

// stands: does a key stand from one on, below another one (empty: to the end)?
func stands(key, from, to []byte) bool {
	return bytes.Compare(key, from) >= 0 && (len(to) == 0 || bytes.Compare(key, to) < 0)
}
