package snap

import (
	"maps"
	"slices"

	"muniment/api"
	"muniment/octet"
)

// commit puts what a transaction has written into the tree; the number of the commit.
func (db *DB) commit(t *Tx) (uint64, api.Errno) {
	if db.clashes(t) {
		return 0, api.ErrClash
	}
	number := db.last + 1
	keys := slices.Sorted(maps.Keys(t.writes))
	e := db.roomy(func() api.Errno {
		for _, key := range keys {
			if e := db.tree.Put(keyOf(key, number), valueOf(t.writes[key])); e != api.OK {
				return e
			}
		}
		return db.tree.Put([]byte{lastCell}, octet.Uint(number))
	})
	if e != api.OK {
		return 0, e
	}
	db.last = number
	for _, key := range keys {
		db.written[key] = number
	}
	return number, api.OK
}

// clashes: was a key that the transaction has written written by a commit that it doesn't see?
func (db *DB) clashes(t *Tx) bool {
	for key := range t.writes {
		if db.written[key] > t.at {
			return true
		}
	}
	return false
}

// leave takes a transaction from those that are open, and forgets the keys written by commits that all others see.
func (db *DB) leave(t *Tx) {
	db.open = slices.DeleteFunc(db.open, func(other *Tx) bool { return other == t })
	first := slices.Min(db.moments())
	maps.DeleteFunc(db.written, func(_ string, number uint64) bool { return number <= first })
}

// moments are the commits up to which the open transactions see, and a later one.
func (db *DB) moments() []uint64 {
	out := []uint64{db.last}
	for _, t := range db.open {
		out = append(out, t.at)
	}
	return out
}

// whole does something in a transaction of the store: all of it or, with an error, nothing.
func (db *DB) whole(does func() api.Errno) api.Errno {
	if _, e := db.s.Begin(); e != api.OK {
		return e
	}
	e := does()
	if e == api.OK {
		return db.s.Commit()
	}
	if off := db.s.Abort(); off != api.OK {
		return off
	}
	return e
}

// roomy is whole, and where there is no room it is done once more with all the room that the log can have.
func (db *DB) roomy(does func() api.Errno) api.Errno {
	e := db.whole(does)
	if e != api.ErrFull {
		return e
	}
	if e := db.s.Flush(); e != api.OK {
		return e
	}
	// That a checkpoint has no room is no error here: a transaction may begin all the same.
	if e := db.s.Checkpoint(); e != api.OK && e != api.ErrFull {
		return e
	}
	return db.whole(does)
}
