package store

import (
	"muniment/api"
)

// settle brings all pages to the disk, while no transaction is open, so that nothing of the log is needed.
func (s *Store) settle() api.Errno {
	if e := s.p.Flush(); e != api.OK {
		return e
	}
	return s.check()
}

// check tells in the log what isn't on the disk, and what may have to be undone, and frees what is needed no more. Where there is nothing of these it needs no record, and so no room.
func (s *Store) check() api.Errno {
	dirty, e := s.dirty()
	if e != api.OK {
		return e
	}
	at := uint64(0)
	if len(dirty) > 0 || s.tx.open {
		at, e = s.add(api.Record{Kind: api.Check, Tx: s.tx.number, Prev: s.tx.last, Dirty: dirty, Open: s.tx.open}, 0)
		if e != api.OK {
			return e
		}
	}
	if e := s.g.Flush(); e != api.OK {
		return e
	}
	return s.g.Mark(at, s.needed(dirty))
}

// dirty are the pool's dirty pages, if a record can tell so many; those that were driven out count too, and so they may be more.
func (s *Store) dirty() ([]api.Dirty, api.Errno) {
	l := s.p.Dirty()
	if len(l) <= api.MaxFrames {
		return l, api.OK
	}
	return nil, s.p.Flush()
}

// needed is the place of the first record that is needed; the log's end, if none is.
func (s *Store) needed(dirty []api.Dirty) uint64 {
	at := s.g.End()
	if s.tx.open {
		at = s.tx.first
	}
	for _, d := range dirty {
		at = min(at, d.Since)
	}
	return at
}
