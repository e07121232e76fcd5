package store

import (
	"muniment/api"
)

// restore brings the pages to what they were behind the last commit that is in the log.
func (s *Store) restore() api.Errno {
	since, e := s.lost()
	if e == api.OK {
		e = s.redo(since)
	}
	if e == api.OK && s.tx.open {
		e = s.rollBack()
	}
	if e == api.OK {
		e = s.settle()
	}
	if e != api.OK && e != api.ErrCrash {
		// Such a log no store has written.
		return api.ErrForm
	}
	return e
}

// lost is which pages may not be on the disk as they were, and since which record; the transaction that was open becomes the store's.
func (s *Store) lost() (map[int]uint64, api.Errno) {
	since := map[int]uint64{}
	// A check that stands ahead of the log's beginning has nothing to tell.
	from := max(s.g.Start(), s.g.Check())
	e := s.each(from, func(at uint64, r api.Record) api.Errno {
		switch r.Kind {
		case api.Begin, api.Update, api.Undo:
			s.tx = tx{open: true, number: r.Tx, last: at}
		case api.Commit, api.End:
			s.tx = tx{}
		case api.Check:
			s.tx = tx{open: r.Open, number: r.Tx, last: r.Prev}
			clear(since)
			for _, d := range r.Dirty {
				since[d.Page] = d.Since
			}
		}
		if _, ok := since[r.Page]; changes(r) && !ok {
			since[r.Page] = at
		}
		return api.OK
	})
	return since, e
}

// redo does again what the log tells of these pages and they haven't.
func (s *Store) redo(since map[int]uint64) api.Errno {
	from := s.g.End()
	for _, at := range since {
		from = min(from, at)
	}
	return s.each(from, func(at uint64, r api.Record) api.Errno {
		first, ok := since[r.Page]
		if !changes(r) || !ok || at < first {
			return api.OK
		}
		_, last, e := s.p.Read(r.Page)
		if e != api.OK || last >= at {
			return e
		}
		return s.p.Write(r.Page, r.Off, r.After, at)
	})
}

// each goes through the log's records from a place on.
func (s *Store) each(at uint64, does func(at uint64, r api.Record) api.Errno) api.Errno {
	for at < s.g.End() {
		r, next, e := s.read(at)
		if e == api.OK {
			e = does(at, r)
		}
		if e != api.OK {
			return e
		}
		at = next
	}
	return api.OK
}

// changes: does the record change a page?
func changes(r api.Record) bool { return r.Kind == api.Update || r.Kind == api.Undo }
