package store

import (
	"muniment/api"
	"muniment/log"
	"muniment/record"
)

// spanSize is how many bytes the log puts ahead of a record.
const spanSize = 2

// tx is a transaction.
type tx struct {
	open   bool
	number uint64
	// first and last are the places of its first record and of its last one; an opening, which has no use for first, leaves it out.
	first uint64
	last  uint64
}

// begin begins a transaction. So that it doesn't lack room, nor what is written in it, the log is emptied when half of it is used.
func (s *Store) begin() api.Errno {
	if s.g.Room() < s.count/2*log.Part {
		if e := s.settle(); e != api.OK {
			return e
		}
	}
	number := s.begun + 1
	// What a transaction ends with, End or Commit, takes as much.
	at, e := s.add(api.Record{Kind: api.Begin, Tx: number}, sizeOf(api.Record{Kind: api.End}))
	if e != api.OK {
		return e
	}
	s.begun = number
	s.tx = tx{open: true, number: number, first: at, last: at}
	return api.OK
}

// write changes a page by a record, of the bytes alone from the first that is other to the last one; without any, if none is.
func (s *Store) write(i int, b []byte) api.Errno {
	old, _, e := s.p.Read(i)
	if e != api.OK {
		return e
	}
	from, to := difference(old, b)
	if from == to {
		return api.OK
	}
	r := api.Record{Kind: api.Update, Tx: s.tx.number, Prev: s.tx.last, Page: i, Off: from, Before: old[from:to], After: b[from:to]}
	return s.change(r, sizeOf(undoing(r, 0)))
}

func (s *Store) commit() api.Errno {
	s.release()
	if e := s.end(api.Commit); e != api.OK {
		return e
	}
	return s.g.Flush()
}

// rollBack undoes what the transaction has written, from the last of it on that isn't undone yet, and ends it.
func (s *Store) rollBack() api.Errno {
	s.release()
	for at := s.tx.last; ; {
		r, _, e := s.read(at)
		if e != api.OK {
			return e
		}
		next := r.Prev
		switch r.Kind {
		case api.Begin:
			return s.end(api.End)
		case api.Update:
			if e := s.change(undoing(r, s.tx.last), 0); e != api.OK {
				return e
			}
		case api.Undo:
			next = r.Next
		}
		// Else a log that no store has written might lead round for ever.
		if next >= at {
			return api.ErrForm
		}
		at = next
	}
}

// undoing is the record that undoes one, behind the transaction's record at last.
func undoing(r api.Record, last uint64) api.Record {
	return api.Record{Kind: api.Undo, Tx: r.Tx, Prev: last, Page: r.Page, Off: r.Off, After: r.Before, Next: r.Prev}
}

// change changes a page as a record of the transaction says, which is put into the log; so many bytes more are held.
func (s *Store) change(r api.Record, hold int) api.Errno {
	at, e := s.add(r, hold)
	if e != api.OK {
		return e
	}
	s.tx.last = at
	return s.p.Write(r.Page, r.Off, r.After, at)
}

// end puts the transaction's last record into the log.
func (s *Store) end(kind byte) api.Errno {
	if _, e := s.add(api.Record{Kind: kind, Tx: s.tx.number, Prev: s.tx.last}, 0); e != api.OK {
		return e
	}
	s.tx = tx{}
	return api.OK
}

// release makes room of what is held for the transaction's end: nothing is written any more but this.
func (s *Store) release() { s.g.Release(s.g.Held()) }

// add puts a record into the log; so many bytes more are held.
func (s *Store) add(r api.Record, hold int) (uint64, api.Errno) {
	b, e := record.Encode(r)
	if e != api.OK {
		return 0, e
	}
	return s.g.Append(b, hold)
}

// read is the record at a place, and the place behind it.
func (s *Store) read(at uint64) (api.Record, uint64, api.Errno) {
	b, next, e := s.g.Read(at)
	if e != api.OK {
		return api.Record{}, 0, e
	}
	r, e := record.Decode(b)
	return r, next, e
}

// sizeOf is how many bytes of the log a record takes.
func sizeOf(r api.Record) int {
	b, _ := record.Encode(r)
	return spanSize + len(b)
}

// difference is from the first byte on at which two pages are unlike up to behind the last one.
func difference(a, b []byte) (int, int) {
	from, to := 0, len(a)
	for from < to && a[from] == b[from] {
		from++
	}
	for from < to && a[to-1] == b[to-1] {
		to--
	}
	return from, to
}
