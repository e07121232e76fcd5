package probe

import (
	"muniment/api"
	"muniment/disk"
	"muniment/snap"
	"muniment/store"
)

// NewDB is a database without keys on a new disk, with so many sectors of log, pages and frames.
func NewDB(log, pages, frames int) (*snap.DB, *disk.Disk, api.Errno) {
	d, e := disk.New(1 + log + pages)
	if e != api.OK {
		return nil, nil, e
	}
	if e := store.Format(d, log); e != api.OK {
		return nil, nil, e
	}
	db, e := OpenDB(d, log, frames)
	return db, d, e
}

// OpenDB is the database of a disk.
func OpenDB(d *disk.Disk, log, frames int) (*snap.DB, api.Errno) {
	s, e := store.Open(d, log, frames)
	if e != api.OK {
		return nil, e
	}
	return snap.Open(s)
}
