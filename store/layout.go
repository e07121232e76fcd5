package store

import (
	"muniment/api"
	"muniment/disk"
)

// leastCount is how many sectors a store's log has at least behind its first one.
const leastCount = 16

// pagesAt is the sector of the first page.
func pagesAt(count int) int { return 1 + count }

// fits tells why there can't be a store with a log of that size, if there can't.
func fits(d *disk.Disk, count int) api.Errno {
	switch {
	case d == nil:
		return api.ErrNone
	case count < leastCount || count > d.Len()-2: // the log's first sector, and one page
		return api.ErrArg
	}
	return api.OK
}

// writeNoughts makes the sectors noughts from one on up to another, durable.
func writeNoughts(d *disk.Disk, from, to int) api.Errno {
	for i := from; i < to; i++ {
		if e := d.Write(i, make([]byte, api.PageSize)); e != api.OK {
			return e
		}
	}
	return d.Sync()
}
