package probe

import (
	"muniment/api"
	"muniment/disk"
)

// CopyOf is a disk that has on its sectors what is on those of another one, durable.
func CopyOf(d *disk.Disk) (*disk.Disk, api.Errno) {
	c, e := disk.New(d.Len())
	if e != api.OK {
		return nil, e
	}
	for i := range d.Len() {
		b, e := d.Read(i)
		if e != api.OK {
			return nil, e
		}
		if e := c.Write(i, b); e != api.OK {
			return nil, e
		}
	}
	return c, c.Sync()
}
