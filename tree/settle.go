package tree

import (
	"slices"

	"muniment/api"
	"muniment/page"
)

// slim is how few bytes the cells of a page have that is joined with its neighbour, if they fit on one. It is less than what is left on either of two pages that were parted, so that these aren't joined again by the next call.
const slim = page.Room / 5

// done writes what becomes of a way whose leaf is another.
func (d *draft) done(way []step) api.Errno {
	if e := d.settle(way); e != api.OK {
		return e
	}
	return d.write()
}

// settle puts the last page of a way into the draft, and the pages above it as far as that changes them.
func (d *draft) settle(way []step) api.Errno {
	n := len(way) - 1
	if n == 0 {
		return d.settleRoot(way[0])
	}
	changed, e := d.fit(&way[n-1], way[n])
	if e != api.OK || !changed {
		return e
	}
	return d.settle(way[:n])
}

// settleRoot puts the root into the draft: one that is too large with a new root above it, and instead of one with a single child that child.
func (d *draft) settleRoot(root step) api.Errno {
	switch {
	case page.Size(root.page.Cells) > page.Room:
		i, e := d.take()
		if e != api.OK {
			return e
		}
		up := step{i: i, page: api.Page{Kind: api.Inner, Next: root.i}}
		if e := d.part(&up, root); e != api.OK {
			return e
		}
		d.put(up)
		d.head.root = up.i
	case root.page.Kind == api.Inner && len(root.page.Cells) == 0:
		d.head.root = root.page.Next
		d.release(root.i)
	default:
		d.put(root)
	}
	return api.OK
}

// fit puts a page into the draft, parted, joined or as it is; true: the one above it is another then.
func (d *draft) fit(up *step, low step) (bool, api.Errno) {
	size := page.Size(low.page.Cells)
	switch {
	case size > page.Room:
		return true, d.part(up, low)
	case size < slim && len(up.page.Cells) > 0:
		return d.join(up, low)
	}
	d.put(low)
	return false, api.OK
}

func (d *draft) put(s step) { d.pages[s.i] = s.page }

// part makes two pages of one that is too large.
func (d *draft) part(up *step, low step) api.Errno {
	i, e := d.take()
	if e != api.OK {
		return e
	}
	d.share(up, low, i)
	return api.OK
}

// share leaves of a page's cells the first half, and puts the others on the page i right of it. Of an inner one the cell between goes up.
func (d *draft) share(up *step, low step, i int) {
	cells := low.page.Cells
	n := page.Halves(cells)
	right := api.Page{Kind: low.page.Kind, Cells: cells[n:]}
	if right.Kind == api.Inner {
		right.Next, right.Cells = number(cells[n].Value), cells[n+1:]
	}
	low.page.Cells = cells[:n]
	d.put(low)
	d.put(step{i: i, page: right})
	up.page.Cells = page.Put(up.page.Cells, api.Cell{Key: cells[n].Key, Value: numberBytes(i)})
}

// join makes one page of a slim one and its neighbour. Where they don't fit on one, a page without cells gets some of its neighbour's, and another is left as it is.
func (d *draft) join(up *step, low step) (bool, api.Errno) {
	left, right, e := d.pair(up, low)
	if e != api.OK {
		return false, e
	}
	between := up.page.Cells[max(up.at, 1)-1].Key
	cells := joined(left.page, right.page, between)
	fits := page.Size(cells) <= page.Room
	if !fits && len(low.page.Cells) > 0 {
		d.put(low)
		return false, api.OK
	}
	left.page.Cells = cells
	up.page.Cells = page.Drop(up.page.Cells, between)
	if fits {
		d.put(left)
		d.release(right.i)
	} else {
		d.share(up, left, right.i)
	}
	return true, api.OK
}

// pair is a page and its neighbour, as they stand: the one left of it, if there is one.
func (d *draft) pair(up *step, low step) (left, right step, e api.Errno) {
	if up.at == 0 {
		right, e = d.neighbour(up, 1, low.page.Kind)
		return low, right, e
	}
	left, e = d.neighbour(up, up.at-1, low.page.Kind)
	return left, low, e
}

// neighbour is the child at a place of an inner page, which is to be of that kind.
func (d *draft) neighbour(up *step, at int, kind byte) (step, api.Errno) {
	i := child(up.page, at)
	p, e := d.node(i)
	if e == api.OK && p.Kind != kind {
		return step{}, api.ErrForm
	}
	return step{i: i, page: p}, e
}

// joined is the cells of two pages; between those of inner ones comes one more, of what stands beneath the right one's first cell.
func joined(left, right api.Page, between []byte) []api.Cell {
	if left.Kind == api.Leaf {
		return slices.Concat(left.Cells, right.Cells)
	}
	c := api.Cell{Key: between, Value: numberBytes(right.Next)}
	return slices.Concat(left.Cells, []api.Cell{c}, right.Cells)
}
