package tree

import (
	"bytes"

	"muniment/api"
	"muniment/page"
)

// gathering is a Scan: the cells that were found.
type gathering struct {
	d        *draft
	from, to []byte
	most     int
	cells    []api.Cell
	over     bool
}

// page gathers what is beneath a page.
func (g *gathering) page(i int) api.Errno {
	p, e := g.d.node(i)
	if e != api.OK {
		return e
	}
	if p.Kind == api.Leaf {
		g.leaf(p.Cells)
		return api.OK
	}
	for at := placeOf(p, g.from); at <= len(p.Cells) && !g.over; at++ {
		if at > 0 && g.ends(p.Cells[at-1].Key) {
			break
		}
		if e := g.page(child(p, at)); e != api.OK {
			return e
		}
	}
	return api.OK
}

func (g *gathering) leaf(l []api.Cell) {
	at, _ := page.Find(l, g.from)
	for _, c := range l[at:] {
		if len(g.cells) == g.most || g.ends(c.Key) {
			g.over = true
			return
		}
		g.cells = append(g.cells, c)
	}
	g.over = len(g.cells) == g.most
}

// ends: does a key stand behind those that are asked for?
func (g *gathering) ends(key []byte) bool {
	return len(g.to) > 0 && bytes.Compare(key, g.to) >= 0
}

// survey is a Check: what was counted so far.
type survey struct {
	d           *draft
	keys, pages int
	// depth is that of the leaves, 0: none was seen.
	depth int
}

// bounds are those of the keys beneath a page: from one on, below another one, if there is one.
type bounds struct {
	from, to []byte
	open     bool
}

func (b bounds) has(key []byte) bool {
	return bytes.Compare(key, b.from) >= 0 && (b.open || bytes.Compare(key, b.to) < 0)
}

// all goes through the pages that are beneath the root, and the free ones: there are to be no others.
func (v *survey) all() api.Errno {
	v.pages = 1
	if e := v.page(v.d.head.root, 1, bounds{open: true}); e != api.OK {
		return e
	}
	free, e := v.free()
	if e != api.OK {
		return e
	}
	if v.pages+free != v.d.head.next {
		return api.ErrForm
	}
	return api.OK
}

// page goes through what is beneath a page.
func (v *survey) page(i, depth int, b bounds) api.Errno {
	p, e := v.d.node(i)
	if e != api.OK {
		return e
	}
	v.pages++
	for _, c := range p.Cells {
		if !b.has(c.Key) {
			return api.ErrForm
		}
	}
	if p.Kind == api.Leaf {
		v.keys += len(p.Cells)
		return v.leaf(depth)
	}
	for at := range len(p.Cells) + 1 {
		if e := v.page(child(p, at), depth+1, beneath(p, at, b)); e != api.OK {
			return e
		}
	}
	return api.OK
}

// leaf sees that a leaf is as deep as those ahead of it.
func (v *survey) leaf(depth int) api.Errno {
	if v.depth != 0 && v.depth != depth {
		return api.ErrForm
	}
	v.depth = depth
	return api.OK
}

// beneath is the bounds of an inner page's child, by those of the page.
func beneath(p api.Page, at int, b bounds) bounds {
	if at > 0 {
		b.from = p.Cells[at-1].Key
	}
	if at < len(p.Cells) {
		b.to, b.open = p.Cells[at].Key, false
	}
	return b
}

// free is how many pages are free.
func (v *survey) free() (int, api.Errno) {
	n := 0
	for i := v.d.head.free; i != 0; n++ {
		p, e := v.d.once(i)
		if e != api.OK {
			return 0, e
		}
		if p.Kind != api.Free {
			return 0, api.ErrForm
		}
		i = p.Next
	}
	return n, api.OK
}
