package tree

import (
	"maps"
	"slices"

	"muniment/api"
	"muniment/page"
	"muniment/store"
)

// draft is the tree as one call goes through it, and would leave it: what it changes is written at its end, each page once, so that a call for which there is no page writes nothing.
type draft struct {
	s    *store.Store
	was  head
	head head
	// pages are those that are changed.
	pages map[int]api.Page
	// seen are those that were gone through.
	seen []bool
}

// step is a page on the way from the root to a leaf, and in an inner page the place of the child beneath which the way goes on.
type step struct {
	i    int
	page api.Page
	at   int
}

func newDraft(s *store.Store, was head) *draft {
	return &draft{s: s, was: was, head: was, pages: map[int]api.Page{}, seen: make([]bool, was.next)}
}

// once is a page that hasn't been gone through yet. In a tree each page is used once; where this isn't so, no call goes round for ever.
func (d *draft) once(i int) (api.Page, api.Errno) {
	if !d.was.has(i) || d.seen[i] {
		return api.Page{}, api.ErrForm
	}
	d.seen[i] = true
	return readPage(d.s, i)
}

// node is once of a page that is to be a leaf or an inner one.
func (d *draft) node(i int) (api.Page, api.Errno) {
	p, e := d.once(i)
	if e != api.OK {
		return api.Page{}, e
	}
	if p.Kind != api.Leaf && (p.Kind != api.Inner || !numbers(p.Cells)) {
		return api.Page{}, api.ErrForm
	}
	return p, api.OK
}

// way is the pages from the root to the leaf in which a key is, or would be.
func (d *draft) way(key []byte) ([]step, api.Errno) {
	var out []step
	for i := d.head.root; ; {
		p, e := d.node(i)
		if e != api.OK {
			return nil, e
		}
		out = append(out, step{i: i, page: p, at: placeOf(p, key)})
		if p.Kind == api.Leaf {
			return out, api.OK
		}
		i = child(p, placeOf(p, key))
	}
}

// placeOf is the place of the child of an inner page beneath which a key is, or would be.
func placeOf(p api.Page, key []byte) int {
	at, there := page.Find(p.Cells, key)
	if there {
		return at + 1
	}
	return at
}

// child is the page at a place of an inner one: first that beneath which the keys below the first cell's stand, then those of the cells.
func child(p api.Page, at int) int {
	if at == 0 {
		return p.Next
	}
	return number(p.Cells[at-1].Value)
}

// take is a page that wasn't used: a free one, or the next.
func (d *draft) take() (int, api.Errno) {
	i := d.head.free
	if i == 0 {
		if d.head.next == d.s.Pages() {
			return 0, api.ErrFull
		}
		d.head.next++
		return d.head.next - 1, api.OK
	}
	p, changed := d.pages[i]
	if !changed {
		var e api.Errno
		if p, e = d.once(i); e != api.OK {
			return 0, e
		}
	}
	if p.Kind != api.Free {
		return 0, api.ErrForm
	}
	d.head.free = p.Next
	return i, api.OK
}

// release makes a page free.
func (d *draft) release(i int) {
	d.pages[i] = api.Page{Kind: api.Free, Next: d.head.free}
	d.head.free = i
}

// write writes what the draft changes.
func (d *draft) write() api.Errno {
	for _, i := range slices.Sorted(maps.Keys(d.pages)) {
		if e := writePage(d.s, i, d.pages[i]); e != api.OK {
			return e
		}
	}
	if d.head == d.was {
		return api.OK
	}
	return writePage(d.s, headAt, d.head.page())
}
