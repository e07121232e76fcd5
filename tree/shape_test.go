package tree_test

import (
	"fmt"

	"muniment/api"
	"muniment/page"
	"muniment/store"
)

// shape is what the pages of a tree tell, gone through by the document's words.
type shape struct {
	s     *store.Store
	used  []int
	cells []api.Cell
	// pages are the tree's, the head among them; levels are those below the head.
	pages, free, next, levels int
	// leaves and inners are the numbers of the pages beneath the root.
	leaves, inners, frees []int
	wrong                 string
}

func shapeOf(s *store.Store) shape {
	h := shape{s: s, used: make([]int, s.Pages())}
	head := h.page(0, api.Head)
	if h.wrong != "" || len(head.Cells) != 2 || string(head.Cells[0].Key) != "free" || string(head.Cells[1].Key) != "next" || len(head.Cells[0].Value) != 4 || len(head.Cells[1].Value) != 4 {
		h.fails("the head is %+v", head)
		return h
	}
	h.next = number(head.Cells[1].Value)
	h.pages = 1
	h.beneath(head.Next, 1, nil, nil)
	for i := number(head.Cells[0].Value); i != 0 && h.wrong == ""; {
		h.free++
		h.frees = append(h.frees, i)
		i = h.page(i, api.Free).Next
	}
	for i := range s.Pages() {
		if i < h.next && h.used[i] != 1 || i >= h.next && h.used[i] != 0 {
			h.fails("page %d is used %d times, next is %d", i, h.used[i], h.next)
		}
	}
	return h
}

func (h *shape) fails(what string, args ...any) {
	if h.wrong == "" {
		h.wrong = fmt.Sprintf(what, args...)
	}
}

// page is a page that is to be of some kind, and is marked as used.
func (h *shape) page(i int, kinds ...byte) api.Page {
	if i < 0 || i >= h.s.Pages() || h.used[i] > 0 {
		h.fails("page %d isn't there, or is used twice", i)
		return api.Page{}
	}
	h.used[i]++
	b, e := h.s.Read(i)
	p, e2 := page.Decode(b)
	if e != api.OK || e2 != api.OK {
		h.fails("page %d: error %d, %d", i, e, e2)
	}
	for _, k := range kinds {
		if p.Kind == k {
			return p
		}
	}
	h.fails("page %d has kind %d", i, p.Kind)
	return p
}

// beneath goes through what is beneath a page at a level; the keys are to be from one on, below another one, nil: none.
func (h *shape) beneath(i, level int, from, to []byte) {
	p := h.page(i, api.Leaf, api.Inner)
	if h.wrong != "" {
		return
	}
	h.pages++
	for _, c := range p.Cells {
		if string(c.Key) < string(from) || to != nil && string(c.Key) >= string(to) {
			h.fails("page %d has %q, not between %q and %q", i, c.Key, from, to)
		}
	}
	if p.Kind == api.Leaf {
		h.leaves = append(h.leaves, i)
		h.cells = append(h.cells, p.Cells...)
		if h.levels != 0 && h.levels != level {
			h.fails("leaf %d is at level %d, others at %d", i, level, h.levels)
		}
		h.levels = level
		return
	}
	h.inners = append(h.inners, i)
	child := p.Next
	for _, c := range p.Cells {
		h.beneath(child, level+1, from, c.Key)
		if len(c.Value) != 4 {
			h.fails("page %d has a value %x", i, c.Value)
			return
		}
		from, child = c.Key, number(c.Value)
	}
	h.beneath(child, level+1, from, to)
}
