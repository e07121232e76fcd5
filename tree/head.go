package tree

import (
	"muniment/api"
	"muniment/page"
	"muniment/store"
)

// headAt is the page of the head; rootAt that of the root of a new tree.
const (
	headAt = 0
	rootAt = 1
)

// The keys of the head's cells.
const (
	freeKey = "free"
	nextKey = "next"
)

// numberSize is how many bytes a page's number has in a cell.
const numberSize = 4

// head is what the first page tells: which page is the root, which the first free one, 0: none, and which the first that was never used.
type head struct {
	root, free, next int
}

// readHead: ErrNone: the first page isn't a head, so that there is no tree.
func readHead(s *store.Store) (head, api.Errno) {
	p, e := readPage(s, headAt)
	if e != api.OK {
		return head{}, e
	}
	if p.Kind != api.Head {
		return head{}, api.ErrNone
	}
	h, ok := headOf(p)
	if !ok || h.next > s.Pages() {
		return head{}, api.ErrForm
	}
	return h, api.OK
}

// headOf is what a head's page tells; false: it isn't right.
func headOf(p api.Page) (head, bool) {
	if len(p.Cells) != 2 || !numbers(p.Cells) {
		return head{}, false
	}
	free, next := p.Cells[0], p.Cells[1]
	h := head{root: p.Next, free: number(free.Value), next: number(next.Value)}
	return h, string(free.Key) == freeKey && string(next.Key) == nextKey
}

// page is the head as a page.
func (h head) page() api.Page {
	return api.Page{Kind: api.Head, Next: h.root, Cells: []api.Cell{
		{Key: []byte(freeKey), Value: numberBytes(h.free)},
		{Key: []byte(nextKey), Value: numberBytes(h.next)},
	}}
}

// has: is that page one which is in the tree, or free?
func (h head) has(i int) bool { return i > headAt && i < h.next }

// readPage: ErrForm: the bytes aren't a page.
func readPage(s *store.Store, i int) (api.Page, api.Errno) {
	b, e := s.Read(i)
	if e != api.OK {
		return api.Page{}, e
	}
	return page.Decode(b)
}

func writePage(s *store.Store, i int, p api.Page) api.Errno {
	b, e := page.Encode(p)
	if e != api.OK {
		return e
	}
	return s.Write(i, b)
}

// numbers: are the cells' values all numbers of pages?
func numbers(l []api.Cell) bool {
	for _, c := range l {
		if len(c.Value) != numberSize {
			return false
		}
	}
	return true
}

func number(b []byte) int {
	return int(b[0])<<24 | int(b[1])<<16 | int(b[2])<<8 | int(b[3])
}

func numberBytes(n int) []byte {
	return []byte{byte(n >> 24), byte(n >> 16), byte(n >> 8), byte(n)}
}
