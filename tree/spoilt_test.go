package tree_test

import (
	"bytes"
	"fmt"
	"math/rand"
	"slices"
	"testing"

	"muniment/api"
	"muniment/page"
)

func inner(next int, cells ...api.Cell) api.Page {
	return api.Page{Kind: api.Inner, Next: next, Cells: cells}
}

func leaf(keys ...string) api.Page {
	p := api.Page{Kind: api.Leaf}
	for _, k := range keys {
		p.Cells = append(p.Cells, cell(k, "v"+k))
	}
	return p
}

func free(next int) api.Page { return api.Page{Kind: api.Free, Next: next} }

// beneath is a cell of an inner page.
func beneath(key string, i int) api.Cell { return api.Cell{Key: []byte(key), Value: numbered(i)} }

// byHand is a tree of three levels, laid by the document's words, with two pages free; its keys are also such as its inner pages have.
func byHand() map[int]api.Page {
	return map[int]api.Page{
		0: headOf(3, 9, 11),
		3: inner(5, beneath("m", 1)),
		5: inner(2, beneath("d", 10), beneath("h", 4)),
		1: inner(6, beneath("t", 7)),
		2: leaf("", "a", "b"), 10: leaf("d", "e"), 4: leaf("hh", "l\xff"),
		6: leaf("m", "n"), 7: leaf("tt", "z", "\xff"),
		9: free(8), 8: free(0),
	}
}

// laid is a store with these pages, on which a tree is.
func laid(t *testing.T, pages map[int]api.Page) *rig {
	t.Helper()
	return newRig(t, 60, 14, 8).laid(pages)
}

// laid is a rig with these pages, on which a tree is.
func (r *rig) laid(pages map[int]api.Page) *rig {
	r.t.Helper()
	r.begin()
	r.lay(pages)
	r.commit()
	r.now = words{}
	for _, p := range pages {
		if p.Kind == api.Leaf {
			for _, c := range p.Cells {
				r.now[string(c.Key)] = string(c.Value)
			}
		}
	}
	r.sure = r.now
	return r
}

// P13.1 to P13.4: a tree whose pages were laid by the document's words is one: what its calls tell of it, and make of it.
func TestByHand(t *testing.T) {
	r := laid(t, byHand())
	h := r.sees()
	if h.pages != 9 || h.free != 2 || h.levels != 3 || len(h.cells) != 12 {
		t.Fatalf("the tree by hand has %d pages, %d free, %d levels, %d keys", h.pages, h.free, h.levels, len(h.cells))
	}
	keys, pages, e := r.tr.Check()
	if keys != 12 || pages != 9 || e != api.OK {
		t.Errorf("Check = %d, %d, error %d", keys, pages, e)
	}
	asked := []string{"", "\x00", "a", "c", "d", "dd", "e", "g\xff", "h", "hh", "l\xff", "l\xff\xff", "m", "n", "s", "t", "tt", "z", "\xff", "\xff\xff"}
	for _, k := range asked {
		r.get(k)
		for _, to := range asked {
			for most := range 14 {
				r.scan(k, to, most)
			}
		}
	}
	for _, k := range asked {
		for _, v := range []string{"", largest} {
			r.opens()
			r.begin()
			r.put(k, v)
			r.sees()
			r.del(k)
			r.sees()
			r.abort()
		}
	}
	for k := range 40 {
		r.within(func() { r.put(fmt.Sprintf("%c%d", "admt"[k%4], k), largest[:30]) })
		r.sees()
	}
	for k := range r.now {
		r.within(func() { r.del(k) })
		r.sees()
	}
}

// P13.1: a new tree, and one of two leaves, have the pages that the document says.
func TestPagesAsSaid(t *testing.T) {
	r := grown(t, 40, 9, 4)
	samePage(t, "the head", pageOf(t, r.s, 0), headOf(1, 0, 2))
	samePage(t, "the root", pageOf(t, r.s, 1), api.Page{Kind: api.Leaf})
	for _, k := range []string{"c", "b", "a"} {
		r.within(func() { r.put(k, largest) })
	}
	r.within(func() { r.put("bb", largest) })
	h := r.sees()
	head := pageOf(t, r.s, 0)
	root := pageOf(t, r.s, head.Next)
	if h.pages != 4 || h.levels != 2 || root.Kind != api.Inner || len(root.Cells) != 1 {
		t.Fatalf("four cells of 153 bytes have %d pages, root %+v", h.pages, root)
	}
	if left, right := pageOf(t, r.s, root.Next), pageOf(t, r.s, number(root.Cells[0].Value)); left.Next != 0 || right.Next != 0 || len(left.Cells) == 0 || len(right.Cells) == 0 {
		t.Errorf("the leaves are %+v and %+v", left, right)
	}
	for _, k := range []string{"c", "b", "a", "bb"} {
		r.within(func() { r.del(k) })
	}
	h = r.sees()
	if h.pages != 2 || h.free != 2 || h.next != 4 {
		t.Fatalf("with no key left there are %d pages and %d free, next is %d", h.pages, h.free, h.next)
	}
	for _, i := range h.frees {
		if p := pageOf(t, r.s, i); len(p.Cells) != 0 {
			t.Errorf("a free page has %d cells", len(p.Cells))
		}
	}
}

// samePage fails the test, if a page isn't the one wanted.
func samePage(t *testing.T, what string, got, want api.Page) {
	t.Helper()
	if got.Kind != want.Kind || got.Next != want.Next || !same(got.Cells, want.Cells) {
		t.Errorf("%s is %+v, want %+v", what, got, want)
	}
}

// noTree sees that pages aren't a tree: Check tells it, and no call panics, or goes on for ever.
func noTree(t *testing.T, what string, change func(pages map[int]api.Page)) {
	t.Helper()
	pages := byHand()
	change(pages)
	r := laid(t, pages)
	keys, n, e := r.tr.Check()
	if keys != 0 || n != 0 || e != api.ErrForm {
		t.Errorf("%s: Check = %d, %d, error %d", what, keys, n, e)
	}
	r.survives()
}

// survives sees that all calls end, and don't panic; each in a transaction that is aborted.
func (r *rig) survives() {
	r.t.Helper()
	for _, k := range []string{"", "a", "d", "e", "hh", "k", "m", "n", "tt", "z", "\xff"} {
		r.tr.Get([]byte(k))
		for _, most := range []int{0, 1, 1 << 40} {
			r.tr.Scan([]byte(k), nil, most)
			r.tr.Scan(nil, []byte(k), most)
		}
		r.survivesOne(func() { r.tr.Put([]byte(k), []byte(largest)) })
		r.survivesOne(func() { r.tr.Del([]byte(k)) })
	}
	r.survivesOne(func() {
		for _, k := range []string{"", "a", "b", "d", "e", "hh", "l\xff", "m", "n", "tt", "z", "\xff"} {
			r.tr.Del([]byte(k))
		}
	})
	r.survivesOne(func() {
		for k := range 24 {
			r.tr.Put([]byte(fmt.Sprintf("%c%d", "admt"[k%4], k)), []byte(largest))
		}
	})
}

func (r *rig) survivesOne(does func()) {
	r.t.Helper()
	_, e := r.s.Begin()
	sure(r.t, "Begin", e)
	does()
	r.tr.Check()
	sure(r.t, "Abort", r.s.Abort())
}

// P13.3: Check of pages that are no tree: a page, the head aside, of each kind that it isn't to have.
func TestCheckKind(t *testing.T) {
	for i, p := range byHand() {
		for _, kind := range []byte{api.Free, api.Leaf, api.Inner, api.Head} {
			if i != 0 && kind != p.Kind {
				noTree(t, fmt.Sprintf("page %d of kind %d", i, kind), func(pages map[int]api.Page) {
					q := p
					q.Kind = kind
					pages[i] = q
				})
			}
		}
	}
}

// P13.3: a page that is used twice, or isn't there, or was never used, or is the head, wherever a page is named.
func TestCheckUse(t *testing.T) {
	for i, p := range byHand() {
		for at := range places(p) {
			is := named(p, at)
			for _, to := range []int{0, 1, 2, 3, 4, 5, 6, 7, 8, 9, 10, 11, 12, 13, 14, 4095, 4096, is + 1<<16, is + 1<<24, 1<<31 - 1, 1 << 31, 1<<32 - 1} {
				if to == is || at == 0 && to > 4095 {
					continue
				}
				noTree(t, fmt.Sprintf("page %d has %d at %d", i, to, at), func(pages map[int]api.Page) {
					pages[i] = naming(pages[i], at, to)
				})
			}
		}
	}
}

// places is how many pages one names: Next, and the cells' values of a head and of inner ones; a leaf names none.
func places(p api.Page) int {
	switch p.Kind {
	case api.Leaf:
		return 0
	case api.Free:
		return 1
	}
	return 1 + len(p.Cells)
}

// named is the page that one names at a place.
func named(p api.Page, at int) int {
	if at == 0 {
		return p.Next
	}
	return number(p.Cells[at-1].Value)
}

// naming is the page with another one named at a place.
func naming(p api.Page, at, to int) api.Page {
	if at == 0 {
		p.Next = to
		return p
	}
	p.Cells = slices.Clone(p.Cells)
	p.Cells[at-1].Value = numbered(to)
	return p
}

// P13.3: keys that are out of their places, in leaves and in inner pages; and such as are in it just so.
func TestCheckPlaces(t *testing.T) {
	for what, c := range map[string]struct {
		i int
		p api.Page
	}{
		"below the first cell's, its key":   {2, leaf("a", "d")},
		"below the first cell's, above it":  {2, leaf("a", "da")},
		"far above":                         {2, leaf("z")},
		"from a cell's key on, below it":    {10, leaf("c\xff", "e")},
		"below the next cell's, its key":    {10, leaf("d", "h")},
		"beneath the last, that above ends": {4, leaf("hh", "m")},
		"beneath the last, below it":        {4, leaf("g")},
		"beneath the first, that above":     {6, leaf("l\xff\xff", "m")},
		"beneath the first, the next's":     {6, leaf("m", "t")},
		"the last leaf, below":              {7, leaf("s", "z")},
		"the empty key in the last leaf":    {7, leaf("", "z")},
		"an inner page's key above":         {5, inner(2, beneath("d", 10), beneath("m", 4))},
		"an inner page's key far above":     {5, inner(2, beneath("d", 10), beneath("x", 4))},
		"an inner page's key below":         {1, inner(6, beneath("l", 7))},
		"an inner page's key that parts":    {5, inner(2, beneath("e", 10), beneath("h", 4))},
		"the root's key that parts":         {3, inner(5, beneath("n", 1))},
		"the root's key that parts below":   {3, inner(5, beneath("l", 1))},
	} {
		noTree(t, what, func(pages map[int]api.Page) { pages[c.i] = c.p })
	}
	noTree(t, "an inner page's key above, over no keys", func(pages map[int]api.Page) {
		pages[5], pages[4] = inner(2, beneath("d", 10), beneath("x", 4)), leaf()
	})
	noTree(t, "an inner page's key below, over no keys", func(pages map[int]api.Page) {
		pages[1], pages[6] = inner(6, beneath("l", 7)), leaf()
	})
	for _, c := range []struct {
		i int
		p api.Page
	}{
		{2, leaf("", "\x00", "c\xff\xff")}, {10, leaf("d", "g\xff\xff")}, {4, leaf("h", "l\xff\xff\xff")}, {6, leaf("m", "s\xff")}, {7, leaf("t", "\xff\xff\xff")},
		{5, inner(2, beneath("c", 10), beneath("e\x00", 4))}, {5, inner(2, beneath("b\x00", 10), beneath("hh", 4))},
		{1, inner(6, beneath("n\x00", 7))}, {3, inner(5, beneath("l\xff\x00", 1))},
	} {
		pages := byHand()
		pages[c.i] = c.p
		laid(t, pages).sees()
	}
}

// P13.3: a leaf that is too deep, or not deep enough; a page that is neither in the tree nor free; one that is free twice over.
func TestCheckDepth(t *testing.T) {
	for what, change := range map[string]func(pages map[int]api.Page){
		"a leaf one deeper": func(pages map[int]api.Page) {
			pages[5] = inner(2, beneath("d", 10), beneath("h", 9))
			pages[9] = inner(4, beneath("k", 8))
			pages[4], pages[8] = leaf("hh"), leaf("l\xff")
			pages[0] = headOf(3, 0, 11)
		},
		"the first leaf one deeper": func(pages map[int]api.Page) {
			pages[5] = inner(9, beneath("d", 10), beneath("h", 4))
			pages[9] = inner(2, beneath("b", 8))
			pages[2], pages[8] = leaf("a"), leaf("b")
			pages[0] = headOf(3, 0, 11)
		},
		"the last leaf one deeper": func(pages map[int]api.Page) {
			pages[1] = inner(6, beneath("t", 9))
			pages[9] = inner(7, beneath("x", 8))
			pages[7], pages[8] = leaf("tt"), leaf("z")
			pages[0] = headOf(3, 0, 11)
		},
		"a leaf beneath the root": func(pages map[int]api.Page) {
			pages[3] = inner(5, beneath("m", 6), beneath("t", 7))
			pages[1] = free(9)
			pages[0] = headOf(3, 1, 11)
		},
		"none is free":                     func(pages map[int]api.Page) { pages[0] = headOf(3, 0, 11) },
		"one is not free":                  func(pages map[int]api.Page) { pages[0] = headOf(3, 8, 11) },
		"the last isn't free":              func(pages map[int]api.Page) { pages[9] = free(0) },
		"one more was used":                func(pages map[int]api.Page) { pages[0] = headOf(3, 9, 12) },
		"all were used":                    func(pages map[int]api.Page) { pages[0] = headOf(3, 9, 14) },
		"one of the tree was never used":   func(pages map[int]api.Page) { pages[0] = headOf(3, 9, 10) },
		"the free ones go round":           func(pages map[int]api.Page) { pages[8] = free(9) },
		"a free one goes round":            func(pages map[int]api.Page) { pages[8] = free(8) },
		"a free one leads to the head":     func(pages map[int]api.Page) { pages[9] = free(8); pages[8] = free(3) },
		"a free one that was never used":   func(pages map[int]api.Page) { pages[8] = free(11) },
		"more were used than there are":    func(pages map[int]api.Page) { pages[0] = headOf(3, 9, 15) },
		"a page beneath itself":            func(pages map[int]api.Page) { pages[5] = inner(5, beneath("d", 10), beneath("h", 4)) },
		"a page beneath another one of it": func(pages map[int]api.Page) { pages[1] = inner(3, beneath("t", 7)) },
	} {
		noTree(t, what, change)
	}
}

// P13.3, P1: an inner page whose neighbour, with which it is to be joined when its leaves are, or when they part, is none.
func TestCheckNeighbour(t *testing.T) {
	full := api.Page{Kind: api.Leaf}
	for k := range 71 {
		full.Cells = append(full.Cells, cell(fmt.Sprintf("m%03d", k), "v"))
	}
	for what, change := range map[string]func(pages map[int]api.Page){
		"beside a leaf": func(pages map[int]api.Page) {
			pages[3], pages[5], pages[6] = inner(5, beneath("m", 6)), inner(2, beneath("d", 10)), full
		},
		"beside what was never used": func(pages map[int]api.Page) {
			pages[3], pages[0] = inner(5, beneath("m", 11)), headOf(3, 0, 11)
		},
		"beside itself": func(pages map[int]api.Page) {
			pages[3], pages[5] = inner(5, beneath("m", 5)), inner(2, beneath("d", 10))
		},
	} {
		noTree(t, what, change)
	}
}

// P13.3: a head, and inner pages, whose cells aren't as said.
func TestCheckCells(t *testing.T) {
	head := func(next int, cells ...api.Cell) func(pages map[int]api.Page) {
		return func(pages map[int]api.Page) { pages[0] = api.Page{Kind: api.Head, Next: next, Cells: cells} }
	}
	for what, change := range map[string]func(pages map[int]api.Page){
		"no cells":            head(3),
		"no next":             head(3, beneath("free", 9)),
		"no free":             head(3, beneath("next", 11)),
		"one more":            head(3, beneath("free", 9), beneath("next", 11), beneath("x", 1)),
		"another name":        head(3, beneath("frei", 9), beneath("next", 11)),
		"another second name": head(3, beneath("free", 9), beneath("nexu", 11)),
		"a short number":      head(3, cell("free", "\x00\x00\x09"), beneath("next", 11)),
		"a long number":       head(3, cell("free", "\x00\x00\x00\x00\x09"), beneath("next", 11)),
		"a short next":        head(3, beneath("free", 9), cell("next", "\x0b")),
		"a long next":         head(3, beneath("free", 9), cell("next", "\x00\x00\x00\x0b\x00")),
		"an empty next":       head(3, beneath("free", 9), cell("next", "")),
		"an inner page's short number": func(pages map[int]api.Page) {
			pages[5] = inner(2, beneath("d", 10), cell("h", "\x00\x00\x04"))
		},
		"an inner page's long number": func(pages map[int]api.Page) {
			pages[5] = inner(2, cell("d", "\x00\x00\x00\x00\x0a"), beneath("h", 4))
		},
		"an inner page's empty number": func(pages map[int]api.Page) {
			pages[1] = inner(6, cell("t", ""))
		},
		"the root's longest": func(pages map[int]api.Page) {
			pages[3] = inner(5, cell("m", largest))
		},
	} {
		noTree(t, what, change)
	}
}

// P13.3: bytes that are no page by layer 10's rules, wherever in the tree, or free.
func TestCheckBytes(t *testing.T) {
	for i := range byHand() {
		for _, b := range [][]byte{bytes.Repeat([]byte{0xff}, body), bytes.Repeat([]byte("a"), body), append([]byte{4}, make([]byte, body-1)...), append(make([]byte, body-1), 1)} {
			r := laid(t, byHand())
			r.begin()
			sure(t, "Write", r.s.Write(i, b))
			r.commit()
			keys, n, e := r.tr.Check()
			if keys != 0 || n != 0 || e != api.ErrForm {
				t.Errorf("page %d is %.4x..: Check = %d, %d, error %d", i, b, keys, n, e)
			}
			r.survives()
		}
	}
}

// P13.2: a page that is said to be free, and isn't, isn't written over.
func TestTakesNoOther(t *testing.T) {
	pages := byHand()
	pages[0] = headOf(3, 7, 11)
	r := laid(t, pages)
	r.begin()
	e := api.OK
	for k := 0; e == api.OK && k < 9; k++ {
		e = r.tr.Put([]byte(fmt.Sprintf("b%d", k)), []byte(largest))
	}
	answers(t, "Put where a page isn't free", e, api.ErrForm)
	samePage(t, "the page", pageOf(t, r.s, 7), pages[7])
}

// P13.3: what was never used may have any bytes.
func TestCheckNeverUsed(t *testing.T) {
	r := laid(t, byHand())
	r.begin()
	for i := 11; i < 14; i++ {
		sure(t, "Write", r.s.Write(i, bytes.Repeat([]byte{byte(i)}, body)))
	}
	r.commit()
	r.sees()
	for k := range 16 {
		r.begin()
		if e := r.tr.Put([]byte(fmt.Sprintf("b%d", k)), []byte(largest)); e != api.OK {
			answers(t, "Put", e, api.ErrFull)
			r.abort()
			break
		}
		r.now[fmt.Sprintf("b%d", k)] = largest
		r.commit()
		r.sees()
	}
	if h := r.sees(); h.next != 14 {
		t.Errorf("next is %d", h.next)
	}
}

// P1: pages of which some bytes are others, or that stand elsewhere: no call panics, or goes on for ever.
func TestSpoilt(t *testing.T) {
	for seed := range 8 {
		t.Run(fmt.Sprint(seed), func(t *testing.T) {
			t.Parallel()
			draw := rand.New(rand.NewSource(int64(seed)))
			r := laid(t, byHand())
			for range 100 {
				r.begin()
				for range 1 + draw.Intn(3) {
					r.spoils(draw)
				}
				r.commit()
				if keys, n, e := r.tr.Check(); (e == api.OK) != (shapeOf(r.s).wrong == "") && e != api.ErrNone {
					t.Fatalf("Check = %d, %d, error %d, but %q", keys, n, e, shapeOf(r.s).wrong)
				}
				r.survives()
				r.begin()
				r.lay(byHand())
				r.commit()
			}
		})
	}
}

// spoils makes a page another one, that is a page still for the most part.
func (r *rig) spoils(draw *rand.Rand) {
	r.t.Helper()
	i := draw.Intn(11)
	b, e := r.s.Read(i)
	sure(r.t, "Read", e)
	p, e := page.Decode(b)
	switch {
	case draw.Intn(8) == 0 || e != api.OK:
		b[draw.Intn(40)] = byte(draw.Intn(13))
	case draw.Intn(4) == 0:
		b, e = r.s.Read(draw.Intn(14))
		sure(r.t, "Read", e)
	default:
		switch draw.Intn(4) {
		case 0:
			p.Kind = byte(draw.Intn(4))
		case 1:
			p.Cells = nil
		default:
			if n := places(p); n > 0 {
				p = naming(p, draw.Intn(n), draw.Intn(15))
			}
		}
		if b, e = page.Encode(p); e != api.OK {
			r.t.Fatalf("Encode(%+v): error %d", p, e)
		}
	}
	sure(r.t, "Write", r.s.Write(i, b))
}
