package tree_test

import (
	"fmt"
	"strings"
	"testing"

	"muniment/api"
)

// plan is a tree that is to be laid: a leaf with keys, or an inner page with keys and one child more.
type plan struct {
	keys []string
	kids []plan
}

// planned is the pages of a plan, none of them free.
func planned(p plan) map[int]api.Page {
	pages := map[int]api.Page{}
	next := 1
	var lays func(p plan) int
	lays = func(p plan) int {
		i := next
		next++
		if p.kids == nil {
			pages[i] = leaf(p.keys...)
			return i
		}
		q := inner(lays(p.kids[0]))
		for k, key := range p.keys {
			q.Cells = append(q.Cells, beneath(key, lays(p.kids[k+1])))
		}
		pages[i] = q
		return i
	}
	root := lays(p)
	pages[0] = headOf(root, 0, next)
	return pages
}

// long is a key of a length that begins with a letter and a number.
func long(letter string, k, length int) string {
	s := fmt.Sprintf("%s%d", letter, k)
	return s + strings.Repeat("-", length-len(s))
}

// row is an inner page above leaves of one key each, that begin with one letter; the keys between have a length.
func row(letter string, leaves, length int) plan {
	p := plan{kids: []plan{{keys: []string{long(letter, 0, length)}}}}
	for k := 1; k < leaves; k++ {
		p.keys = append(p.keys, long(letter, k, length))
		p.kids = append(p.kids, plan{keys: []string{long(letter, k, length)}})
	}
	return p
}

// solid sees that no page but a root is without cells.
func (r *rig) solid() {
	r.t.Helper()
	h := r.sees()
	root := pageOf(r.t, r.s, 0).Next
	for _, i := range append(h.leaves, h.inners...) {
		if i != root && len(pageOf(r.t, r.s, i).Cells) == 0 {
			r.t.Fatalf("page %d has no cells", i)
		}
	}
}

// P13.4: an inner page that loses its last cell, beside a full one, left of it or right: no page is without cells then, and the tree goes on to its end.
func TestBesideFull(t *testing.T) {
	for what, p := range map[string]plan{
		"left":    {keys: []string{long("b", 0, 90)}, kids: []plan{row("a", 2, 90), row("b", 6, 90)}},
		"right":   {keys: []string{long("b", 0, 90)}, kids: []plan{row("a", 6, 90), row("b", 2, 90)}},
		"between": {keys: []string{long("b", 0, 90), long("c", 0, 90)}, kids: []plan{row("a", 6, 90), row("b", 2, 90), row("c", 6, 90)}},
	} {
		for first := range 2 {
			r := newRig(t, 200, 60, 8).laid(planned(p))
			r.solid()
			letter := map[string]string{"left": "a", "right": "b", "between": "b"}[what]
			r.within(func() { r.del(long(letter, first, 90)) })
			r.solid()
			r.few(r.sees())
			r.within(func() { r.del(long(letter, 1-first, 90)) })
			r.solid()
			for k := range r.now {
				r.within(func() { r.del(k) })
				r.solid()
				r.few(r.sees())
			}
			if h := r.sees(); h.pages != 2 {
				t.Errorf("%s: with no key left there are %d pages", what, h.pages)
			}
		}
	}
}

// P13.2, P13.4: a Del by which two leaves are joined, then an inner page gets some of its neighbour's cells, and the key between becomes longer, so that the page above parts: it takes the page that was given back just now, and needs no other.
func TestDelParts(t *testing.T) {
	const between = 20
	p := plan{kids: []plan{row("a", 2, 5)}}
	add := func(key string, kid plan) {
		p.keys = append(p.keys, key)
		p.kids = append(p.kids, kid)
	}
	// The neighbour has 480 bytes, and the page above all its 498.
	add(long("b", 0, between), row("b", 6, 90))
	for _, letter := range []string{"c", "d", "e", "f"} {
		add(long(letter, 0, 90), row(letter, 2, 90))
	}
	add(long("g", 0, 82), row("g", 2, 90))
	p.kids[1].kids[0].keys = []string{long("b", 0, 90)}
	p.kids[6].kids[0].keys = []string{long("g", 0, 90)}
	pages := planned(p)
	r := newRig(t, 200, len(pages)+1, 8).laid(pages)
	was := r.sees()
	r.within(func() { r.counted(func() { r.del(long("a", 1, 5)) }) })
	r.solid()
	if h := r.sees(); h.levels != was.levels+1 || h.next != was.next+1 || h.free != 0 {
		t.Errorf("%d levels, then %d; next is %d, then %d; %d are free", was.levels, h.levels, was.next, h.next, h.free)
	}
	for k := range r.now {
		r.within(func() { r.counted(func() { r.del(k) }) })
		r.solid()
	}
}
