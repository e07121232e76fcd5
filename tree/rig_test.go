package tree_test

import (
	"bytes"
	"fmt"
	"maps"
	"slices"
	"testing"

	"muniment/api"
	"muniment/disk"
	"muniment/page"
	"muniment/probe"
	"muniment/store"
	"muniment/tree"
)

var answers, sure = probe.Answers, probe.Sure

// body is how many bytes a page has of its own, by the document.
const body = 504

// numbered is the bytes of a page's number in a cell.
func numbered(n int) []byte { return []byte{byte(n >> 24), byte(n >> 16), byte(n >> 8), byte(n)} }

func number(b []byte) int { return int(b[0])<<24 | int(b[1])<<16 | int(b[2])<<8 | int(b[3]) }

func cell(key, value string) api.Cell { return api.Cell{Key: []byte(key), Value: []byte(value)} }

// words are keys and their values; nil: there is no tree.
type words map[string]string

// cells are those of the keys from one on, below another one, rising, as many as may be.
func (w words) cells(from, to string, most int) []api.Cell {
	var out []api.Cell
	for _, k := range slices.Sorted(maps.Keys(w)) {
		if len(out) < most && k >= from && (to == "" || k < to) {
			out = append(out, cell(k, w[k]))
		}
	}
	return out
}

func same(a, b []api.Cell) bool {
	return slices.EqualFunc(a, b, func(a, b api.Cell) bool {
		return bytes.Equal(a.Key, b.Key) && bytes.Equal(a.Value, b.Value)
	})
}

// rig is a tree in a store on a disk, and what it is to tell by the document's words.
type rig struct {
	t                    *testing.T
	d                    *disk.Disk
	s                    *store.Store
	tr                   *tree.Tree
	count, pages, frames int
	// sure is what was there behind the last commit, now what is.
	sure, now words
	open      bool
	// doubt: has the power gone off in a commit? Then it is there, or isn't.
	doubt bool
}

// newRig is a new store, without a tree.
func newRig(t *testing.T, count, pages, frames int) *rig {
	t.Helper()
	d, e := disk.New(1 + count + pages)
	sure(t, "disk.New", e)
	sure(t, "Format", store.Format(d, count))
	r := &rig{t: t, d: d, count: count, pages: pages, frames: frames}
	r.opens()
	return r
}

// grown is a new store with an empty tree that is committed.
func grown(t *testing.T, count, pages, frames int) *rig {
	t.Helper()
	r := newRig(t, count, pages, frames)
	r.begin()
	r.create()
	r.commit()
	return r
}

// opens opens the store, and sees that the tree is what it was behind the last commit.
func (r *rig) opens() {
	r.t.Helper()
	s, e := store.Open(r.d, r.count, r.frames)
	sure(r.t, "Open", e)
	r.s, r.tr, r.open = s, tree.On(s), false
	if r.doubt && same(r.told(), r.now.cells("", "", len(r.now))) && r.is() == (r.now != nil) {
		r.sure = r.now
	}
	r.doubt = false
	r.now = maps.Clone(r.sure)
	r.sees()
}

// is: is there a tree?
func (r *rig) is() bool {
	r.t.Helper()
	_, _, e := r.tr.Check()
	if e != api.OK && e != api.ErrNone {
		r.t.Fatalf("Check: error %d", e)
	}
	return e == api.OK
}

// told is all that the tree tells.
func (r *rig) told() []api.Cell {
	r.t.Helper()
	l, e := r.tr.Scan(nil, nil, 1<<30)
	if e != api.OK && e != api.ErrNone {
		r.t.Fatalf("Scan: error %d", e)
	}
	return l
}

// sees sees that the pages are a tree with the keys that are to be there, that Check tells it, and that Scan tells them all.
func (r *rig) sees() shape {
	r.t.Helper()
	keys, pages, e := r.tr.Check()
	all, e2 := r.tr.Scan(nil, nil, len(r.now)+1)
	if r.now == nil {
		if keys != 0 || pages != 0 || e != api.ErrNone || all != nil || e2 != api.ErrNone {
			r.t.Fatalf("without a tree Check = %d, %d, error %d; Scan = %q, error %d", keys, pages, e, all, e2)
		}
		return shape{}
	}
	want := r.now.cells("", "", len(r.now))
	h := shapeOf(r.s)
	if h.wrong != "" || !same(h.cells, want) {
		r.t.Fatalf("the pages have %q, want %q, %s", h.cells, want, h.wrong)
	}
	if keys != len(want) || pages != h.pages || e != api.OK {
		r.t.Fatalf("Check = %d, %d, error %d, want %d, %d", keys, pages, e, len(want), h.pages)
	}
	if !same(all, want) || e2 != api.OK {
		r.t.Fatalf("Scan = %q, error %d, want %q", all, e2, want)
	}
	return h
}

// did sees that a call has answered what it is to answer; false: the power has gone off in it.
func (r *rig) did(what string, e, want api.Errno) bool {
	r.t.Helper()
	if e == api.ErrCrash && !r.d.On() {
		return false
	}
	if e != want || !r.d.On() {
		r.t.Fatalf("%s: error %d, want %d; the power is on: %v", what, e, want, r.d.On())
	}
	return true
}

func (r *rig) begin() {
	r.t.Helper()
	_, e := r.s.Begin()
	if r.did("Begin", e, api.OK) {
		r.open = true
	}
}

func (r *rig) commit() {
	r.t.Helper()
	if r.did("Commit", r.s.Commit(), api.OK) {
		r.sure, r.open = maps.Clone(r.now), false
		return
	}
	r.doubt = true
}

func (r *rig) abort() {
	r.t.Helper()
	if r.did("Abort", r.s.Abort(), api.OK) {
		r.now, r.open = maps.Clone(r.sure), false
	}
}

func (r *rig) create() {
	r.t.Helper()
	if r.did("Create", r.tr.Create(), api.OK) {
		r.now = words{}
	}
}

func (r *rig) put(key, value string) {
	r.t.Helper()
	if r.did(fmt.Sprintf("Put(%q)", key), r.tr.Put([]byte(key), []byte(value)), api.OK) {
		r.now[key] = value
	}
}

// del deletes a key, that is there or isn't.
func (r *rig) del(key string) {
	r.t.Helper()
	want := api.OK
	if _, there := r.now[key]; !there {
		want = api.ErrNone
	}
	if r.did(fmt.Sprintf("Del(%q)", key), r.tr.Del([]byte(key)), want) {
		delete(r.now, key)
	}
}

// get asks for a key, that is there or isn't.
func (r *rig) get(key string) {
	r.t.Helper()
	want, there := r.now[key]
	wantE := api.OK
	if !there {
		wantE = api.ErrNone
	}
	got, e := r.tr.Get([]byte(key))
	if e != api.OK && got != nil {
		r.t.Fatalf("Get(%q) = %q beside error %d", key, got, e)
	}
	if r.did(fmt.Sprintf("Get(%q)", key), e, wantE) && string(got) != want {
		r.t.Fatalf("Get(%q) = %q, want %q", key, got, want)
	}
}

// scan asks for some keys.
func (r *rig) scan(from, to string, most int) {
	r.t.Helper()
	want := r.now.cells(from, to, most)
	got, e := r.tr.Scan([]byte(from), []byte(to), most)
	if e != api.OK && got != nil {
		r.t.Fatalf("Scan(%q, %q, %d) = %q beside error %d", from, to, most, got, e)
	}
	if r.did("Scan", e, api.OK) && !same(got, want) {
		r.t.Fatalf("Scan(%q, %q, %d) = %q, want %q", from, to, most, got, want)
	}
}

// within does something in a transaction of its own, that is committed.
func (r *rig) within(does func()) {
	r.t.Helper()
	r.begin()
	does()
	r.commit()
}

// bytes is what the first n pages have.
func (r *rig) bytes(n int) [][]byte {
	r.t.Helper()
	var out [][]byte
	for i := range n {
		b, e := r.s.Read(i)
		sure(r.t, "Read", e)
		out = append(out, b)
	}
	return out
}

// lay writes pages past the tree, in the open transaction.
func (r *rig) lay(pages map[int]api.Page) {
	r.t.Helper()
	for i, p := range pages {
		b, e := page.Encode(p)
		sure(r.t, "Encode", e)
		sure(r.t, "Write", r.s.Write(i, b))
	}
}

// pageOf is a page of a store.
func pageOf(t *testing.T, s *store.Store, i int) api.Page {
	t.Helper()
	b, e := s.Read(i)
	sure(t, "Read", e)
	p, e := page.Decode(b)
	sure(t, "Decode", e)
	return p
}

// headOf is the head's page, by the document.
func headOf(root, free, next int) api.Page {
	return api.Page{Kind: api.Head, Next: root, Cells: []api.Cell{
		{Key: []byte("free"), Value: numbered(free)}, {Key: []byte("next"), Value: numbered(next)},
	}}
}

// turnOff turns a disk's power off.
func turnOff(t *testing.T, d *disk.Disk) {
	t.Helper()
	answers(t, "Arm", d.Arm(1), api.OK)
	answers(t, "Sync", d.Sync(), api.ErrCrash)
}
