package snap_test

import (
	"bytes"
	"fmt"
	"maps"
	"slices"
	"strings"
	"testing"

	"muniment/api"
	"muniment/disk"
	"muniment/probe"
	"muniment/snap"
	"muniment/store"
	"muniment/tree"
)

// By the document: how many bytes a key may have, noughts counted twice, and a value.
const (
	mostKey   = 79
	mostValue = 149
)

var (
	longest = strings.Repeat("k", mostKey)
	largest = strings.Repeat("v", mostValue)
)

var answers, sure = probe.Answers, probe.Sure

// words are keys and their values.
type words map[string]string

// cells are those of the keys from one on, below another one, rising.
func (w words) cells(from, to string) []api.Cell {
	var out []api.Cell
	for _, k := range slices.Sorted(maps.Keys(w)) {
		if k >= from && (to == "" || k < to) {
			out = append(out, api.Cell{Key: []byte(k), Value: []byte(w[k])})
		}
	}
	return out
}

func same(a, b []api.Cell) bool {
	return slices.EqualFunc(a, b, func(a, b api.Cell) bool {
		return bytes.Equal(a.Key, b.Key) && bytes.Equal(a.Value, b.Value)
	})
}

// made is a version: the number of the commit that made it, and whether it says that the key is gone.
type made struct {
	number int
	gone   bool
}

// rig is a database on a disk, and what it is to tell by the document's words.
type rig struct {
	t                    *testing.T
	d                    *disk.Disk
	s                    *store.Store
	db                   *snap.DB
	count, pages, frames int
	// states are what was there behind each commit, that of the number 0 first; story what the commits have made of each key.
	states []words
	story  map[string][]made
	// versions is how many there are.
	versions int
	open     []*twin
	// doubt is what a commit in which the power went off has made of the keys; nil: there is none.
	doubt map[string]*string
	// swept: has the power gone off in a Sweep?
	swept bool
}

// twin is a transaction, and what it is to tell.
type twin struct {
	r    *rig
	x    *snap.Tx
	at   int
	over bool
	// own has what it has written; nil: gone.
	own map[string]*string
}

// newStore is a disk with a new store.
func newStore(t *testing.T, count, pages, frames int) *rig {
	t.Helper()
	d, e := disk.New(1 + count + pages)
	sure(t, "disk.New", e)
	sure(t, "Format", store.Format(d, count))
	r := &rig{t: t, d: d, count: count, pages: pages, frames: frames, states: []words{{}}, story: map[string][]made{}}
	r.opensStore()
	return r
}

// newRig is a new database.
func newRig(t *testing.T, count, pages, frames int) *rig {
	t.Helper()
	r := newStore(t, count, pages, frames)
	r.opens()
	return r
}

func (r *rig) opensStore() {
	r.t.Helper()
	s, e := store.Open(r.d, r.count, r.frames)
	sure(r.t, "store.Open", e)
	r.s = s
}

// opens opens the database of the store, and sees that it is what it was behind the last commit; false: the power has gone off.
func (r *rig) opens() bool {
	r.t.Helper()
	db, e := snap.Open(r.s)
	if (db != nil) != (e == api.OK) {
		r.t.Fatalf("Open: a database %v, error %d", db != nil, e)
	}
	if !r.did("Open", e, api.OK) {
		return false
	}
	r.db, r.open = db, nil
	if r.doubt != nil && int(db.Last()) == len(r.states) {
		r.committed(r.doubt)
	}
	r.doubt = nil
	if r.swept {
		n, e := db.Versions()
		if n > r.versions || n < r.needed() {
			r.t.Fatalf("behind a Sweep in which the power went off there are %d versions, of %d, error %d", n, r.versions, e)
		}
		r.versions, r.swept = n, false
	}
	r.sees()
	return true
}

// restarts turns the power off and on, keeps some of the writes on their way, and opens all again.
func (r *rig) restarts(keep []bool) {
	r.t.Helper()
	answers(r.t, "Restart", r.d.Restart(keep), api.OK)
	r.opensStore()
	r.opens()
}

// now is what is there.
func (r *rig) now() words { return r.states[len(r.states)-1] }

// committed minds what a commit has made of the keys.
func (r *rig) committed(own map[string]*string) {
	next := maps.Clone(r.now())
	for k, v := range own {
		delete(next, k)
		if v != nil {
			next[k] = *v
		}
		r.story[k] = append(r.story[k], made{len(r.states), v == nil})
	}
	r.states = append(r.states, next)
	r.versions += len(own)
}

// needed is how many versions there are at least: those that somebody sees, but for deletions that hide nothing.
func (r *rig) needed() int {
	moments := []int{len(r.states) - 1}
	for _, w := range r.open {
		moments = append(moments, w.at)
	}
	slices.Sort(moments)
	n := 0
	for _, l := range r.story {
		kept := map[int]bool{}
		for _, moment := range moments {
			seen := made{gone: true}
			for _, v := range l {
				if v.number <= moment {
					seen = v
				}
			}
			if !seen.gone || len(kept) > 0 {
				kept[seen.number] = true
			}
		}
		n += len(kept)
	}
	return n
}

// sees sees that the database, and each open transaction, tells what it is to tell.
func (r *rig) sees() {
	r.t.Helper()
	if r.db.Last() != uint64(len(r.states)-1) || r.db.Live() != len(r.open) {
		r.t.Fatalf("Last = %d, Live = %d, want %d, %d", r.db.Last(), r.db.Live(), len(r.states)-1, len(r.open))
	}
	if n, e := r.db.Versions(); n != r.versions || e != api.OK {
		r.t.Fatalf("Versions = %d, error %d, want %d", n, e, r.versions)
	}
	for _, w := range r.open {
		w.tells()
		w.scan("", "")
	}
	if len(r.open) < api.MaxOpen {
		r.seesNow()
	}
	if _, _, e := tree.On(r.s).Check(); e != api.OK || r.s.InTx() {
		r.t.Fatalf("the tree: error %d; in a transaction: %v", e, r.s.InTx())
	}
}

// seesNow sees what is there, by a transaction of its own.
func (r *rig) seesNow() {
	r.t.Helper()
	w := r.begin()
	w.scan("", "")
	for k := range r.story {
		w.get(k)
	}
	w.abort()
}

// did sees that a call has answered what it is to answer; false: the power has gone off in it.
func (r *rig) did(what string, e, want api.Errno) bool {
	r.t.Helper()
	if e == api.ErrCrash && !r.d.On() {
		return false
	}
	if e != want || !r.d.On() {
		r.t.Fatalf("%s: error %d, want %d; the power is on: %v", what, e, want, r.d.On())
	}
	return true
}

func (r *rig) begin() *twin {
	r.t.Helper()
	x, e := r.db.Begin()
	if x == nil || e != api.OK {
		r.t.Fatalf("Begin with %d open: a transaction %v, error %d", len(r.open), x != nil, e)
	}
	w := &twin{r: r, x: x, at: len(r.states) - 1, own: map[string]*string{}}
	r.open = append(r.open, w)
	w.tells()
	return w
}

// sweep takes versions away; false: the power has gone off.
func (r *rig) sweep(most int) bool {
	r.t.Helper()
	want := min(most, r.versions-r.needed())
	n, e := r.db.Sweep(most)
	if !r.did("Sweep", e, api.OK) {
		r.swept = true
		return false
	}
	if n != want {
		r.t.Fatalf("Sweep(%d) = %d of %d versions, %d of which are needed", most, n, r.versions, r.needed())
	}
	r.versions -= n
	return true
}

// tells sees that a transaction's At and Wrote are as they are to be.
func (w *twin) tells() {
	w.r.t.Helper()
	if w.x.At() != uint64(w.at) || w.x.Wrote() != (len(w.own) > 0) {
		w.r.t.Fatalf("At = %d, Wrote = %v, want %d, %v", w.x.At(), w.x.Wrote(), w.at, len(w.own) > 0)
	}
}

// view is what a transaction sees.
func (w *twin) view() words {
	out := maps.Clone(w.r.states[w.at])
	for k, v := range w.own {
		delete(out, k)
		if v != nil {
			out[k] = *v
		}
	}
	return out
}

func (w *twin) get(key string) {
	w.r.t.Helper()
	want, there := w.view()[key]
	got, e := w.x.Get([]byte(key))
	wantE := api.OK
	if !there {
		wantE = api.ErrNone
	}
	if e != api.OK && got != nil {
		w.r.t.Fatalf("Get(%q) = %q beside error %d", key, got, e)
	}
	if w.r.did(fmt.Sprintf("Get(%q)", key), e, wantE) && string(got) != want {
		w.r.t.Fatalf("Get(%q) = %q, want %q", key, got, want)
	}
}

func (w *twin) scan(from, to string) {
	w.r.t.Helper()
	want := w.view().cells(from, to)
	got, e := w.x.Scan([]byte(from), []byte(to))
	if e != api.OK && got != nil {
		w.r.t.Fatalf("Scan(%q, %q) = %q beside error %d", from, to, got, e)
	}
	if w.r.did("Scan", e, api.OK) && !same(got, want) {
		w.r.t.Fatalf("Scan(%q, %q) = %q, want %q", from, to, got, want)
	}
}

func (w *twin) put(key, value string) {
	w.r.t.Helper()
	if w.r.did(fmt.Sprintf("Put(%q)", key), w.x.Put([]byte(key), []byte(value)), api.OK) {
		w.own[key] = &value
	}
	w.tells()
}

func (w *twin) del(key string) {
	w.r.t.Helper()
	if w.r.did(fmt.Sprintf("Del(%q)", key), w.x.Del([]byte(key)), api.OK) {
		w.own[key] = nil
	}
	w.tells()
}

// ends sees that a transaction is over, by a call that must have ended it.
func (w *twin) ends() {
	w.r.t.Helper()
	w.over = true
	w.r.open = slices.DeleteFunc(w.r.open, func(other *twin) bool { return other == w })
	w.isOver()
}

// clashes: has a commit that the transaction doesn't see written a key that it has?
func (w *twin) clashes() bool {
	for k := range w.own {
		for _, v := range w.r.story[k] {
			if v.number > w.at {
				return true
			}
		}
	}
	return false
}

// commit sees that a commit answers what it is to answer; true: it is there.
func (w *twin) commit() bool {
	w.r.t.Helper()
	number, want := len(w.r.states), api.OK
	switch {
	case len(w.own) == 0:
		number = w.at
	case w.clashes():
		number, want = 0, api.ErrClash
	}
	n, e := w.x.Commit()
	defer w.ends()
	if e != api.OK && n != 0 {
		w.r.t.Fatalf("Commit = %d beside error %d", n, e)
	}
	if !w.r.did("Commit", e, want) {
		w.r.doubt = w.own
		return false
	}
	if n != uint64(number) {
		w.r.t.Fatalf("Commit = %d, want %d", n, number)
	}
	if e == api.OK && len(w.own) > 0 {
		w.r.committed(w.own)
	}
	return e == api.OK
}

// commitFull is commit of one that clashes with nobody, where there may be no room.
func (w *twin) commitFull() bool {
	w.r.t.Helper()
	n, e := w.x.Commit()
	defer w.ends()
	if e == api.ErrFull && n == 0 {
		return false
	}
	if !w.r.did("Commit", e, api.OK) {
		w.r.doubt = w.own
		return false
	}
	if n != uint64(len(w.r.states)) {
		w.r.t.Fatalf("Commit = %d, want %d", n, len(w.r.states))
	}
	w.r.committed(w.own)
	return true
}

func (w *twin) abort() {
	w.r.t.Helper()
	sure(w.r.t, "Abort", w.x.Abort())
	w.ends()
}

// isOver sees that all calls of a transaction that is over answer ErrState, and what it tells still.
func (w *twin) isOver() {
	w.r.t.Helper()
	for _, key := range []string{"", "a", longest + "k"} {
		b, e := w.x.Get([]byte(key))
		if b != nil || e != api.ErrState {
			w.r.t.Errorf("Get of one that is over = %q, error %d", b, e)
		}
		answers(w.r.t, "Put of one that is over", w.x.Put([]byte(key), nil), api.ErrState)
		answers(w.r.t, "Del of one that is over", w.x.Del([]byte(key)), api.ErrState)
		l, e := w.x.Scan([]byte(key), nil)
		if l != nil || e != api.ErrState {
			w.r.t.Errorf("Scan of one that is over = %q, error %d", l, e)
		}
	}
	answers(w.r.t, "Put of a long value of one that is over", w.x.Put(nil, []byte(largest+"v")), api.ErrState)
	n, e := w.x.Commit()
	if n != 0 || e != api.ErrState {
		w.r.t.Errorf("Commit of one that is over = %d, error %d", n, e)
	}
	answers(w.r.t, "Abort of one that is over", w.x.Abort(), api.ErrState)
	w.tells()
}

// within does something in a transaction of its own, that is committed.
func (r *rig) within(does func(w *twin)) {
	r.t.Helper()
	w := r.begin()
	does(w)
	if !w.commit() && r.d.On() {
		r.t.Fatal("a commit by itself clashes")
	}
}

// put commits keys that have one value.
func (r *rig) put(value string, keys ...string) {
	r.t.Helper()
	r.within(func(w *twin) {
		for _, k := range keys {
			w.put(k, value)
		}
	})
}

// del commits that keys are gone.
func (r *rig) del(keys ...string) {
	r.t.Helper()
	r.within(func(w *twin) {
		for _, k := range keys {
			w.del(k)
		}
	})
}

// turnOff turns a disk's power off.
func turnOff(t *testing.T, d *disk.Disk) {
	t.Helper()
	answers(t, "Arm", d.Arm(1), api.OK)
	answers(t, "Sync", d.Sync(), api.ErrCrash)
}
