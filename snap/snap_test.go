package snap_test

import (
	"bytes"
	"fmt"
	"strings"
	"testing"

	"muniment/api"
	"muniment/page"
	"muniment/probe"
	"muniment/snap"
	"muniment/store"
	"muniment/tree"
)

// P14.3: the document's example.
func TestExample(t *testing.T) {
	r := newRig(t, 40, 20, 4)
	c, a, b := r.begin(), r.begin(), r.begin()
	a.put("k", "a")
	b.put("k", "b")
	n, e := a.x.Commit()
	if n != 1 || e != api.OK {
		t.Errorf("A's Commit = %d, error %d", n, e)
	}
	if n, e := b.x.Commit(); n != 0 || e != api.ErrClash {
		t.Errorf("B's Commit = %d, error %d", n, e)
	}
	if p, e := c.x.Get([]byte("k")); p != nil || e != api.ErrNone {
		t.Errorf("C gets %q, error %d", p, e)
	}
}

// The limits are the document's.
func TestLimits(t *testing.T) {
	if snap.MaxKey != mostKey || snap.MaxValue != mostValue {
		t.Errorf("MaxKey = %d, MaxValue = %d", snap.MaxKey, snap.MaxValue)
	}
}

// P14.1: Open of a store without a tree makes one, durable; of one with a tree it changes nothing.
func TestOpen(t *testing.T) {
	r := newStore(t, 20, 6, 2)
	if _, _, e := tree.On(r.s).Check(); e != api.ErrNone {
		t.Fatalf("a new store has a tree: error %d", e)
	}
	r.opens()
	if n, pages, e := tree.On(r.s).Check(); n != 0 || pages != 2 || e != api.OK {
		t.Errorf("behind Open a tree of %d keys, %d pages, error %d", n, pages, e)
	}
	for range 3 {
		r.restarts(nil)
		ops := r.d.Ops()
		r.opens()
		if r.d.Ops() != ops {
			t.Error("Open of a store with a tree writes")
		}
		r.put("1", "a", "b")
		r.del("a")
	}
}

// P14.1: Open of a store whose tree somebody else has made, with nothing in it.
func TestOpenTree(t *testing.T) {
	r := newStore(t, 20, 6, 2)
	_, e := r.s.Begin()
	sure(t, "Begin", e)
	sure(t, "Create", tree.On(r.s).Create())
	sure(t, "Commit", r.s.Commit())
	r.opens()
	r.put("1", "a")
	r.restarts(nil)
	r.get("a")
}

// get asks for a key by a transaction of its own.
func (r *rig) get(key string) {
	r.t.Helper()
	w := r.begin()
	w.get(key)
	w.abort()
}

// P14.1: Open answers the store's errors and the tree's: of a nil store, with the power off, of too few pages, of pages that are no tree; without a tree, while a transaction is open, that one stays.
func TestOpenErrors(t *testing.T) {
	refused := func(what string, s *store.Store, want api.Errno) {
		t.Helper()
		db, e := snap.Open(s)
		if db != nil || e != want {
			t.Errorf("Open of %s: a database %v, error %d, want %d", what, db != nil, e, want)
		}
	}
	refused("a nil store", nil, api.ErrNone)
	for pages := 1; pages <= 2; pages++ {
		r := newStore(t, 16, pages, 2)
		refused(fmt.Sprint("a store of ", pages), r.s, api.ErrFull)
		if r.s.InTx() {
			t.Error("behind Open that is refused a transaction is open")
		}
	}
	sure(t, "Check", func() api.Errno { _, _, e := tree.On(newRig(t, 16, 3, 2).s).Check(); return e }())

	r := newStore(t, 16, 6, 2)
	_, e := r.s.Begin()
	sure(t, "Begin", e)
	refused("a store in a transaction", r.s, api.ErrState)
	if !r.s.InTx() {
		t.Error("Open has ended a transaction that it hasn't begun")
	}
	sure(t, "Abort", r.s.Abort())
	r.opens()

	turnOff(t, r.d)
	refused("a store that is off", r.s, api.ErrCrash)

	r = newStore(t, 16, 6, 2)
	_, e = r.s.Begin()
	sure(t, "Begin", e)
	sure(t, "Write", r.s.Write(0, bytes.Repeat([]byte{7}, page.Body)))
	sure(t, "Commit", r.s.Commit())
	refused("a store that has no tree's pages", r.s, api.ErrForm)
}

// P14.1: Begin with so many open, up to MaxOpen; Live and Last tell.
func TestBegin(t *testing.T) {
	r := newRig(t, 40, 20, 4)
	for range 3 {
		for n := range api.MaxOpen {
			if r.db.Live() != n {
				t.Fatalf("with %d open Live = %d", n, r.db.Live())
			}
			r.begin()
		}
		for range 3 {
			x, e := r.db.Begin()
			if x != nil || e != api.ErrFull {
				t.Fatalf("Begin with MaxOpen open: a transaction %v, error %d", x != nil, e)
			}
			r.sees()
		}
		// One less is room for one.
		r.open[5].abort()
		r.begin().put("k", "v")
		if x, e := r.db.Begin(); x != nil || e != api.ErrFull {
			t.Fatalf("Begin with MaxOpen open again: error %d", e)
		}
		for len(r.open) > 0 {
			w := r.open[len(r.open)-1]
			if len(r.open)%2 == 0 {
				w.commit()
			} else {
				w.abort()
			}
			r.sees()
		}
	}
}

// keyEdges are keys at the edges that the document names.
var keyEdges = []string{"", "\x00", "\x00\x00", "\x00\x01", "\x00\xff", "\x01", "a", "a\x00", "a\x00b", "aa", "b", "\xff", "\xff\x00", "\xff\xff", longest, longest[1:] + "\xff", strings.Repeat("\x00", 39) + "k", strings.Repeat("\x00", 39), "k" + strings.Repeat("\x00", 39), strings.Repeat("\xff", mostKey)}

// P14.2: Get, Put and Del of keys at the edges, put, deleted and put again, within one transaction and in several.
func TestKeys(t *testing.T) {
	r := newRig(t, 120, 200, 4)
	all := func(does func(w *twin, k string)) {
		t.Helper()
		w := r.begin()
		for _, k := range keyEdges {
			does(w, k)
			w.get(k)
		}
		w.scan("", "")
		w.commit()
		r.sees()
	}
	all(func(w *twin, k string) {})
	all(func(w *twin, k string) { w.put(k, "1"+k[:min(len(k), 9)]) })
	all(func(w *twin, k string) { w.del(k); w.get(k); w.put(k, "2") })
	all(func(w *twin, k string) { w.put(k, "3"); w.put(k, "") })
	all(func(w *twin, k string) { w.put(k, "4"); w.del(k) })
	all(func(w *twin, k string) { w.del(k) })
	all(func(w *twin, k string) { w.put(k, "5") })
	all(func(w *twin, k string) { w.del(k) })
	all(func(w *twin, k string) { w.del(k); w.put(k, "6"); w.del(k); w.put(k, largest) })
	r.restarts(nil)
	for _, k := range keyEdges {
		r.get(k)
	}
}

// P14.2: keys of as many bytes as there may be, noughts counted twice, and of more: Get, Put and Del answer ErrLong, and nothing was written.
func TestLongKeys(t *testing.T) {
	r := newRig(t, 60, 30, 4)
	for _, c := range []struct {
		others, noughts int
		want            api.Errno
	}{
		{mostKey, 0, api.OK}, {mostKey + 1, 0, api.ErrLong}, {mostKey - 2, 1, api.OK}, {mostKey - 1, 1, api.ErrLong},
		{1, 39, api.OK}, {2, 39, api.ErrLong}, {0, 39, api.OK}, {0, 40, api.ErrLong}, {mostKey - 4, 2, api.OK}, {mostKey - 3, 2, api.ErrLong},
		{api.MaxKey, 0, api.ErrLong}, {256, 0, api.ErrLong}, {0, 256, api.ErrLong}, {300000, 300000, api.ErrLong},
	} {
		for _, key := range []string{strings.Repeat("x", c.others) + strings.Repeat("\x00", c.noughts), strings.Repeat("\x00", c.noughts) + strings.Repeat("x", c.others)} {
			w := r.begin()
			if c.want == api.OK {
				w.get(key)
				w.put(key, largest)
				w.get(key)
				w.commit()
				r.get(key)
				r.del(key)
				continue
			}
			b, e := w.x.Get([]byte(key))
			if b != nil || e != api.ErrLong {
				t.Errorf("Get of a key of %d and %d bytes = %q, error %d", c.others, c.noughts, b, e)
			}
			answers(t, "Put of a long key", w.x.Put([]byte(key), nil), api.ErrLong)
			answers(t, "Put of a long key and value", w.x.Put([]byte(key), []byte(largest+"v")), api.ErrLong)
			answers(t, "Del of a long key", w.x.Del([]byte(key)), api.ErrLong)
			w.tells()
			w.scan("", "")
			w.commit()
		}
	}
	r.sees()
}

// P14.2: values of no byte, of as many as there may be, and of more: ErrLong, and the key is as it was.
func TestValues(t *testing.T) {
	r := newRig(t, 60, 40, 4)
	for _, n := range []int{0, 1, mostValue - 1, mostValue} {
		r.put(strings.Repeat("\x00\x01v", n)[:n], "k", longest)
		r.get("k")
		r.get(longest)
	}
	for _, n := range []int{mostValue + 1, mostValue + 2, 255, 256, 512, 300000} {
		w := r.begin()
		answers(t, "Put of a long value", w.x.Put([]byte("k"), make([]byte, n)), api.ErrLong)
		w.tells()
		w.get("k")
		w.put("k", "v")
		answers(t, "Put of a long value", w.x.Put([]byte("k"), make([]byte, n)), api.ErrLong)
		w.get("k")
		w.commit()
	}
	r.sees()
}

// P14.2: Scan from each place to each place, over what was committed and what the transaction itself has put and deleted.
func TestScan(t *testing.T) {
	places := append([]string{"a\x00\x00", "ab", "\x00\x00\x00", "\xfe", "\xff\xff\xff", longest + "k", strings.Repeat("\x00", 90), strings.Repeat("z", 300)}, keyEdges...)
	scans := func(w *twin) {
		t.Helper()
		for _, from := range places {
			for _, to := range places {
				w.scan(from, to)
			}
		}
	}
	r := newRig(t, 90, 90, 8)
	scans(r.begin())
	r.put("1", keyEdges[:14]...)
	r.put("2", keyEdges[3:18]...)
	r.del(keyEdges[5:8]...)
	scans(r.begin())
	w := r.begin()
	for i, k := range keyEdges {
		switch i % 4 {
		case 0:
			w.put(k, "3")
		case 1:
			w.del(k)
		}
	}
	w.put("ab", "")
	w.put("zz", "z")
	w.del("zz")
	scans(w)
	// What the others see stays, and so does what this one sees.
	r.put("4", keyEdges[2:9]...)
	for _, w := range r.open {
		scans(w)
	}
}

// P14.3: Commit of one that has written nothing, before and behind the commits of others; of one that has written.
func TestCommit(t *testing.T) {
	r := newRig(t, 40, 20, 4)
	idle, reads := r.begin(), r.begin()
	reads.get("a")
	reads.scan("", "")
	ops := r.d.Ops()
	r.begin().commit()
	if r.d.Ops() != ops {
		t.Error("Commit of one that has written nothing writes")
	}
	r.put("1", "a")
	r.put("2", "b")
	reads.get("a")
	idle.commit()
	reads.commit()
	r.begin().commit()
	r.sees()
	// A Del of a key that isn't there has written too.
	r.del("none")
	if r.db.Last() != 3 {
		t.Errorf("behind three commits Last = %d", r.db.Last())
	}
	w := r.begin()
	w.put("c", "3")
	w.del("c")
	w.commit()
	r.sees()
	for range 300 {
		w := r.begin()
		w.put("n", fmt.Sprint(len(r.states)))
		w.commit()
		r.sweep(9)
	}
	r.restarts(nil)
}

// P14.3: which keys clash: those that were put, or deleted, there or not, by a commit behind the beginning.
func TestClash(t *testing.T) {
	const puts, dels, both, none = 0, 1, 2, 3
	writes := func(w *twin, what int) {
		switch what {
		case puts:
			w.put("k", "new")
		case dels:
			w.del("k")
		case both:
			w.put("k", "new")
			w.del("k")
		}
	}
	for _, there := range []bool{false, true} {
		for first := puts; first <= none; first++ {
			for second := puts; second <= none; second++ {
				for _, sweeps := range []bool{false, true} {
					r := newRig(t, 40, 20, 4)
					if there {
						r.put("old", "k")
					}
					r.put("1", "a")
					w, v := r.begin(), r.begin()
					writes(w, first)
					writes(v, second)
					w.put("w", "w")
					v.put("v", "v")
					if !w.commit() {
						t.Fatal("the first one clashes")
					}
					if sweeps {
						r.sweep(99)
					}
					if got, want := v.commit(), first == none || second == none; got != want {
						t.Errorf("%d behind %d is committed: %v", second, first, got)
					}
					r.sees()
					// Whoever begins behind it doesn't clash.
					r.within(func(w *twin) { w.put("k", "again") })
				}
			}
		}
	}
}

// P14.3: a commit that clashes has written nothing at all, and is no commit that others clash with.
func TestClashWritesNothing(t *testing.T) {
	r := newRig(t, 40, 20, 4)
	w, v, u := r.begin(), r.begin(), r.begin()
	w.put("k", "1")
	v.put("k", "2")
	v.put("a", "2")
	v.del("b")
	u.put("a", "3")
	u.put("b", "3")
	ops := -1
	if w.commit() {
		ops = r.d.Ops()
	}
	if v.commit() || r.d.Ops() != ops {
		t.Error("a commit that clashes writes")
	}
	r.sees()
	if !u.commit() {
		t.Error("a commit clashes with one that wasn't committed")
	}
	x := r.begin()
	x.put("k", "4")
	x.abort()
	r.sees()
}

// P14.3: that it clashes goes ahead of that there is no room, and of that the power is off.
func TestClashFirst(t *testing.T) {
	for _, off := range []bool{false, true} {
		r := newRig(t, 16, 30, 4)
		w, v, u := r.begin(), r.begin(), r.begin()
		w.put("k", "1")
		for i := range 60 {
			v.put(fmt.Sprint(i), largest)
			u.put(fmt.Sprint(i), largest)
		}
		v.put("k", "2")
		w.commit()
		if off {
			turnOff(t, r.d)
		}
		if n, e := v.x.Commit(); n != 0 || e != api.ErrClash {
			t.Errorf("Commit = %d, error %d", n, e)
		}
		want := api.ErrFull
		if off {
			want = api.ErrCrash
		}
		if n, e := u.x.Commit(); n != 0 || e != want {
			t.Errorf("Commit = %d, error %d, want %d", n, e, want)
		}
	}
}

// P14.3: Abort of one that has written, and of one that hasn't; what it has written is nowhere.
func TestAbort(t *testing.T) {
	r := newRig(t, 40, 20, 4)
	r.put("1", "a", "b")
	ops := r.d.Ops()
	w, v := r.begin(), r.begin()
	w.put("a", "2")
	w.del("b")
	w.put("c", "2")
	w.abort()
	r.begin().abort()
	r.sees()
	if r.d.Ops() != ops {
		t.Error("Abort writes")
	}
	v.put("a", "3")
	v.del("b")
	if !v.commit() {
		t.Error("a commit clashes with one that was aborted")
	}
	r.restarts(nil)
}

// P14.3: the store's error, and the transaction is over: in a transaction of the store that somebody else has begun.
func TestStoreError(t *testing.T) {
	r := newRig(t, 40, 20, 4)
	r.put("1", "a")
	w := r.begin()
	w.put("a", "2")
	_, e := r.s.Begin()
	sure(t, "Begin", e)
	if n, e := w.x.Commit(); n != 0 || e != api.ErrState {
		t.Errorf("Commit = %d, error %d", n, e)
	}
	w.ends()
	if !r.s.InTx() {
		t.Error("Commit has ended a transaction that it hasn't begun")
	}
	sure(t, "Abort", r.s.Abort())
	r.sees()
}

// P14.4 and the rules: what calls of nil objects answer.
func TestNil(t *testing.T) {
	var db *snap.DB
	for _, most := range []int{-1, 0, 1, 9} {
		if n, e := db.Sweep(most); n != 0 || e != api.ErrNone {
			t.Errorf("Sweep(%d) of none = %d, error %d", most, n, e)
		}
	}
	if x, e := db.Begin(); x != nil || e != api.ErrNone {
		t.Errorf("Begin of none: error %d", e)
	}
	if n, e := db.Versions(); n != 0 || e != api.ErrNone {
		t.Errorf("Versions of none = %d, error %d", n, e)
	}
	if db.Last() != 0 || db.Live() != 0 {
		t.Errorf("Last = %d, Live = %d of none", db.Last(), db.Live())
	}
	var x *snap.Tx
	for _, key := range [][]byte{nil, {}, []byte("a"), []byte(longest + "k")} {
		if b, e := x.Get(key); b != nil || e != api.ErrNone {
			t.Errorf("Get of none = %q, error %d", b, e)
		}
		answers(t, "Put of none", x.Put(key, key), api.ErrNone)
		answers(t, "Put of a long value of none", x.Put(key, []byte(largest+"v")), api.ErrNone)
		answers(t, "Del of none", x.Del(key), api.ErrNone)
		if l, e := x.Scan(key, key); l != nil || e != api.ErrNone {
			t.Errorf("Scan of none = %q, error %d", l, e)
		}
	}
	if n, e := x.Commit(); n != 0 || e != api.ErrNone {
		t.Errorf("Commit of none = %d, error %d", n, e)
	}
	answers(t, "Abort of none", x.Abort(), api.ErrNone)
	if x.At() != 0 || x.Wrote() {
		t.Errorf("At = %d, Wrote = %v of none", x.At(), x.Wrote())
	}
}

// Memory: what is handed in stays as it was, its spare room too, and isn't kept.
func TestHandedIn(t *testing.T) {
	r := newRig(t, 60, 60, 4)
	for k := range 40 {
		key, value := fmt.Sprintf("%03d", k*7%20), fmt.Sprintf("v%d", k)
		p, whole := probe.Roomy([]byte(key))
		v, wholeV := probe.Roomy([]byte(value))
		was, wasV := bytes.Clone(whole), bytes.Clone(wholeV)
		stays := func() {
			t.Helper()
			if !bytes.Equal(whole, was) || !bytes.Equal(wholeV, wasV) {
				t.Fatalf("what was handed in was changed: %q, %q", whole, wholeV)
			}
		}
		w := r.begin()
		answers(t, "Put", w.x.Put(p, v), api.OK)
		w.own[key] = &value
		if b, e := w.x.Get(p); string(b) != value || e != api.OK {
			t.Errorf("Get = %q, error %d", b, e)
		}
		if _, e := w.x.Scan(p, v); e != api.OK {
			t.Errorf("Scan: error %d", e)
		}
		if k%3 == 0 {
			answers(t, "Del", w.x.Del(p), api.OK)
			w.own[key] = nil
		}
		if k%2 == 0 {
			w.commit()
			stays()
		}
		stays()
		probe.Fill(p)
		probe.Fill(v)
		r.sees()
		if !w.over {
			w.commit()
		}
		r.sees()
	}
}

// Memory: what is answered may be written over, whether it was committed or is the transaction's own.
func TestAnswered(t *testing.T) {
	r := newRig(t, 60, 40, 4)
	r.put("old value", "a", "b", "c", "d")
	r.put("other", "b")
	w := r.begin()
	w.put("c", "own value")
	w.put("e", "")
	w.put("f", "own")
	w.del("d")
	made := func() [][]byte {
		var out [][]byte
		for _, k := range []string{"a", "b", "b", "c", "c", "e", "f"} {
			b, e := w.x.Get([]byte(k))
			answers(t, "Get", e, api.OK)
			out = append(out, b)
		}
		l, e := w.x.Scan(nil, nil)
		answers(t, "Scan", e, api.OK)
		for _, c := range l {
			out = append(out, c.Key, c.Value)
		}
		return out
	}
	if spoilt := probe.Spoilt(made); len(spoilt) != 0 {
		t.Errorf("answers that share memory: %v", spoilt)
	}
	l, _ := w.x.Scan(nil, nil)
	clear(l[:cap(l)])
	r.sees()
	w.commit()
	r.restarts(nil)
}

// P2: databases that were told the same are the same, page by page, whatever else was asked of them.
func TestSame(t *testing.T) {
	made := func(asks bool) *rig {
		r := newRig(t, 60, 60, 4)
		for i := range 40 {
			w := r.begin()
			for j := range i % 9 {
				w.put(fmt.Sprint("k", i*37%11, j), fmt.Sprint(i))
				w.del(fmt.Sprint("k", i*53%11, j))
			}
			if asks {
				r.begin().abort()
				r.sees()
			}
			w.commit()
			if i%5 == 0 {
				r.sweep(i)
			}
		}
		return r
	}
	a, b := made(false), made(true)
	for i := range a.pages {
		p, e := a.s.Read(i)
		q, e2 := b.s.Read(i)
		if !bytes.Equal(p, q) || e != api.OK || e2 != api.OK {
			t.Errorf("page %d isn't the same", i)
		}
	}
}
