package tree_test

import (
	"bytes"
	"fmt"
	"math"
	"strings"
	"testing"

	"muniment/api"
	"muniment/probe"
	"muniment/tree"
)

var (
	longest = strings.Repeat("k", api.MaxKey)
	largest = strings.Repeat("v", api.MaxValue)
)

// P13.1 to P13.3: the document's example.
func TestExample(t *testing.T) {
	r := grown(t, 40, 9, 4)
	r.begin()
	r.put("a", "1")
	r.put("b", "2")
	r.del("a")
	l, e := r.tr.Scan(nil, nil, 9)
	if e != api.OK || !same(l, []api.Cell{cell("b", "2")}) {
		t.Errorf("Scan = %q, error %d", l, e)
	}
	r.sees()
}

// P13.1: Create in stores that are too small, large enough, and without a transaction; that there are too few pages goes first.
func TestCreate(t *testing.T) {
	for pages := 1; pages <= 5; pages++ {
		r := newRig(t, 16, pages, 2)
		none := api.ErrState
		within := api.OK
		if pages < 3 {
			none, within = api.ErrFull, api.ErrFull
		}
		answers(t, fmt.Sprintf("Create in %d pages without a transaction", pages), r.tr.Create(), none)
		r.sees()
		r.begin()
		answers(t, fmt.Sprintf("Create in %d pages", pages), r.tr.Create(), within)
		if within == api.OK {
			r.now = words{}
		}
		if h := r.sees(); within == api.OK && (h.pages != 2 || h.next != 2 || h.free != 0) {
			t.Errorf("a new tree has %d pages, %d free, next is %d", h.pages, h.free, h.next)
		}
		if !r.s.InTx() {
			t.Error("behind Create no transaction is open")
		}
		r.commit()
		r.opens()
		answers(t, fmt.Sprintf("Create in %d pages behind the transaction", pages), r.tr.Create(), none)
		r.sees()
	}
}

// P13.1: Create where a tree is makes it an empty one.
func TestCreateAgain(t *testing.T) {
	r := grown(t, 60, 30, 4)
	for _, commits := range []bool{false, true} {
		for k := range 20 {
			r.within(func() { r.put(fmt.Sprint(k), largest) })
		}
		r.begin()
		r.create()
		if h := r.sees(); h.pages != 2 {
			t.Errorf("Create where a tree is: %d pages", h.pages)
		}
		if commits {
			r.commit()
		} else {
			r.abort()
		}
		r.sees()
	}
	for k := range 20 {
		r.within(func() { r.put(fmt.Sprint(k), largest) })
		r.sees()
	}
}

// P13.1: where there is no tree the calls answer ErrNone, or what is said to go first.
func TestNoTree(t *testing.T) {
	long, large := []byte(longest+"k"), []byte(largest+"v")
	for _, open := range []bool{false, true} {
		for _, kind := range []byte{api.Free, api.Leaf, api.Inner} {
			r := newRig(t, 16, 4, 2)
			if kind != api.Free {
				r.within(func() {
					r.lay(map[int]api.Page{0: {Kind: kind, Next: 1, Cells: headOf(1, 0, 2).Cells}, 1: {Kind: api.Leaf}})
				})
			}
			writes := api.ErrState
			if open {
				r.begin()
				writes = api.ErrNone
			}
			for _, key := range []string{"", "a", "free", longest, longest + "k"} {
				r.get0(key)
				answers(t, "Del without a tree", r.tr.Del([]byte(key)), writes)
			}
			answers(t, "Put without a tree", r.tr.Put([]byte("a"), nil), writes)
			answers(t, "Put without a tree, of the longest", r.tr.Put([]byte(longest), []byte(largest)), writes)
			answers(t, "Put without a tree, of a long key", r.tr.Put(long, nil), api.ErrLong)
			answers(t, "Put without a tree, of a long value", r.tr.Put(nil, large), api.ErrLong)
			for most := range 3 {
				l, e := r.tr.Scan(nil, nil, most)
				if l != nil || e != api.ErrNone {
					t.Errorf("Scan without a tree = %q, error %d", l, e)
				}
			}
			for _, most := range []int{-1, math.MinInt} {
				l, e := r.tr.Scan(nil, nil, most)
				if l != nil || e != api.ErrArg {
					t.Errorf("Scan of %d without a tree = %q, error %d", most, l, e)
				}
			}
			r.sees()
		}
	}
}

// get0 sees that there is no such key.
func (r *rig) get0(key string) {
	r.t.Helper()
	b, e := r.tr.Get([]byte(key))
	if b != nil || e != api.ErrNone {
		r.t.Errorf("Get(%.9q) = %q, error %d", key, b, e)
	}
}

// P13.2: Get of keys that are there, and that aren't: one that others begin with, or that begins with others, the empty one, one that is too long.
func TestGet(t *testing.T) {
	r := grown(t, 60, 20, 4)
	asked := []string{"", "\x00", "\x00\x00", "a", "aa", "ab", "b", "\xff", "\xff\xff", "\x7f", "\x80", longest, longest[1:], longest + "k", longest + longest, strings.Repeat("z", 300000)}
	for _, k := range asked {
		r.get(k)
	}
	for _, k := range []string{"", "\x00", "a", "ab", "\xff", "\x80", longest} {
		r.within(func() { r.put(k, "v"+k) })
		for _, k := range asked {
			r.get(k)
		}
	}
	r.within(func() { r.put("a", "") })
	for _, k := range asked {
		r.get(k)
	}
	for _, k := range []string{"a", "", longest, "\xff"} {
		r.within(func() { r.del(k) })
		for _, k := range asked {
			r.get(k)
		}
	}
}

// P13.2: Put of a new key, and of one that is there, with other values, in trees of one page and of many.
func TestPut(t *testing.T) {
	for _, many := range []int{0, 60} {
		r := grown(t, 90, 60, 4)
		for k := range many {
			r.within(func() { r.put(fmt.Sprintf("x%d", k), largest[:100]) })
		}
		values := []string{"", "v", "v", "w", "\x00", largest, largest, largest[1:], "", "vw", "\xff\x00"}
		for _, key := range []string{"", "k", "x3x", "x3", "zz", longest, "\x00", "\xff"} {
			for _, v := range values {
				r.begin()
				r.put(key, v)
				r.get(key)
				r.sees()
				r.commit()
				r.get(key)
			}
		}
		r.opens()
		for key := range r.now {
			r.get(key)
		}
	}
}

// P13.2: Put of keys and values that are as long as they may be, and one byte more; of two errors which goes first; what is refused changes nothing.
func TestPutLong(t *testing.T) {
	r := grown(t, 40, 12, 4)
	r.within(func() { r.put("a", "1") })
	for _, c := range []struct {
		key, value int
		want       api.Errno
	}{
		{0, 0, api.OK}, {api.MaxKey, 0, api.OK}, {0, api.MaxValue, api.OK}, {api.MaxKey, api.MaxValue, api.OK}, {1, 1, api.OK},
		{api.MaxKey + 1, 0, api.ErrLong}, {0, api.MaxValue + 1, api.ErrLong}, {api.MaxKey + 1, api.MaxValue + 1, api.ErrLong},
		{api.MaxKey, api.MaxValue + 1, api.ErrLong}, {api.MaxKey + 1, api.MaxValue, api.ErrLong},
		{256, 0, api.ErrLong}, {0, 256, api.ErrLong}, {512, 512, api.ErrLong}, {300000, 0, api.ErrLong}, {0, 300000, api.ErrLong},
	} {
		key, value := strings.Repeat("q", c.key), strings.Repeat("w", c.value)
		what := fmt.Sprintf("Put of %d and %d bytes", c.key, c.value)
		without := api.ErrState
		if c.want == api.ErrLong {
			without = api.ErrLong
		}
		answers(t, what+" without a transaction", r.tr.Put([]byte(key), []byte(value)), without)
		r.sees()
		r.begin()
		answers(t, what, r.tr.Put([]byte(key), []byte(value)), c.want)
		if c.want == api.OK {
			r.now[key] = value
		}
		r.sees()
		r.get(key)
		r.commit()
		r.sees()
	}
}

// P13.2: Del of a key that is there, of one that isn't, of the last one, and without a transaction, which goes first.
func TestDel(t *testing.T) {
	r := grown(t, 40, 12, 4)
	for _, k := range []string{"", "a", "ab", "\xff"} {
		r.within(func() { r.put(k, "v") })
	}
	for _, k := range []string{"", "a", "b", longest, longest + "k", strings.Repeat("k", 300000)} {
		answers(t, "Del without a transaction", r.tr.Del([]byte(k)), api.ErrState)
		r.sees()
	}
	for _, k := range []string{"b", "\x00", "aa", "abc", longest, longest + "k", strings.Repeat("k", 300000), "a", "a", "", "", "\xff", "ab", "ab", "", "a"} {
		r.begin()
		r.del(k)
		r.sees()
		r.get(k)
		r.commit()
		r.sees()
	}
	if len(r.now) != 0 {
		t.Fatalf("%d keys are left", len(r.now))
	}
	r.within(func() { r.put("a", "2") })
	r.sees()
}

// P13.3: Scan from each place to each place, of each number, in trees of one leaf and of more levels.
func TestScan(t *testing.T) {
	keys := []string{"", "\x00", "\x00\x00", "\x00\xff", "a", "a\x00", "aa", "b", "b\xff", "b\xff\xff", "\xff", "\xff\x00", "\xff\xff"}
	places := append([]string{"\x01", "a\x00\x00", "ab", "\xfe", "\xff\xff\xff", longest, longest + "k"}, keys...)
	for _, size := range []int{1, api.MaxValue} {
		for _, there := range [][]string{nil, keys[:1], keys[4:5], keys, keys[3:11]} {
			r := grown(t, 60, 40, 4)
			for _, k := range there {
				r.within(func() { r.put(k, largest[:size]) })
			}
			for _, from := range places {
				for _, to := range places {
					for _, most := range []int{0, 1, 2, len(there), len(there) + 1, math.MaxInt} {
						r.scan(from, to, most)
					}
				}
			}
			for _, most := range []int{-1, -2, math.MinInt} {
				l, e := r.tr.Scan([]byte("a"), nil, most)
				if l != nil || e != api.ErrArg {
					t.Errorf("Scan of %d = %q, error %d", most, l, e)
				}
			}
		}
	}
}

// P13.3: Scan in a tree of many levels: from and to at each key, and beside it, of a few.
func TestScanDeep(t *testing.T) {
	r := grown(t, 90, 200, 8)
	for k := range 120 {
		r.within(func() { r.put(deepKey(2*k), largest) })
	}
	if h := r.sees(); h.levels < 4 {
		t.Fatalf("only %d levels", h.levels)
	}
	for k := range 240 {
		for _, most := range []int{0, 1, 2, 3, 7, 120, 121} {
			r.scan(deepKey(k), "", most)
			r.scan("", deepKey(k), most)
			r.scan(deepKey(k), deepKey(k+5), most)
			r.scan(deepKey(k), deepKey(239), most)
			r.scan(deepKey(k), deepKey(k-1), most)
		}
	}
}

// deepKey is one of the longest keys, which stand as their numbers do.
func deepKey(k int) string { return fmt.Sprintf("%0*d", api.MaxKey, k) }

// P13.1 to P13.4: what calls of a nil tree, and of the tree of a nil store, answer.
func TestNil(t *testing.T) {
	var none *tree.Tree
	for what, tr := range map[string]*tree.Tree{"nil": none, "of a nil store": tree.On(nil)} {
		answers(t, what+": Create", tr.Create(), api.ErrNone)
		for _, key := range [][]byte{nil, {}, []byte("a"), []byte(longest)} {
			b, e := tr.Get(key)
			if b != nil || e != api.ErrNone {
				t.Errorf("%s: Get = %q, error %d", what, b, e)
			}
			answers(t, what+": Put", tr.Put(key, key), api.ErrNone)
			answers(t, what+": Del", tr.Del(key), api.ErrNone)
			l, e := tr.Scan(key, key, 9)
			if l != nil || e != api.ErrNone {
				t.Errorf("%s: Scan = %q, error %d", what, l, e)
			}
		}
		keys, pages, e := tr.Check()
		if keys != 0 || pages != 0 || e != api.ErrNone {
			t.Errorf("%s: Check = %d, %d, error %d", what, keys, pages, e)
		}
		// Of a nil object ErrNone is answered, whatever else applies.
		answers(t, what+": Put of a long key", tr.Put([]byte(longest+"k"), nil), api.ErrNone)
		answers(t, what+": Put of a long value", tr.Put(nil, []byte(largest+"v")), api.ErrNone)
		answers(t, what+": Del of a long key", tr.Del([]byte(longest+"k")), api.ErrNone)
		l, e := tr.Scan(nil, nil, -1)
		if l != nil || e != api.ErrNone {
			t.Errorf("%s: Scan of -1 = %q, error %d", what, l, e)
		}
	}
}

// Memory: what is handed in stays as it was, its spare room too, and isn't kept.
func TestHandedIn(t *testing.T) {
	r := grown(t, 60, 30, 4)
	for k := range 40 {
		key, value := fmt.Sprintf("%03d", k*7%40), fmt.Sprintf("v%d", k)+largest[:90]
		p, whole := probe.Roomy([]byte(key))
		v, wholeV := probe.Roomy([]byte(value))
		was, wasV := bytes.Clone(whole), bytes.Clone(wholeV)
		r.begin()
		answers(t, "Put", r.tr.Put(p, v), api.OK)
		r.now[key] = value
		got, e := r.tr.Get(p)
		if string(got) != value || e != api.OK {
			t.Errorf("Get = %q, error %d", got, e)
		}
		if _, e := r.tr.Scan(p, v, 3); e != api.OK {
			t.Errorf("Scan: error %d", e)
		}
		if k%3 == 0 {
			answers(t, "Del", r.tr.Del(p), api.OK)
			delete(r.now, key)
		}
		if !bytes.Equal(whole, was) || !bytes.Equal(wholeV, wasV) {
			t.Fatalf("what was handed in was changed: %q, %q", whole, wholeV)
		}
		probe.Fill(p)
		probe.Fill(v)
		r.sees()
		r.commit()
		r.sees()
	}
}

// Memory: what is answered may be written over.
func TestAnswered(t *testing.T) {
	for _, many := range []int{3, 40} {
		r := grown(t, 60, 30, 4)
		for k := range many {
			r.within(func() { r.put(fmt.Sprintf("%03d", k), fmt.Sprintf("v%d", k)+largest[:90]) })
		}
		made := func() [][]byte {
			var out [][]byte
			for _, k := range []string{"000", "001", "001", "002"} {
				b, e := r.tr.Get([]byte(k))
				answers(t, "Get", e, api.OK)
				out = append(out, b)
			}
			l, e := r.tr.Scan(nil, nil, 100)
			answers(t, "Scan", e, api.OK)
			for _, c := range l {
				out = append(out, c.Key, c.Value)
			}
			return out
		}
		if spoilt := probe.Spoilt(made); len(spoilt) != 0 {
			t.Errorf("answers that share memory: %v", spoilt)
		}
		l, _ := r.tr.Scan(nil, nil, 2)
		clear(l[:cap(l)])
		r.sees()
	}
}

// P2: trees that were told the same are the same, page by page, whatever else was asked of them.
func TestSame(t *testing.T) {
	made := func(asks bool) *rig {
		r := grown(t, 60, 60, 4)
		for k := range 150 {
			key := fmt.Sprint(k * 37 % 101)
			r.within(func() {
				if k%4 == 3 {
					r.del(fmt.Sprint(k * 53 % 101))
				} else {
					r.put(key, largest[:k%150])
				}
				if asks {
					r.get(key)
					r.sees()
					r.tr = tree.On(r.s)
				}
			})
		}
		return r
	}
	a, b := made(false), made(true)
	if n := unlike(a.bytes(60), b.bytes(60)); n != 0 {
		t.Errorf("%d pages aren't the same", n)
	}
}

// P13.2: one store may have several trees on it: they are one.
func TestTwoOfOneStore(t *testing.T) {
	r := grown(t, 40, 20, 2)
	other := tree.On(r.s)
	for k := range 30 {
		r.begin()
		sure(t, "Put", other.Put([]byte(fmt.Sprint(k)), []byte(largest)))
		r.now[fmt.Sprint(k)] = largest
		r.sees()
		r.commit()
		r.tr, other = other, r.tr
	}
}

// P1: a store's own transaction doesn't end by the calls.
func TestInTx(t *testing.T) {
	r := grown(t, 40, 20, 2)
	calls := map[string]func(){
		"Put": func() { r.put("a", "1") }, "Del": func() { r.del("a") }, "Del of none": func() { r.del("b") },
		"Get": func() { r.get("a") }, "Scan": func() { r.scan("", "", 3) }, "Check": func() { r.sees() }, "Create": func() { r.create() },
	}
	for what, call := range calls {
		r.begin()
		call()
		if !r.s.InTx() {
			t.Errorf("behind %s no transaction is open", what)
		}
		r.abort()
		r.sees()
	}
}
