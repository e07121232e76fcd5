package tree_test

import (
	"fmt"
	"testing"

	"muniment/api"
)

// P13.2: Put where the store has no page more: ErrFull; behind the abort the tree is as it was, and goes on.
func TestNoPage(t *testing.T) {
	for _, size := range []int{0, 20, api.MaxValue} {
		for pages := 3; pages <= 24; pages++ {
			r := grown(t, 200, pages, 4)
			last := r.fills(size)
			if h := r.sees(); h.next < pages-3 || len(r.now) < 2 {
				t.Fatalf("%d pages are full with %d keys, next is %d", pages, len(r.now), h.next)
			}
			// What needs no page is done still.
			first := deepKey(0)
			r.within(func() { r.put(first, "") })
			r.within(func() { r.del(first) })
			r.sees()
			r.within(func() { r.put(first, "x") })
			r.sees()
			for k := range last {
				r.within(func() { r.del(deepKey(k)) })
			}
			if h := r.sees(); h.pages != 2 {
				t.Fatalf("with no key left there are %d pages", h.pages)
			}
			if again := r.fills(size); again != last {
				t.Errorf("%d keys have room in %d pages, then %d", last, pages, again)
			}
		}
	}
}

// fills puts keys, till there is no page more; how many.
func (r *rig) fills(size int) int {
	r.t.Helper()
	for k := 0; ; k++ {
		r.begin()
		e := r.tr.Put([]byte(deepKey(k)), []byte(largest[:size]))
		if e == api.OK {
			r.now[deepKey(k)] = largest[:size]
			r.commit()
			continue
		}
		answers(r.t, "Put where there is no page", e, api.ErrFull)
		r.abort()
		r.sees()
		return k
	}
}

// P13.2: the pages that are free are used, ahead of that there is none.
func TestFreeIsUsed(t *testing.T) {
	r := grown(t, 60, 3, 2)
	for round := range 9 {
		if got := r.fills(api.MaxValue); got != 2 {
			t.Fatalf("%d cells of 242 bytes have room in a store of three pages", got)
		}
		for k := range 2 {
			r.within(func() { r.del(deepKey(k)) })
		}
		if round == 5 {
			r.opens()
		}
	}
	// A root that parts takes two pages more.
	if got := grown(t, 60, 4, 2).fills(api.MaxValue); got != 3 {
		t.Errorf("%d cells of 242 bytes have room in a store of four pages", got)
	}
}

// P13.2: a leaf takes what has just room on it, where no page more is to be had: the root, and one of two.
func TestJustRoom(t *testing.T) {
	for _, c := range []struct{ pages, keys int }{{3, 2}, {4, 3}} {
		r := grown(t, 60, c.pages, 2)
		for k := range c.keys {
			r.within(func() { r.put(deepKey(k), largest) })
		}
		// With two cells of 242 bytes it has 498 of them; one more is too much.
		r.within(func() { r.put("x", largest[:11]) })
		r.sees()
		r.begin()
		answers(t, "Put of one byte too many", r.tr.Put([]byte("x"), []byte(largest[:12])), api.ErrFull)
		r.abort()
		r.sees()
	}
}

// P13.2: Put, and Del, where the log has no room more: ErrFull; behind the abort the tree is as it was, and goes on.
func TestNoLog(t *testing.T) {
	for _, count := range []int{16, 17, 20, 30} {
		for _, size := range []int{0, 20, api.MaxValue} {
			r := grown(t, count, 300, 4)
			for round := range 6 {
				puts := r.tillFull("Put", func(k int) api.Errno {
					return r.tr.Put([]byte(fmt.Sprintf("%d %d", round, k)), []byte(largest[:size]))
				})
				if puts < 2 {
					t.Fatalf("a log of %d sectors has room for %d Puts", count, puts)
				}
				// One less is a transaction that has room, and is committed.
				r.begin()
				for k := range puts - 1 {
					r.put(fmt.Sprintf("%d %d", round, k), largest[:size])
				}
				r.commit()
				r.sees()
				there := r.now.cells("", "", 1000)
				r.tillFull("Del", func(k int) api.Errno {
					// What was deleted comes again, so that there are keys enough.
					if k/len(there)%2 == 1 {
						return r.tr.Put(there[k%len(there)].Key, there[k%len(there)].Value)
					}
					return r.tr.Del(there[k%len(there)].Key)
				})
			}
			r.opens()
		}
	}
}

// tillFull does calls in a transaction, till the log has no room more; how many. It is aborted then.
func (r *rig) tillFull(what string, call func(k int) api.Errno) int {
	r.t.Helper()
	r.begin()
	for k := 0; ; k++ {
		e := call(k)
		if e == api.OK {
			continue
		}
		answers(r.t, what+" where the log has no room", e, api.ErrFull)
		if !r.s.InTx() {
			r.t.Errorf("behind ErrFull of %s no transaction is open", what)
		}
		r.abort()
		r.sees()
		return k
	}
}

// P13.1: Create where the log has no room more: the store's error, and there is no tree.
func TestCreateNoLog(t *testing.T) {
	r := newRig(t, 16, 6, 2)
	full := 0
	for size := 504; size > 0; size -= 3 {
		r.begin()
		for k := 0; r.s.Room() > 0; k++ {
			b := make([]byte, body)
			for i := range size {
				b[i] = byte(1 + k%2)
			}
			if e := r.s.Write(2, b); e != api.OK {
				break
			}
		}
		e := r.tr.Create()
		if e == api.OK {
			r.now = words{}
		} else {
			full++
			answers(t, "Create where the log has no room", e, api.ErrFull)
		}
		r.sees()
		r.abort()
		r.sees()
	}
	if full < 20 {
		t.Errorf("the log had room but for %d", full)
	}
}
