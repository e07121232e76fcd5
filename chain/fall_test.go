package chain_test

import (
	"slices"
	"testing"

	"muniment/api"
	"muniment/chain"
	"muniment/probe"
)

// comesBack turns the power off and on, with those of the writes on their way kept that are chosen, and sees that all is there.
func (r *rig) comesBack(keep ...bool) {
	r.t.Helper()
	sure(r.t, "Restart", r.d.Restart(keep))
	db, e := probe.OpenDB(r.d, logSize, 16)
	sure(r.t, "OpenDB", e)
	r.db = db
	r.sees()
}

// With the power off all is answered by an error, and nothing is told beside it.
func TestPowerOff(t *testing.T) {
	t.Parallel()
	for _, n := range []int{0, 1, 5} {
		r := newRig(t)
		r.within(func(w *twin) {
			for i := range n {
				w.add(some(i))
			}
		})
		w, own := r.begin(), r.begin()
		own.add(some(7))
		own.add(some(8))
		sure(t, "Arm", r.d.Arm(1))
		r.d.Sync()
		r.fails(w.x, api.ErrCrash)
		r.fails(own.x, api.ErrCrash)
		r.comesBack()
	}
}

// A commit of events in which the power goes off, at each operation and with each choice of the writes on their way: they are all there, or none is, and what stands there is right.
func TestFall(t *testing.T) {
	t.Parallel()
	whole, none := 0, 0
	for at := 1; ; at++ {
		fell := false
		for choice := 0; ; choice++ {
			r := newRig(t)
			r.within(func(w *twin) { w.add(some(1)) })
			w := r.begin()
			w.add(some(2))
			w.add(some(3))
			sure(t, "Arm", r.d.Arm(at))
			_, e := w.x.Commit()
			if e == api.OK {
				break
			}
			answers(t, "Commit", e, api.ErrCrash)
			fell = true
			choices := probe.Choices(r.d.Pending())
			if choice == len(choices) {
				break
			}
			sure(t, "Restart", r.d.Restart(choices[choice]))
			db, e := probe.OpenDB(r.d, logSize, 16)
			sure(t, "OpenDB", e)
			r.db = db
			back := r.begin()
			l, e := chain.List(back.x, 0, 9)
			sure(t, "List", e)
			switch {
			case slices.Equal(l, r.now):
				none++
			case slices.Equal(l, w.view):
				whole++
				r.now = w.view
			default:
				t.Fatalf("%d events are there behind a fall", len(l))
			}
			r.sees()
		}
		if !fell {
			break
		}
	}
	if whole == 0 || none == 0 {
		t.Errorf("%d falls have left all, %d none", whole, none)
	}
}

// P1: whatever stands under an event's key, all calls answer, and what isn't an event is told by ErrForm.
func TestSpoilt(t *testing.T) {
	t.Parallel()
	r := newRig(t)
	r.within(func(w *twin) {
		for n := range 4 {
			w.add(some(n + 40))
		}
	})
	w := r.begin()
	cells, e := w.x.Scan(nil, nil)
	sure(t, "Scan", e)
	if len(cells) != 4 {
		t.Fatalf("4 events are %d keys", len(cells))
	}
	for at, c := range cells {
		for n := range c.Value {
			for _, p := range [][]byte{c.Value[:n], append(append([]byte{}, c.Value[:n]...), 0xff), turned(c.Value, n)} {
				w := r.begin()
				sure(t, "Put", w.x.Put(c.Key, p))
				l, e := chain.List(w.x, 0, 9)
				if e == api.OK && chain.Verify(l) == -1 && len(l) > at && l[at] == r.now[at] {
					t.Errorf("event %d is as it was, though %x isn't", at+1, p)
				}
				if e != api.OK {
					answers(t, "List", e, api.ErrForm)
				}
				for _, v := range l {
					if !chain.Form(v) {
						t.Errorf("with %x under a key List tells %+v", p, v)
					}
				}
				chain.Last(w.x)
				chain.Add(w.x, some(1))
				sure(t, "Abort", w.x.Abort())
			}
		}
	}
}

func turned(p []byte, at int) []byte {
	out := slices.Clone(p)
	out[at] ^= 0x55
	return out
}

// P1: keys of events that nobody added, with numbers of all kinds.
func TestSpoiltNumbers(t *testing.T) {
	t.Parallel()
	r := newRig(t)
	r.within(func(w *twin) { w.add(some(1)) })
	w := r.begin()
	cells, e := w.x.Scan(nil, nil)
	sure(t, "Scan", e)
	key, value := cells[0].Key, cells[0].Value
	number := len(key) - 8
	for bit := range 64 {
		k := slices.Clone(key)
		k[number+7] = 0
		k[number+7-bit/8] |= 1 << (bit % 8)
		sure(t, "Put", w.x.Put(k, value))
	}
	for _, k := range [][]byte{key[:number], key[:number+7], append(slices.Clone(key), 1), append(slices.Clone(key[:number]), make([]byte, 8)...)} {
		sure(t, "Put", w.x.Put(k, value))
	}
	chain.Last(w.x)
	chain.Add(w.x, some(1))
	chain.List(w.x, 0, 99)
}
