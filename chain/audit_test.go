package chain_test

import (
	"fmt"
	"math"
	"math/rand"
	"slices"
	"testing"

	"muniment/api"
	"muniment/chain"
	"muniment/snap"
)

// P17.3: an audit of each length, added one by one, each in a transaction of its own, or in one.
func TestLengths(t *testing.T) {
	t.Parallel()
	one, many := newRig(t), newRig(t)
	all := one.begin()
	all.tells()
	for n := range 40 {
		many.sees()
		many.within(func(w *twin) {
			w.add(some(n))
			w.tells()
		})
		all.add(some(n))
		all.tells()
		one.sees()
	}
	all.commit()
	one.sees()
	many.sees()
	if !slices.Equal(one.now, many.now) {
		t.Error("the events hang on the transactions that add them")
	}
}

// P17.3: long audits, whose numbers have two bytes.
func TestLong(t *testing.T) {
	t.Parallel()
	r := newRig(t)
	for range 12 {
		r.within(func(w *twin) {
			for n := range 45 {
				w.add(some(n))
				w.last()
			}
		})
	}
	r.sees()
	w := r.begin()
	for _, from := range []uint64{254, 255, 256, 257, 511, 512, 513, 539, 540, 541} {
		for _, most := range []int{1, 2, 300} {
			w.list(from, most)
		}
	}
}

// P17.3: of the event that is handed in the number and the link don't count.
func TestAddTakes(t *testing.T) {
	t.Parallel()
	r := newRig(t)
	right, wrong := edges()
	for i := 0; i < len(right); i += 10 {
		r.within(func(w *twin) {
			for _, v := range right[i:min(i+10, len(right))] {
				v.Link = linkOf([32]byte{5}, v)
				w.add(v)
				v.Seq, v.Link = 0, [32]byte{}
				w.add(v)
			}
		})
	}
	r.within(func(w *twin) {
		for _, v := range wrong {
			if v.Seq == 0 && v.Verb != 0 {
				continue
			}
			w.refused(v, api.ErrForm)
		}
		w.tells()
	})
	r.sees()
}

// P17.3: a transaction sees what was there when it began, and its own; one that is aborted leaves nothing.
func TestMoments(t *testing.T) {
	t.Parallel()
	r := newRig(t)
	early := r.begin()
	r.within(func(w *twin) { w.add(some(1)) })
	middle, gone := r.begin(), r.begin()
	gone.add(some(2))
	gone.add(some(3))
	gone.tells()
	for _, w := range []*twin{early, middle} {
		w.tells()
	}
	r.sees()
	sure(t, "Abort", gone.x.Abort())
	r.sees()
	r.within(func(w *twin) {
		w.add(some(4))
		middle.tells()
		r.sees()
	})
	for _, w := range []*twin{early, middle} {
		w.tells()
		if !w.commit() {
			t.Error("one that only reads clashes")
		}
	}
	r.sees()
}

// P17.4: two that overlap and both add clash, whatever they add, and whichever began or commits first; one that only reads doesn't.
func TestClash(t *testing.T) {
	t.Parallel()
	for _, there := range []int{0, 1, 3, 8} {
		for choice := range 16 {
			r := newRig(t)
			if there > 0 {
				r.within(func(w *twin) {
					for n := range there {
						w.add(some(n))
					}
				})
			}
			l := []*twin{r.begin(), r.begin()}
			for i, w := range l {
				for range 1 + choice>>i&1*3 {
					w.add(some(i + choice>>2&1))
				}
			}
			reads := r.begin()
			first, second := l[choice>>3], l[1-choice>>3]
			if !first.commit() || second.commit() {
				t.Errorf("%d there, choice %d: both are committed, or none", there, choice)
			}
			reads.tells()
			if !reads.commit() {
				t.Error("one that only reads clashes")
			}
			r.sees()
			r.within(func(w *twin) { w.add(some(9)) })
			r.sees()
		}
	}
}

// P17.4: it clashes with one that began later, or ended ahead of others; not with one that was aborted, or committed ahead of it.
func TestClashAmong(t *testing.T) {
	t.Parallel()
	r := newRig(t)
	r.within(func(w *twin) { w.add(some(0)) })
	first := r.begin()
	first.add(some(1))
	r.within(func(w *twin) { w.add(some(2)) })
	r.within(func(w *twin) { w.add(some(3)) })
	if first.commit() {
		t.Error("it is committed, though two others were")
	}
	first, second := r.begin(), r.begin()
	first.add(some(4))
	second.add(some(5))
	sure(t, "Abort", first.x.Abort())
	if !second.commit() {
		t.Error("it clashes with one that was aborted")
	}
	r.sees()
}

// P17.3: of a transaction that is none, or over, and which error goes first.
func TestOver(t *testing.T) {
	t.Parallel()
	r := newRig(t)
	r.within(func(w *twin) { w.add(some(1)) })
	committed, aborted := r.begin(), r.begin()
	committed.add(some(2))
	committed.commit()
	sure(t, "Abort", aborted.x.Abort())
	for _, c := range []struct {
		x    *snap.Tx
		want api.Errno
	}{{nil, api.ErrNone}, {committed.x, api.ErrState}, {aborted.x, api.ErrState}} {
		r.fails(c.x, c.want)
	}
	r.sees()
}

// fails sees that whatever is asked of a transaction is answered by an error, and by nothing else.
func (r *rig) fails(x *snap.Tx, want api.Errno) {
	r.t.Helper()
	seq, link, e := chain.Last(x)
	if seq != 0 || link != ([32]byte{}) {
		r.t.Errorf("Last = %d, %x beside an error", seq, link)
	}
	answers(r.t, "Last", e, want)
	w := &twin{rig: r, x: x}
	w.refused(some(1), want)
	w.refused(api.Event{Verb: 12}, api.ErrForm)
	w.refused(api.Event{Verb: 1, Tick: -1}, api.ErrForm)
	for _, most := range []int{-1, math.MinInt, 0, 1, math.MaxInt} {
		for _, from := range []uint64{0, 1, 2, 9, math.MaxUint64} {
			wanted := want
			if most < 0 {
				wanted = api.ErrArg
			}
			l, e := chain.List(x, from, most)
			if len(l) != 0 {
				r.t.Errorf("List = %v beside an error", l)
			}
			answers(r.t, fmt.Sprintf("List(%d, %d)", from, most), e, wanted)
		}
	}
}

// P17.3: most is below 0.
func TestListRefused(t *testing.T) {
	t.Parallel()
	r := newRig(t)
	r.within(func(w *twin) { w.add(some(1)) })
	w := r.begin()
	for _, most := range []int{-1, math.MinInt} {
		for _, from := range []uint64{0, 1, 2} {
			if l, e := chain.List(w.x, from, most); len(l) != 0 || e != api.ErrArg {
				t.Errorf("List(%d, %d) = %v, error %d", from, most, l, e)
			}
		}
	}
}

// The audit goes on beside keys of others, all around its own, and leaves them as they are.
func TestBesideOthers(t *testing.T) {
	t.Parallel()
	r := newRig(t)
	keys := []string{"", "\x00", "a", "a\x01", "a\x01row", "a\x0cv", "audi", "audit", "audit\x00", "audiu", "b", "\xff", "\xff\xff"}
	r.within(func(w *twin) {
		for _, key := range keys {
			sure(t, "Put", w.x.Put([]byte(key), []byte("value of "+key)))
		}
		w.x.Del([]byte("audit"))
		w.x.Del([]byte("audit\x00"))
		for n := range 5 {
			w.add(some(n))
		}
		w.tells()
	})
	r.sees()
	w := r.begin()
	for _, key := range keys {
		if key == "audit" || key == "audit\x00" {
			continue
		}
		if p, e := w.x.Get([]byte(key)); string(p) != "value of "+key || e != api.OK {
			t.Errorf("the key %q has become %q, error %d", key, p, e)
		}
	}
}

// P17.2 to P17.4: some transactions beside one another do what is drawn, with sweeps and falls between.
func TestDrawn(t *testing.T) {
	t.Parallel()
	for seed := range int64(8) {
		draw := rand.New(rand.NewSource(seed))
		r := newRig(t)
		var open []*twin
		for range 150 {
			if len(open) == 0 || len(open) < 4 && draw.Intn(4) == 0 {
				open = append(open, r.begin())
			}
			i := draw.Intn(len(open))
			if w := open[i]; !w.drawn(draw) {
				open = slices.Delete(open, i, i+1)
			}
			if draw.Intn(20) == 0 {
				_, e := r.db.Sweep(draw.Intn(5))
				sure(t, "Sweep", e)
			}
		}
		for _, w := range open {
			w.tells()
			w.commit()
		}
		r.sees()
		r.comesBack()
	}
}

// drawn does something in a transaction; false: it is over.
func (w *twin) drawn(draw *rand.Rand) bool {
	w.t.Helper()
	switch draw.Intn(8) {
	case 0, 1:
		w.commit()
		return false
	case 2:
		sure(w.t, "Abort", w.x.Abort())
		return false
	case 3:
		w.list(uint64(draw.Intn(30)), draw.Intn(30))
	case 4:
		w.tells()
	case 5:
		w.refused(api.Event{Seq: 1, Verb: 12}, api.ErrForm)
	default:
		w.add(some(draw.Intn(99)))
	}
	return true
}

// P2: two that are told the same answer the same.
func TestSame(t *testing.T) {
	t.Parallel()
	told := func() string {
		r := newRig(t)
		draw := rand.New(rand.NewSource(5))
		out := ""
		w := r.begin()
		for range 60 {
			if !w.drawn(draw) {
				w = r.begin()
			}
			l, e := chain.List(w.x, 0, 99)
			cells, ce := w.x.Scan(nil, nil)
			out += fmt.Sprint(l, e, cells, ce)
		}
		return out
	}
	if told() != told() {
		t.Error("two that were told the same answer otherwise")
	}
}
