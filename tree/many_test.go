package tree_test

import (
	"bytes"
	"fmt"
	"math/rand"
	"slices"
	"strings"
	"testing"

	"muniment/api"
)

// keySet are n keys, rising, and what value each has.
type keySet struct {
	name  string
	keys  []string
	value func(k int) string
	// one: have the keys one length?
	one bool
}

func fixed(value string) func(int) string { return func(int) string { return value } }

// keySets are such of which few, many, and some of either, have room on a page.
func keySets(n int) []keySet {
	out := []keySet{
		{"short", nil, fixed(""), true},
		{"middle", nil, func(k int) string { return largest[:k%41] }, true},
		{"longest", nil, func(k int) string { return largest[k%3:] }, true},
		{"of each length", nil, func(k int) string { return largest[:k*7%151] }, false},
		{"with one beginning", nil, func(k int) string { return largest[:k*11%30] }, false},
	}
	for k := range n {
		out[0].keys = append(out[0].keys, string([]byte{byte(k >> 8), byte(k)}))
		out[1].keys = append(out[1].keys, fmt.Sprintf("%030d", k))
		out[2].keys = append(out[2].keys, deepKey(k))
		out[3].keys = append(out[3].keys, string([]byte{byte(k >> 8), byte(k)})+strings.Repeat("\xff", k*13%89))
		out[4].keys = append(out[4].keys, strings.Repeat("\x00", k%45)+strings.Repeat("a", k/45))
	}
	for _, s := range out {
		slices.Sort(s.keys)
	}
	return out
}

// orders are those in which keys are gone through.
func orders(n int) map[string][]int {
	rising := rand.New(rand.NewSource(0)).Perm(n)
	out := map[string][]int{"any": slices.Clone(rising)}
	slices.Sort(rising)
	out["rising"] = slices.Clone(rising)
	slices.Reverse(rising)
	out["falling"] = rising
	return out
}

// few sees that there are no more pages than the document says.
func (r *rig) few(h shape) {
	r.t.Helper()
	if most := 2*len(r.now) + 3; h.pages > most {
		r.t.Fatalf("%d keys have %d pages", len(r.now), h.pages)
	}
}

// P13.1 to P13.4: keys that are put in each order, and all deleted again in each: pages part again and again, are joined and used anew. Behind each call all is as said, and no more pages are written than said; the tree has as few as said, and two when none is left.
func TestEachOrder(t *testing.T) {
	const n = 90
	for _, set := range keySets(n) {
		for puts, order := range orders(n) {
			t.Run(set.name+" "+puts, func(t *testing.T) {
				t.Parallel()
				r := grown(t, 60, 300, 64)
				alone := true
				for _, back := range orders(n) {
					next := 0
					for _, k := range order {
						r.within(func() { r.counted(func() { r.put(set.keys[k], set.value(k)) }) })
						h := r.sees()
						next = h.next
						if set.one || alone {
							r.few(h)
						}
					}
					alone = false
					for _, k := range back {
						r.within(func() { r.counted(func() { r.del(set.keys[k]) }) })
						h := r.sees()
						if set.one {
							r.few(h)
						}
						if set.one && h.next != next {
							t.Fatalf("a Del takes a page that was never used")
						}
					}
					if h := r.sees(); set.one && h.pages != 2 {
						t.Fatalf("with no key left there are %d pages", h.pages)
					}
				}
			})
		}
	}
}

// counted does a Put or a Del, and sees that it writes no more pages than it may, and takes no more of the log's room than these do.
func (r *rig) counted(does func()) {
	r.t.Helper()
	h := shapeOf(r.s)
	most := 6*h.levels + 6
	// No more than so many were never used.
	reach := min(h.next+most, r.pages)
	was, room := r.bytes(reach), r.s.Room()
	does()
	took := room - r.s.Room()
	if wrote := unlike(was, r.bytes(reach)); wrote > most || took > most*(100+3*body) {
		r.t.Fatalf("in a tree of %d levels %d pages were written, and %d bytes of the log", h.levels, wrote, took)
	}
}

// unlike is how many pages are others.
func unlike(a, b [][]byte) int {
	n := 0
	for i, p := range a {
		if !bytes.Equal(p, b[i]) {
			n++
		}
	}
	return n
}

// P13.4: Create writes two pages.
func TestCreateWrites(t *testing.T) {
	r := newRig(t, 16, 9, 2)
	for again := range 2 {
		if again > 0 {
			for k := range 9 {
				r.within(func() { r.put(fmt.Sprint(k), largest) })
			}
		}
		r.begin()
		was := r.bytes(r.pages)
		r.create()
		if wrote := unlike(was, r.bytes(r.pages)); wrote != 2 {
			t.Errorf("Create writes %d pages", wrote)
		}
		r.commit()
	}
}

// P13.4: keys of any lengths that are put alone, and put again with other values, have as few pages as said.
func TestPutAlone(t *testing.T) {
	for seed := range 6 {
		t.Run(fmt.Sprint(seed), func(t *testing.T) {
			t.Parallel()
			draw := rand.New(rand.NewSource(int64(seed)))
			r := grown(t, 60, 400, 64)
			for range 200 {
				key := drawnKey(draw, seed)
				r.within(func() { r.counted(func() { r.put(key, largest[:draw.Intn(api.MaxValue+1)]) }) })
				r.few(r.sees())
			}
			for _, c := range r.now.cells("", "", 1000) {
				r.within(func() { r.counted(func() { r.put(string(c.Key), "") }) })
				r.few(r.sees())
			}
		})
	}
}

// drawnKey is one of a length and of bytes that are drawn: the kind tells how many.
func drawnKey(draw *rand.Rand, kind int) string {
	n := draw.Intn(api.MaxKey + 1)
	switch kind % 3 {
	case 1:
		n = draw.Intn(4)
	case 2:
		n = api.MaxKey - draw.Intn(2)*draw.Intn(api.MaxKey)
	}
	p := make([]byte, n)
	for i := range p {
		p[i] = []byte{0, 1, 'a', 0x7f, 0x80, 0xff}[draw.Intn(6)]
	}
	return string(p)
}

// P13.1 to P13.4: what is drawn: keys of any lengths, put and deleted, in transactions of many calls that are committed or aborted, and the store opened again: behind each call all is as said.
func TestDrawn(t *testing.T) {
	for seed := range 24 {
		t.Run(fmt.Sprint(seed), func(t *testing.T) {
			t.Parallel()
			draw := rand.New(rand.NewSource(int64(seed)))
			r := grown(t, 200, 300, 1+draw.Intn(8))
			for range 60 {
				r.begin()
				for range draw.Intn(12) {
					r.drawn(draw, seed)
				}
				if draw.Intn(4) == 0 {
					r.abort()
				} else {
					r.commit()
				}
				r.sees()
				if draw.Intn(10) == 0 {
					answers(t, "Restart", r.d.Restart(nil), api.OK)
					r.opens()
				}
			}
			r.empties(draw)
		})
	}
}

// drawn does one call that is drawn: more puts than deletes, or fewer, by turns.
func (r *rig) drawn(draw *rand.Rand, kind int) {
	r.t.Helper()
	there := r.now.cells("", "", 10000)
	key := drawnKey(draw, kind)
	if len(there) > 0 && draw.Intn(3) > 0 {
		key = string(there[draw.Intn(len(there))].Key)
	}
	if puts := draw.Intn(5); puts == 0 || puts < 3 && len(there) < 60+kind {
		r.counted(func() { r.put(key, largest[:draw.Intn(api.MaxValue+1)]) })
	} else {
		r.counted(func() { r.del(key) })
	}
	r.sees()
	r.get(key)
	r.scan(key, "", 3)
}

// empties deletes all keys.
func (r *rig) empties(draw *rand.Rand) {
	r.t.Helper()
	there := r.now.cells("", "", 10000)
	for _, k := range draw.Perm(len(there)) {
		r.within(func() { r.counted(func() { r.del(string(there[k].Key)) }) })
		r.sees()
	}
}

// P13.1 to P13.4: great numbers, in each order.
func TestGreat(t *testing.T) {
	const n = 1500
	for _, set := range keySets(n) {
		for name, order := range orders(n) {
			if set.name == "longest" {
				order = slices.DeleteFunc(slices.Clone(order), func(k int) bool { return k >= 600 })
			}
			t.Run(set.name+" "+name, func(t *testing.T) {
				t.Parallel()
				r := grown(t, 200, 1000, 32)
				for at := 0; at < len(order); at += 6 {
					r.within(func() {
						for _, k := range order[at:min(at+6, len(order))] {
							r.put(set.keys[k], set.value(k))
							r.get(set.keys[k])
						}
					})
					if at%180 == 0 {
						r.few(r.sees())
					}
				}
				r.opens()
				for at := 0; at < len(order); at += 6 {
					r.within(func() {
						for _, k := range order[at:min(at+6, len(order))] {
							r.del(set.keys[k])
							r.get(set.keys[k])
						}
					})
					if at%180 == 0 {
						if h := r.sees(); set.one {
							r.few(h)
						}
					}
				}
				if h := r.sees(); len(r.now) != 0 || set.one && h.pages != 2 {
					t.Errorf("%d keys are left, in %d pages", len(r.now), h.pages)
				}
			})
		}
	}
}

// P13.4: pages that were given back are used anew: a store isn't used up by keys that come and go.
func TestUsedAnew(t *testing.T) {
	r := grown(t, 60, 20, 4)
	for round := range 30 {
		for k := range 12 {
			r.within(func() { r.put(deepKey(100*round+k), largest) })
		}
		r.sees()
		for k := range 12 {
			r.within(func() { r.del(deepKey(100*round + k)) })
		}
		if h := r.sees(); h.pages != 2 {
			t.Fatalf("with no key left there are %d pages", h.pages)
		}
	}
}
