package snap_test

import (
	"fmt"
	"math/rand"
	"slices"
	"testing"

	"muniment/api"
)

// deed is something that a transaction does.
type deed func(w *twin)

func puts(key, value string) deed { return func(w *twin) { w.put(key, value) } }

func dels(key string) deed { return func(w *twin) { w.del(key) } }

func commits(w *twin) { w.commit() }

func aborts(w *twin) { w.abort() }

// lines are what transactions do that run beside one another.
var lines = map[string][][]deed{
	"one key":        {{puts("k", "1"), commits}, {puts("k", "2"), commits}, {puts("k", "3"), commits}},
	"put and delete": {{puts("k", "1"), commits}, {dels("k"), commits}, {puts("a", "3"), dels("b"), commits}},
	"crossing":       {{puts("a", "1"), puts("b", "1"), commits}, {puts("b", "2"), puts("c", "2"), commits}, {dels("c"), dels("a"), commits}},
	"apart":          {{puts("a", "1"), commits}, {puts("b", "2"), dels("old"), commits}, {puts("c", "3"), commits}},
	"some abort":     {{puts("k", "1"), puts("old", "1"), aborts}, {puts("k", "2"), commits}, {dels("k"), aborts}},
	"some read":      {{puts("k", "1"), commits}, {dels("old"), puts("k", "2"), commits}, {commits}},
}

// P4, P14.2, P14.3: transactions beside one another, in every order (of very many in some): each sees what was committed when it began and what it has written, at each step; of two that overlap and write one key one is committed.
func TestOrders(t *testing.T) {
	for name, l := range lines {
		t.Run(name, func(t *testing.T) {
			t.Parallel()
			all, seen := 0, 0
			orders(l, func([]int) { all++ })
			orders(l, func(order []int) {
				seen++
				if seen%(1+all/1500) != 0 {
					return
				}
				r := newRig(t, 16, 12, 3)
				r.put("0", "old", "a")
				var w [3]*twin
				var at [3]int
				for _, i := range order {
					if w[i] == nil {
						w[i] = r.begin()
					} else {
						l[i][at[i]](w[i])
						at[i]++
					}
					for _, v := range r.open {
						v.scan("", "")
						v.get("k")
						v.get("old")
					}
				}
				if seen%4 == 0 {
					r.sweep(seen % 5)
				}
				r.sees()
			})
			if seen < 200 {
				t.Errorf("only %d orders", seen)
			}
		})
	}
}

// orders goes through all orders of lines' deeds, with the beginning of each ahead of them.
func orders(l [][]deed, does func(order []int)) {
	left := make([]int, len(l))
	for i := range l {
		left[i] = 1 + len(l[i])
	}
	var order []int
	var next func()
	next = func() {
		ended := true
		for i := range l {
			if left[i] == 0 {
				continue
			}
			ended = false
			left[i]--
			order = append(order, i)
			next()
			order = order[:len(order)-1]
			left[i]++
		}
		if ended {
			does(slices.Clone(order))
		}
	}
	next()
}

// drawnKeys are a few keys, some of which begin with others, or have noughts.
var drawnKeys = []string{"", "\x00", "\x00\x00", "\x00\x01", "a", "a\x00", "a\x00b", "aa", "ab", "b", longest, longest[1:], "\xfe", "\xff", "\xff\xff"}

func drawnKey(draw *rand.Rand) string { return drawnKeys[draw.Intn(len(drawnKeys))] }

// drawn does a step that is drawn with a transaction that is open, or begins one.
func (r *rig) drawn(draw *rand.Rand) {
	r.t.Helper()
	n := draw.Intn(30)
	if n < 3 && len(r.open) < api.MaxOpen || len(r.open) == 0 {
		r.begin()
		return
	}
	w := r.open[draw.Intn(len(r.open))]
	key := drawnKey(draw)
	switch {
	case n < 12:
		w.put(key, largest[:draw.Intn(mostValue+1)])
	case n < 16:
		w.del(key)
	case n < 19:
		w.get(key)
	case n < 21:
		w.scan(key, drawnKey(draw))
	case n < 26:
		w.commit()
	case n < 27:
		w.abort()
	case n < 29:
		r.sweep(draw.Intn(6))
	default:
		r.sweep(1 << 30)
	}
}

// P14.1 to P14.4: what is drawn: behind each step all is as said, and behind each opening.
func TestDrawn(t *testing.T) {
	for seed := range 16 {
		t.Run(fmt.Sprint(seed), func(t *testing.T) {
			t.Parallel()
			draw := rand.New(rand.NewSource(int64(seed)))
			r := newRig(t, 100+draw.Intn(100), 300, 1+draw.Intn(12))
			for n := range 500 {
				r.drawn(draw)
				r.sees()
				if n%100 == 99 {
					r.restarts(nil)
				}
				// So that the pages don't come to their end.
				if r.versions > 120 {
					for len(r.open) > 0 {
						r.open[0].abort()
					}
					r.sweep(1 << 30)
				}
			}
			if len(r.states) < 20 {
				t.Errorf("only %d commits", len(r.states)-1)
			}
		})
	}
}
