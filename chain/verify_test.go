package chain_test

import (
	"math"
	"slices"
	"testing"

	"muniment/api"
	"muniment/chain"
)

func verifies(t *testing.T, what string, l []api.Event, want int) {
	t.Helper()
	was := slices.Clone(l)
	if got := chain.Verify(l); got != want {
		t.Errorf("Verify of %s = %d, want %d", what, got, want)
	}
	if !slices.Equal(l, was) {
		t.Errorf("Verify of %s has changed it", what)
	}
}

// relinked is a list whose links are made anew from a place on, as they were made by one who can.
func relinked(l []api.Event, from int) []api.Event {
	var before [32]byte
	if from > 0 {
		before = l[from-1].Link
	}
	for i := from; i < len(l); i++ {
		l[i].Link = linkOf(before, l[i])
		before = l[i].Link
	}
	return l
}

// P17.2: lists that are right, and their beginnings.
func TestVerifyRight(t *testing.T) {
	verifies(t, "none", nil, -1)
	verifies(t, "no events", []api.Event{}, -1)
	l := story(300)
	for n := range l {
		verifies(t, "a beginning", l[:n+1], -1)
	}
}

// changes are what can be made of an event, so that it is another one.
func changes() map[string]func(v *api.Event) {
	out := map[string]func(v *api.Event){
		"Seq below":         func(v *api.Event) { v.Seq-- },
		"Seq above":         func(v *api.Event) { v.Seq++ },
		"Seq 0":             func(v *api.Event) { v.Seq = 0 },
		"Seq greatest":      func(v *api.Event) { v.Seq = math.MaxUint64 },
		"Seq with more":     func(v *api.Event) { v.Seq += 1 << 32 },
		"Tick":              func(v *api.Event) { v.Tick++ },
		"Tick below 0":      func(v *api.Event) { v.Tick = -1 },
		"Tick above":        func(v *api.Event) { v.Tick = api.MaxTicks + 1 },
		"Verb":              func(v *api.Event) { v.Verb = v.Verb%11 + 1 },
		"Verb none":         func(v *api.Event) { v.Verb = 0 },
		"Verb above":        func(v *api.Event) { v.Verb = 12 },
		"Who":               func(v *api.Event) { v.Who = "x" },
		"Who no UTF-8":      func(v *api.Event) { v.Who = "\xff" },
		"Whom":              func(v *api.Event) { v.Whom = "x" },
		"Whom no UTF-8":     func(v *api.Event) { v.Whom = "\xff" },
		"Who and Whom":      func(v *api.Event) { v.Who, v.Whom = v.Whom+"x", v.Who },
		"all but its place": func(v *api.Event) { *v = api.Event{Seq: v.Seq} },
		"Link noughts":      func(v *api.Event) { v.Link = [32]byte{} },
	}
	return out
}

// P17.2: each event with each field changed, with the links as they were: that place; with the links made anew: that place too, if the event isn't right, else none.
func TestVerifyChanged(t *testing.T) {
	const n = 12
	for what, change := range changes() {
		for at := range n {
			l := story(n)
			change(&l[at])
			verifies(t, what, l, at)
			l = relinked(l, at)
			want := at
			if chain.Form(l[at]) && l[at].Seq == uint64(at)+1 {
				want = -1
			}
			verifies(t, what+", linked anew", l, want)
		}
	}
	for at := range n {
		for bit := range 256 {
			l := story(n)
			l[at].Link[bit/8] ^= 1 << (bit % 8)
			verifies(t, "a link with a bit turned", l, at)
		}
	}
}

// P17.2: an event's own link is made anew, but not those behind it: the next place.
func TestVerifyOneLink(t *testing.T) {
	for at := range 11 {
		l := story(12)
		l[at].Tick++
		relinked(l[:at+1], at)
		verifies(t, "one linked anew", l, at+1)
	}
}

// P17.2: the first of two wrong places.
func TestVerifyFirst(t *testing.T) {
	for first := range 10 {
		for second := first + 1; second < 10; second++ {
			l := story(10)
			l[first].Tick++
			l[second].Seq = 0
			verifies(t, "two wrong ones", l, first)
		}
	}
}

// P17.2: an event dropped, put twice, or two of them swapped.
func TestVerifyMoved(t *testing.T) {
	const n = 12
	for at := range n {
		want := at
		if at == n-1 {
			want = -1
		}
		verifies(t, "one dropped", slices.Delete(story(n), at, at+1), want)
		verifies(t, "one put twice", slices.Insert(story(n), at, story(n)[at]), at+1)
		for other := at + 1; other < n; other++ {
			l := story(n)
			l[at], l[other] = l[other], l[at]
			verifies(t, "two swapped", l, at)
			l[at].Seq, l[other].Seq = l[other].Seq, l[at].Seq
			verifies(t, "two swapped, with their numbers", l, at)
		}
	}
	l := slices.Delete(story(n), 4, 5)
	for i := range l {
		l[i].Seq = uint64(i) + 1
	}
	verifies(t, "one dropped, with new numbers", l, 4)
}

// P17.2: a list that begins with another number than 1, or behind another link than noughts.
func TestVerifyBegin(t *testing.T) {
	for n := 1; n < 5; n++ {
		verifies(t, "an end", story(8)[n:], 0)
	}
	for _, first := range []uint64{0, 2, math.MaxUint64} {
		l := story(8)
		for i := range l {
			l[i].Seq = first + uint64(i)
		}
		verifies(t, "other numbers", relinked(l, 0), 0)
	}
	for _, before := range befores()[1:] {
		l := story(3)
		l[0].Link = linkOf(before, l[0])
		verifies(t, "another link ahead", relinked(l, 1), 0)
	}
}
