package tree_test

import (
	"fmt"
	"maps"
	"math/rand"
	"slices"
	"testing"

	"muniment/api"
	"muniment/probe"
	"muniment/store"
	"muniment/tree"
)

// step is something that is done with the tree, or with its store.
type step struct {
	kind  byte
	key   int
	value int
}

const (
	begins byte = iota
	creates
	puts
	dels
	gets
	scans
	checks
	commits
	aborts
	flushes
	frees
)

// takes does a step; false: the power has gone off.
func (r *rig) takes(s step) bool {
	r.t.Helper()
	key := deepKey(s.key)
	switch s.kind {
	case begins:
		r.begin()
	case creates:
		r.create()
	case puts:
		r.put(key, largest[:s.value])
	case dels:
		r.del(key)
	case gets:
		r.get(key)
	case scans:
		r.scan(key, "", s.value)
	case checks:
		if _, _, e := r.tr.Check(); r.did("Check", e, api.OK) {
			r.sees()
		}
	case commits:
		r.commit()
	case aborts:
		r.abort()
	case flushes:
		r.did("Flush", r.s.Flush(), api.OK)
	case frees:
		r.did("Checkpoint", r.s.Checkpoint(), api.OK)
	}
	return r.d.On()
}

// parts make a tree of three levels, and empty it, in transactions that are committed and aborted.
var parts = [][]step{
	within(commits, step{kind: creates}, put(5)),
	within(commits, put(1), put(9), put(3)),
	within(aborts, put(7), step{kind: flushes}, del(5), step{gets, 7, 0}),
	within(commits, put(7), put(8), step{scans, 3, 4}, step{puts, 5, 9}),
	{{kind: frees}},
	within(commits, put(10), put(11), del(20)),
	within(commits, put(12), put(13)),
	within(aborts, del(1), del(3), del(5), put(4)),
	within(commits, del(13), del(12), del(1), del(11), step{kind: checks}),
	within(commits, del(10), del(9), del(3)),
	within(commits, del(5), del(8), del(7)),
	{{kind: begins}, {kind: creates}, put(4)},
}

var script = slices.Concat(parts...)

func put(k int) step { return step{puts, k, api.MaxValue - k} }

func del(k int) step { return step{kind: dels, key: k} }

// within is steps in a transaction, and how it ends.
func within(end byte, steps ...step) []step {
	return slices.Concat([]step{{kind: begins}}, steps, []step{{kind: end}})
}

// The script does what it is there for.
func TestScript(t *testing.T) {
	levels := 0
	for n := range script {
		r := runs(t, 4, script[:n], 0)
		if r.now != nil {
			levels = max(levels, r.sees().levels)
		}
	}
	r := runs(t, 4, script, 0)
	if h := r.sees(); levels < 3 || len(r.sure) != 0 || len(r.now) != 1 || h.pages != 2 {
		t.Errorf("%d levels, %d keys are left", levels, len(r.sure))
	}
}

// runs does steps till the power goes off in the n-th operation of the disk; 0: it doesn't.
func runs(t *testing.T, frames int, steps []step, n int) *rig {
	t.Helper()
	r := newRig(t, 56, 20, frames)
	answers(t, "Arm", r.d.Arm(n), api.OK)
	for _, s := range steps {
		if !r.takes(s) {
			break
		}
	}
	return r
}

// copied is a rig of a disk that has what is durable on another one's, opened.
func (r *rig) copied() *rig {
	r.t.Helper()
	d, e := probe.CopyOf(r.d)
	sure(r.t, "CopyOf", e)
	s, e := store.Open(d, r.count, r.frames)
	sure(r.t, "Open", e)
	return &rig{t: r.t, d: d, s: s, tr: tree.On(s), count: r.count, pages: r.pages, frames: r.frames, sure: r.sure, now: maps.Clone(r.sure)}
}

// falls does steps on a copy till the power goes off in the n-th operation of the disk; false: it doesn't.
func (r *rig) falls(steps []step, n int) (*rig, bool) {
	r.t.Helper()
	c := r.copied()
	answers(r.t, "Arm", c.d.Arm(n), api.OK)
	for _, s := range steps {
		if !c.takes(s) {
			return c, true
		}
	}
	return c, false
}

// P13.4, P3: the power goes off in each operation of each call, with each choice of the writes that are kept: behind the opening the tree is as it was behind the last commit, and goes on.
func TestFallEach(t *testing.T) {
	for _, frames := range []int{1, 4} {
		for part, steps := range parts {
			t.Run(fmt.Sprint(frames, " ", part), func(t *testing.T) {
				t.Parallel()
				base := runs(t, frames, slices.Concat(parts[:part]...), 0)
				answers(t, "Restart", base.d.Restart(nil), api.OK)
				base.opens()
				count := 0
				for n := 1; ; n++ {
					r, fell := base.falls(steps, n)
					if !fell {
						break
					}
					for _, keep := range probe.Choices(r.d.Pending()) {
						r, _ := base.falls(steps, n)
						r.isDead(fmt.Sprintf("the power off in %d", n))
						answers(t, "Restart", r.d.Restart(keep), api.OK)
						r.opens()
						if count++; count%3 == 0 {
							r.goesOn()
						}
					}
				}
			})
		}
	}
}

// goesOn sees that a tree behind a fall may be used on, or made.
func (r *rig) goesOn() {
	r.t.Helper()
	r.begin()
	if r.now == nil {
		r.create()
	}
	r.put(deepKey(10), largest)
	r.del(deepKey(5))
	r.put(deepKey(30), "")
	r.commit()
	answers(r.t, "Restart", r.d.Restart(nil), api.OK)
	r.opens()
}

// isDead sees that each call answers ErrCrash, but where the document says that another error goes first.
func (r *rig) isDead(what string) {
	r.t.Helper()
	answers(r.t, what+": Create", r.tr.Create(), api.ErrCrash)
	for _, k := range []string{"", "a", deepKey(5), longest + "k"} {
		b, e := r.tr.Get([]byte(k))
		if b != nil || e != api.ErrCrash {
			r.t.Errorf("%s: Get = %q, error %d", what, b, e)
		}
		answers(r.t, what+": Del", r.tr.Del([]byte(k)), api.ErrCrash)
		want := api.ErrCrash
		if len(k) > api.MaxKey {
			want = api.ErrLong
		}
		answers(r.t, what+": Put", r.tr.Put([]byte(k), nil), want)
	}
	answers(r.t, what+": Put of a long value", r.tr.Put(nil, []byte(largest+"v")), api.ErrLong)
	for _, most := range []int{0, 1, 99, -1} {
		want := api.ErrCrash
		if most < 0 {
			want = api.ErrArg
		}
		l, e := r.tr.Scan(nil, nil, most)
		if l != nil || e != want {
			r.t.Errorf("%s: Scan of %d = %q, error %d", what, most, l, e)
		}
	}
	keys, pages, e := r.tr.Check()
	if keys != 0 || pages != 0 || e != api.ErrCrash {
		r.t.Errorf("%s: Check = %d, %d, error %d", what, keys, pages, e)
	}
}

// P13.4, P3: the power goes off between the steps, and nothing, or all, that was on its way is kept.
func TestFallBetween(t *testing.T) {
	for _, frames := range []int{1, 3} {
		for n := range len(script) + 1 {
			for _, kept := range []bool{false, true} {
				r := runs(t, frames, script[:n], 0)
				turned := slices.Repeat([]bool{kept}, r.d.Pending())
				answers(t, "Restart", r.d.Restart(turned), api.OK)
				r.opens()
			}
		}
	}
}

// P13.1 to P13.3: so the calls answer when the power is off, with a transaction open, behind one, and without a tree; also when it is on again, of the old store. A store that is too small for a tree goes first.
func TestOff(t *testing.T) {
	for n := range 8 {
		r := runs(t, 2, script[:n], 0)
		turnOff(t, r.d)
		r.isDead("off")
		answers(t, "Restart", r.d.Restart(nil), api.OK)
		r.isDead("on again")
		r.opens()
	}
	r := newRig(t, 16, 2, 2)
	turnOff(t, r.d)
	answers(t, "Create in two pages, the power off", r.tr.Create(), api.ErrFull)
}

// P13.4, P3: many falls, one behind the other.
func TestFallMany(t *testing.T) {
	for seed := range 8 {
		t.Run(fmt.Sprint(seed), func(t *testing.T) {
			t.Parallel()
			draw := rand.New(rand.NewSource(int64(seed)))
			r := grown(t, 120, 150, 1+draw.Intn(5))
			for range 60 {
				answers(t, "Arm", r.d.Arm(1+draw.Intn(80)), api.OK)
				for r.takesDrawn(draw) {
				}
				keep := make([]bool, r.d.Pending())
				for k := range keep {
					keep[k] = draw.Intn(2) == 0
				}
				answers(t, "Restart", r.d.Restart(keep), api.OK)
				r.opens()
			}
		})
	}
}

// takesDrawn does a transaction that is drawn; false: the power has gone off.
func (r *rig) takesDrawn(draw *rand.Rand) bool {
	r.t.Helper()
	steps := []step{{kind: begins}}
	for range draw.Intn(7) {
		k := draw.Intn(60)
		steps = append(steps, []step{{puts, k, draw.Intn(151)}, {puts, k, 150}, {kind: dels, key: k}, {gets, k, 0}, {scans, k, 5}}[draw.Intn(5)])
	}
	steps = append(steps, step{kind: []byte{commits, commits, aborts}[draw.Intn(3)]})
	for _, s := range steps {
		if !r.takes(s) {
			return false
		}
	}
	return true
}

// P13.2, P3: behind Commit what was told is there, behind Abort nothing of it, wherever in the script it comes.
func TestCommitAndAbort(t *testing.T) {
	for n := range script {
		for _, end := range []byte{commits, aborts} {
			r := runs(t, 4, script[:n], 0)
			if !r.open {
				continue
			}
			want := r.now
			if end == aborts {
				want = r.sure
			}
			r.takes(step{kind: end})
			if !maps.Equal(r.now, want) {
				t.Fatal("the transaction's end isn't what was told")
			}
			r.sees()
			r.opens()
		}
	}
}
