package shift_test

import (
	"math"
	"slices"
	"strconv"
	"strings"
	"testing"

	"muniment/api"
	"muniment/shift"
)

// makes sees what Make answers.
func makes(t *testing.T, what string, m made, want api.Errno) {
	t.Helper()
	for _, id := range []byte{0, 1, 255} {
		m.id = id
		if tab, e := m.make(); e != want || (tab != nil) != (want == api.OK) {
			t.Errorf("%s: a table %v, error %d, want %d", what, tab != nil, e, want)
		}
	}
}

// many are n columns, that are a Text each.
func many(n int) []api.Column {
	var out []api.Column
	for i := range n {
		out = append(out, api.Column{Name: "c" + strconv.Itoa(i), Kind: api.Text})
	}
	return out
}

func seen(kind byte) api.Column { return api.Column{Name: "seen", Kind: kind} }

// P16.1: table.New's errors, of the columns first, then of them and the new one, ahead of all others.
func TestMakeColumns(t *testing.T) {
	t.Parallel()
	bad := api.Column{Name: "bad", Kind: 9}
	unique := api.Column{Name: "seen", Kind: api.Int, Index: true, Unique: true}
	for n := range 20 {
		want := api.OK
		if n < 1 || n > api.MaxColumns-1 {
			want = api.ErrLong
		}
		makes(t, strconv.Itoa(n), made{cols: many(n), more: seen(api.Int), fill: number(0), from: -1}, want)
	}
	twice := append(many(2), many(1)...)
	// What the new one, and from, are counts for nothing then.
	for _, more := range []api.Column{bad, unique, seen(api.Text), {}} {
		for _, from := range []int{-1, 0, 99} {
			makes(t, "none", made{more: more, from: from}, api.ErrLong)
			makes(t, "too many", made{cols: many(api.MaxColumns), more: more, from: from}, api.ErrLong)
			makes(t, "a bad one", made{cols: []api.Column{bad}, more: more, from: from}, api.ErrForm)
			makes(t, "a name twice", made{cols: twice, more: more, from: from}, api.ErrExists)
			makes(t, "MaxColumns, a name twice", made{cols: append(many(api.MaxColumns-1), many(1)...), more: more, from: from}, api.ErrExists)
			makes(t, "MaxColumns, a bad one", made{cols: append(many(api.MaxColumns-1), bad), more: more, from: from}, api.ErrForm)
		}
	}
	// Those of the new one go ahead of what from and fill are.
	for _, from := range []int{-1, 0, 5, 99} {
		makes(t, "a bad one more", made{cols: many(2), more: bad, from: from}, api.ErrForm)
		makes(t, "one without a name", made{cols: many(2), more: api.Column{Kind: api.Int}, from: from}, api.ErrForm)
		makes(t, "an indexed Text", made{cols: many(2), more: api.Column{Name: "x", Kind: api.Text, Index: true}, from: from}, api.ErrForm)
		makes(t, "a Unique Bool", made{cols: many(2), more: api.Column{Name: "x", Kind: api.Bool, Index: true, Unique: true}, from: from}, api.ErrForm)
		makes(t, "Unique without an index", made{cols: many(2), more: api.Column{Name: "x", Kind: api.Int, Unique: true}, from: from}, api.ErrForm)
		for _, name := range []string{"c0", "c1"} {
			more := unique
			more.Name = name
			makes(t, "a name that is there", made{cols: many(2), more: more, from: from}, api.ErrExists)
		}
	}
}

// P16.1: ErrArg: a new column that is Unique, a from that is no column's place and not below 0; ahead of what from's column and fill are.
func TestMakeArg(t *testing.T) {
	t.Parallel()
	cols := columns()
	for _, fill := range []api.Value{{}, number(1), text("x"), truth(1), {Kind: 9}} {
		for _, kind := range []byte{api.Int, api.Text} {
			more := api.Column{Name: "seen", Kind: kind, Index: true, Unique: true}
			for _, from := range []int{math.MinInt, -1, 0, 1, len(cols) - 1, len(cols), math.MaxInt} {
				makes(t, "Unique", made{cols: cols, more: more, fill: fill, from: from}, api.ErrArg)
			}
		}
		for _, kind := range []byte{api.Int, api.Text, api.Bool} {
			for _, from := range []int{len(cols), len(cols) + 1, 12, 255, 256, 257, 1 << 32, math.MaxInt} {
				makes(t, "from "+strconv.Itoa(from), made{cols: cols, more: seen(kind), fill: fill, from: from}, api.ErrArg)
			}
		}
	}
}

// P16.1: from is a column's place: it has the new one's Kind, and fill doesn't count.
func TestMakeFrom(t *testing.T) {
	t.Parallel()
	cols := columns()
	for _, kind := range []byte{api.Int, api.Text, api.Bool} {
		for from, c := range cols {
			want := api.ErrForm
			if c.Kind == kind {
				want = api.OK
			}
			for _, fill := range []api.Value{{}, number(1), text("\xff"), truth(7), {Kind: 9}, {N: 1}} {
				makes(t, "from "+c.Name, made{cols: cols, more: seen(kind), fill: fill, from: from}, want)
			}
		}
	}
}

// P16.1: from is below 0: fill is a value of the new one's Kind, or Null.
func TestMakeFill(t *testing.T) {
	t.Parallel()
	values := func(kind byte) []api.Value {
		switch kind {
		case api.Int:
			return []api.Value{number(0), number(-1), number(math.MinInt64), number(math.MaxInt64)}
		case api.Text:
			return []api.Value{text(""), text("a"), text("\x00"), text("\u00e9"), text(strings.Repeat("t", 60))}
		}
		return []api.Value{truth(0), truth(1)}
	}
	none := []api.Value{
		{Kind: api.Int, N: 1, S: "x"}, {Kind: api.Text, N: 1, S: "x"}, {Kind: api.Bool, N: 2}, {Kind: api.Bool, N: -1}, {Kind: api.Bool, N: 1, S: "x"},
		text("\xff"), text("a\xc3"), text(strings.Repeat("t", 61)), {Kind: 4}, {Kind: 255}, {Kind: api.Null, N: 1}, {Kind: api.Null, S: "x"},
	}
	for _, from := range []int{-1, -2, -256, math.MinInt} {
		for _, cols := range [][]api.Column{many(1), columns(), many(api.MaxColumns - 1)} {
			for _, kind := range []byte{api.Int, api.Text, api.Bool} {
				try := func(v api.Value, want api.Errno) {
					makes(t, "fill", made{cols: cols, more: seen(kind), fill: v, from: from}, want)
				}
				try(api.Value{}, api.OK)
				for _, v := range none {
					try(v, api.ErrForm)
				}
				for _, other := range []byte{api.Int, api.Text, api.Bool} {
					want := api.ErrForm
					if other == kind {
						want = api.OK
					}
					for _, v := range values(other) {
						try(v, want)
					}
				}
			}
		}
	}
}

// The rule of memory: what Make is handed isn't changed, its spare room neither, and not kept.
func TestMakeMemory(t *testing.T) {
	t.Parallel()
	for _, m := range shifts() {
		cols := append(slices.Clone(m.cols), many(3)...)
		was := slices.Clone(cols)
		handed := m
		handed.cols = cols[:len(m.cols)]
		r := newRig(t, handed)
		if !slices.Equal(cols, was) {
			t.Errorf("Make made %v of %v", cols, was)
		}
		clear(cols)
		r.made = m
		w := r.begin()
		w.rowsOf(4)
		w.tells()
		w.start()
		w.tells()
		w.step(1)
		w.put(w.row("row2")...)
		w.tells()
		w.abort()
	}
}

// The document's example, and P16.2: what the states are.
func TestExample(t *testing.T) {
	t.Parallel()
	if shift.Old != 0 || shift.Moving != 1 || shift.New != 2 {
		t.Errorf("the states are %d, %d, %d", shift.Old, shift.Moving, shift.New)
	}
	r := newRig(t, made{1, []api.Column{{Name: "name", Kind: api.Text}}, seen(api.Int), number(0), -1})
	x := r.begin().x
	sure(t, "Put", r.tab.Put(x, []api.Value{text("a")}))
	sure(t, "Start", r.tab.Start(x))
	if row, e := r.tab.Get(x, "a"); !slices.Equal(row, []api.Value{text("a"), number(0)}) || e != api.OK {
		t.Errorf("Get = %v, error %d", row, e)
	}
	for _, want := range []int{1, 0} {
		if n, e := r.tab.Step(x, 5); n != want || e != api.OK {
			t.Errorf("Step = %d, error %d, want %d", n, e, want)
		}
	}
	if s, e := r.tab.State(x); s != shift.New || e != api.OK {
		t.Errorf("State = %d, error %d", s, e)
	}
}
