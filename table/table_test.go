package table_test

import (
	"math"
	"slices"
	"strconv"
	"strings"
	"testing"

	"muniment/api"
	"muniment/table"
)

// named are columns of these names, that are a Text each.
func named(names ...string) []api.Column {
	var out []api.Column
	for _, name := range names {
		out = append(out, api.Column{Name: name, Kind: api.Text})
	}
	return out
}

// many are n columns.
func many(n int) []api.Column {
	var names []string
	for i := range n {
		names = append(names, "c"+strconv.Itoa(i))
	}
	return named(names...)
}

// news sees what New answers.
func news(t *testing.T, what string, cols []api.Column, want api.Errno) {
	t.Helper()
	for _, id := range []byte{0, 1, 255} {
		tab, e := table.New(id, cols)
		if e != want || (tab != nil) != (want == api.OK) {
			t.Errorf("%s: a table %v, error %d, want %d", what, tab != nil, e, want)
		}
		if want == api.OK && !slices.Equal(tab.Columns(), cols) {
			t.Errorf("%s: Columns = %v, want %v", what, tab.Columns(), cols)
		}
	}
}

// P15.1: how many columns there may be, goes ahead of what they are.
func TestNewHowMany(t *testing.T) {
	t.Parallel()
	news(t, "nil", nil, api.ErrLong)
	news(t, "none", []api.Column{}, api.ErrLong)
	for n := 1; n <= api.MaxColumns; n++ {
		news(t, strconv.Itoa(n), many(n), api.OK)
	}
	for _, n := range []int{api.MaxColumns + 1, 100, 256, 257, 65537} {
		news(t, strconv.Itoa(n), many(n), api.ErrLong)
		news(t, strconv.Itoa(n)+" that are none", make([]api.Column, n), api.ErrLong)
	}
	news(t, "one more, with a name twice", append(many(api.MaxColumns), many(1)...), api.ErrLong)
}

// P15.1: how long a column's name may be, in bytes, whatever they are.
func TestNewNames(t *testing.T) {
	t.Parallel()
	for n := range 40 {
		want := api.ErrForm
		if n >= 1 && n <= api.MaxName {
			want = api.OK
		}
		name := strings.Repeat("n", n)
		news(t, name, named(name), want)
		news(t, "a, "+name, named("a", name), want)
		news(t, name+", a", named(name, "a"), want)
	}
	for _, name := range []string{" ", "\x00", "\xff", strings.Repeat("\u00e9", 8), strings.Repeat("\x00", 16), "A"} {
		news(t, name, named(name, "a"), api.OK)
	}
	for _, name := range []string{strings.Repeat("\u00e9", 8) + "a", strings.Repeat("\u00e9", 9), strings.Repeat("\x00", 17), strings.Repeat("a", 70000)} {
		news(t, name, named("a", name), api.ErrForm)
	}
}

// asSaid: may a column be so, by the document?
func asSaid(first bool, kind byte, index, unique bool) bool {
	switch {
	case first:
		return kind == api.Text && !index && !unique
	case !index:
		return (kind == api.Int || kind == api.Text || kind == api.Bool) && !unique
	case unique:
		return kind == api.Int || kind == api.Text
	}
	return kind == api.Int || kind == api.Bool
}

// P15.1: each kind, with an index and without, Unique and not, in each place.
func TestNewKinds(t *testing.T) {
	t.Parallel()
	for kind := range 256 {
		for what := range 4 {
			c := api.Column{Name: "c", Kind: byte(kind), Index: what&1 != 0, Unique: what&2 != 0}
			for at := range 3 {
				cols := named("x", "y", "z")
				cols[at] = c
				want := api.ErrForm
				if asSaid(at == 0, c.Kind, c.Index, c.Unique) {
					want = api.OK
				}
				news(t, strconv.Itoa(at)+" "+strconv.Itoa(kind)+" "+strconv.Itoa(what), cols, want)
			}
		}
	}
}

// P15.1: of several faults that one is told which stands first from the left; of those of one column ErrForm.
func TestNewWhich(t *testing.T) {
	t.Parallel()
	bad := api.Column{Name: "bad", Kind: 9}
	for _, c := range []struct {
		what string
		cols []api.Column
		want api.Errno
	}{
		{"a name twice", named("a", "a"), api.ErrExists},
		{"a name twice, apart", named("a", "b", "c", "a"), api.ErrExists},
		{"a name twice behind the first", named("a", "b", "b"), api.ErrExists},
		{"names that are unlike in their case alone", named("a", "A"), api.OK},
		{"names one of which begins with the other", named("a", "aa", "aaa"), api.OK},
		{"a name twice, then what is none", append(named("a", "a"), bad), api.ErrExists},
		{"what is none, then a name twice", append(named("a"), bad, api.Column{Name: "a", Kind: api.Text}), api.ErrForm},
		{"a name twice, the second being none", []api.Column{{Name: "a", Kind: api.Text}, {Name: "a"}}, api.ErrForm},
		{"a name twice, the second one Unique alone", []api.Column{{Name: "a", Kind: api.Text}, {Name: "a", Kind: api.Int, Unique: true}}, api.ErrForm},
		{"the first one an Int, and a name twice", []api.Column{{Name: "a", Kind: api.Int}, {Name: "a", Kind: api.Int}}, api.ErrForm},
		{"the last one of twelve twice", append(many(11), api.Column{Name: "c0", Kind: api.Bool}), api.ErrExists},
	} {
		news(t, c.what, c.cols, c.want)
	}
}

// P15.1, and the rule of memory: what is handed in isn't changed and may be written over, and so may what is told.
func TestColumnsStay(t *testing.T) {
	t.Parallel()
	whole := append(columns(), api.Column{Name: "spare", Kind: 7}, api.Column{Name: "room", Kind: 8})
	was := slices.Clone(whole)
	cols := whole[:len(columns())]
	tab, e := table.New(1, cols)
	sure(t, "New", e)
	if !slices.Equal(whole, was) {
		t.Errorf("New made %v of %v", whole, was)
	}
	clear(whole)
	for range 2 {
		told, other := tab.Columns(), tab.Columns()
		if !slices.Equal(told, columns()) || !slices.Equal(other, columns()) {
			t.Fatalf("Columns = %v, %v", told, other)
		}
		clear(told[:cap(told)])
		if !slices.Equal(other, columns()) {
			t.Errorf("an answer became %v with another one", other)
		}
	}
	row := (&rig{cols: columns()}).having("a", number(1))
	if !tab.Form(row) {
		t.Error("a row is none any more")
	}
}

// P15.1: a row has a value for each column.
func TestFormHowMany(t *testing.T) {
	t.Parallel()
	for n := 1; n <= api.MaxColumns; n++ {
		tab, e := table.New(1, many(n))
		sure(t, "New", e)
		for k := range 20 {
			row := slices.Repeat([]api.Value{text("a")}, k)
			if got := tab.Form(row); got != (k == n) {
				t.Errorf("Form of %d values for %d columns = %v", k, n, got)
			}
		}
		if tab.Form(nil) || tab.Form(make([]api.Value, 300)) {
			t.Error("a row of no value, or of 300")
		}
	}
}

// P15.1: each value is one, of its column's Kind, or Null but in the first one.
func TestFormKinds(t *testing.T) {
	t.Parallel()
	r := &rig{cols: columns()}
	tab, e := table.New(1, r.cols)
	sure(t, "New", e)
	forms := func(row []api.Value, want bool) {
		t.Helper()
		if got := tab.Form(row); got != want {
			t.Errorf("Form(%v) = %v", row, got)
		}
	}
	forms(r.first(""), true)
	forms(r.first(strings.Repeat("a", 60)), true)
	forms(r.first(strings.Repeat("\x00", 60)), true)
	forms(r.first(strings.Repeat("a", 61)), false)
	forms(r.first("\xff"), false)
	for col, c := range r.cols {
		row := r.first("a")
		for _, kind := range []api.Column{{Kind: api.Int}, {Kind: api.Text}, {Kind: api.Bool}} {
			for _, v := range pick(kind) {
				row[col] = v
				forms(row, kind.Kind == c.Kind)
			}
		}
		row[col] = api.Value{}
		forms(row, col > 0)
		for _, v := range []api.Value{
			{N: 1}, {S: "a"}, {Kind: api.Int, S: "1"}, {Kind: api.Text, N: 1}, {Kind: api.Text, S: "\xff"}, {Kind: api.Text, S: strings.Repeat("a", 61)},
			{Kind: api.Bool, N: 2}, {Kind: api.Bool, N: -1}, {Kind: api.Bool, N: 1, S: "1"}, {Kind: 4}, {Kind: 255, N: math.MaxInt64},
		} {
			row[col] = v
			forms(row, false)
		}
	}
}

// P15.1: all values but the first have, encoded, as many bytes as may be, or one more; the first doesn't count.
func TestFormBytes(t *testing.T) {
	t.Parallel()
	tab, e := table.New(1, named("name", "a", "b", "c"))
	sure(t, "New", e)
	for _, name := range []string{"", "a", strings.Repeat("a", 60)} {
		// One byte says how many values there are, two stand ahead of each text.
		for n := range 61 {
			row := []api.Value{text(name), text(strings.Repeat("a", 60)), text(strings.Repeat("b", n)), text(strings.Repeat("c", 40))}
			if got, want := tab.Form(row), 1+3*2+60+n+40 <= 149; got != want {
				t.Errorf("Form of texts of 60, %d and 40 bytes = %v", n, got)
			}
		}
	}
	ints := []api.Column{{Name: "name", Kind: api.Text}}
	for i := range 11 {
		ints = append(ints, api.Column{Name: "i" + strconv.Itoa(i), Kind: api.Int})
	}
	tab, e = table.New(1, ints)
	sure(t, "New", e)
	if !tab.Form(append([]api.Value{text("a")}, slices.Repeat([]api.Value{number(-1)}, 11)...)) {
		t.Error("eleven numbers are none")
	}
}

// P1: each call of a nil table.
func TestNilTable(t *testing.T) {
	t.Parallel()
	var none *table.Table
	r := newRig(t, 1, columns())
	w := r.begin()
	w.put(r.first("a")...)
	if none.Columns() != nil || none.Form(nil) || none.Form(r.first("a")) {
		t.Errorf("Columns = %v, Form(nil) = %v, Form = %v", none.Columns(), none.Form(nil), none.Form(r.first("a")))
	}
	for _, x := range []*twin{w, {rig: r}} {
		for _, row := range [][]api.Value{nil, r.first("a"), {{Kind: 9}}, make([]api.Value, 20)} {
			answers(t, "Put", none.Put(x.x, row), api.ErrNone)
		}
		for _, name := range []string{"", "a", "\xff", strings.Repeat("a", 1000)} {
			if row, e := none.Get(x.x, name); row != nil || e != api.ErrNone {
				t.Errorf("Get = %v, error %d", row, e)
			}
			answers(t, "Del", none.Del(x.x, name), api.ErrNone)
		}
		if l, e := none.List(x.x); l != nil || e != api.ErrNone {
			t.Errorf("List = %v, error %d", l, e)
		}
		for _, col := range []int{math.MinInt, -1, 0, 1, 8, math.MaxInt} {
			for _, v := range []api.Value{{}, number(1), {Kind: 9}} {
				if l, e := none.By(x.x, col, v); l != nil || e != api.ErrNone {
					t.Errorf("By(%d, %v) = %v, error %d", col, v, l, e)
				}
			}
		}
	}
	w.tells()
}
