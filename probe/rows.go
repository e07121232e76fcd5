package probe

import (
	"maps"
	"slices"

	"muniment/api"
)

// Columns have one of each kind that a column of a table may be of.
func Columns() []api.Column {
	return []api.Column{
		{Name: "name", Kind: api.Text},
		{Name: "number", Kind: api.Int, Index: true, Unique: true},
		{Name: "text", Kind: api.Text, Index: true, Unique: true},
		{Name: "group", Kind: api.Int, Index: true},
		{Name: "flag", Kind: api.Bool, Index: true},
		{Name: "n", Kind: api.Int},
		{Name: "s", Kind: api.Text},
		{Name: "b", Kind: api.Bool},
	}
}

// Rows are those of a table, by their names.
type Rows map[string][]api.Value

// List is all of them, by the bytes of their names.
func (r Rows) List() [][]api.Value {
	return r.With(func([]api.Value) bool { return true })
}

// With are those of which something is so.
func (r Rows) With(so func(row []api.Value) bool) [][]api.Value {
	var out [][]api.Value
	for _, name := range slices.Sorted(maps.Keys(r)) {
		if so(r[name]) {
			out = append(out, r[name])
		}
	}
	return out
}

// Taken: has another row than that one its value in a Unique column?
func (r Rows) Taken(cols []api.Column, row []api.Value) bool {
	for col, c := range cols {
		for name, other := range r {
			if c.Unique && name != row[0].S && row[col].Kind != api.Null && other[col] == row[col] {
				return true
			}
		}
	}
	return false
}

// SameRows: are two lists of rows the same?
func SameRows(a, b [][]api.Value) bool { return slices.EqualFunc(a, b, slices.Equal) }

// SpoiltRows is Spoilt of rows.
func SpoiltRows(made func() [][]api.Value) []int {
	var out []int
	var want [][]api.Value
	// Copies: what is handed out again would be written over here too.
	for _, row := range made() {
		want = append(want, slices.Clone(row))
	}
	for i := range want {
		got, other := made(), made()
		clear(got[i][:cap(got[i])])
		for k := range got {
			if !slices.Equal(other[k], want[k]) || k != i && !slices.Equal(got[k], want[k]) {
				out = append(out, k)
			}
		}
	}
	return out
}
