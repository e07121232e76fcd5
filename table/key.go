package table

import (
	"muniment/api"
	"muniment/codec"
)

// last stands behind all names: no text that is UTF-8 has this byte.
const last = 0xff

// rows is what the keys of rows begin with; a name follows. As a 0 takes two bytes of a key, the first column has the byte 1, the next one 2.
func (t *Table) rows() []byte { return []byte{t.id, 1} }

// entries is what the keys begin with by which a column's index finds the rows that have a value there. What is kept there is a row's name.
func (t *Table) entries(col int, v api.Value) []byte {
	// What isn't a value is found nowhere: nobody comes here with it.
	p, _ := codec.Key(v)
	return append([]byte{t.id, byte(col) + 1}, p...)
}

// entry is the key by which a column's index finds a row that has a value there. Where many rows may have it, so that those who put them don't clash, each has a key of its own.
func (t *Table) entry(col int, v api.Value, name string) []byte {
	p := t.entries(col, v)
	if !t.cols[col].Unique {
		p = append(p, name...)
	}
	return p
}

// apart are the keys by which the indexes find a row as it is, and wouldn't, if it were another one. Null is found by none.
func (t *Table) apart(name string, as, other []api.Value) [][]byte {
	var out [][]byte
	for i, c := range t.cols[:min(len(t.cols), len(as))] {
		if c.Index && as[i].Kind != api.Null && (i >= len(other) || other[i] != as[i]) {
			out = append(out, t.entry(i, as[i], name))
		}
	}
	return out
}
