package snap

import (
	"bytes"
	"math"

	"muniment/api"
	"muniment/octet"
)

// The first byte of a key of the tree tells what its cell is: the number of the last commit, or a version. Behind the latter's stand the key's text and the number of the commit, all bits of it turned over: of a key's versions the newest stands first, so that a Scan for one cell finds what a moment sees.
const (
	lastCell byte = iota
	versionCell
	behindCells
)

// The first byte of a version's value.
const (
	isThere byte = iota
	isGone
)

// version is what a commit has made of a key.
type version struct {
	key    string
	number uint64
	write
	// cell is the key of its cell in the tree.
	cell []byte
}

// keyOf is the key of the cell of a version; the first of those behind all of the key is that of the number 0, which no commit has.
func keyOf(key string, number uint64) []byte {
	return append(textOf(key), octet.Uint(^number)...)
}

// textOf is what the cells of all versions of a key begin with.
func textOf(key string) []byte {
	return append([]byte{versionCell}, octet.Text(key)...)
}

// valueOf is the value of the cell of a version.
func valueOf(w write) []byte {
	if w.gone {
		return []byte{isGone}
	}
	return append([]byte{isThere}, w.value...)
}

// versionOf is the version of a cell; ErrForm: it is none.
func versionOf(c api.Cell) (version, api.Errno) {
	key, next, e := octet.ReadText(c.Key, 1)
	if e != api.OK {
		return version{}, api.ErrForm
	}
	turned, next, e := octet.ReadUint(c.Key, next)
	if e != api.OK || next != len(c.Key) || len(c.Value) == 0 {
		return version{}, api.ErrForm
	}
	w := write{value: bytes.Clone(c.Value[1:])}
	switch {
	case c.Value[0] == isGone && len(w.value) == 0:
		w.gone = true
	case c.Value[0] != isThere:
		return version{}, api.ErrForm
	}
	return version{key: key, number: ^turned, write: w, cell: c.Key}, api.OK
}

// versions are those of the keys from one on, below another one (empty: to the end): the keys rise, and of each the newest is the first.
func (db *DB) versions(from, to []byte) ([]version, api.Errno) {
	behind := []byte{behindCells}
	if len(to) > 0 {
		behind = textOf(string(to))
	}
	return db.cells(textOf(string(from)), behind, math.MaxInt)
}

// cells are the versions in the tree from one key of a cell on, below another one, the first most of them.
func (db *DB) cells(from, behind []byte, most int) ([]version, api.Errno) {
	cells, e := db.tree.Scan(from, behind, most)
	if e != api.OK {
		return nil, e
	}
	var out []version
	for _, c := range cells {
		v, e := versionOf(c)
		if e != api.OK {
			return nil, e
		}
		out = append(out, v)
	}
	return out, api.OK
}

// groups parts versions by their keys.
func groups(all []version) [][]version {
	var out [][]version
	for from, to := 0, 0; from < len(all); from = to {
		for to < len(all) && all[to].key == all[from].key {
			to++
		}
		out = append(out, all[from:to])
	}
	return out
}

// seenAt is the place of that version of a key which a moment sees; len(l): it sees none.
func seenAt(l []version, moment uint64) int {
	for i, v := range l {
		if v.number <= moment {
			return i
		}
	}
	return len(l)
}

// get is the value of a key at a moment.
func (db *DB) get(key string, moment uint64) ([]byte, api.Errno) {
	l, e := db.cells(keyOf(key, moment), keyOf(key, 0), 1)
	if e != api.OK {
		return nil, e
	}
	if len(l) == 0 || l[0].gone {
		return nil, api.ErrNone
	}
	return l[0].value, api.OK
}

// scan is the keys, and their values, at a moment.
func (db *DB) scan(from, to []byte, moment uint64) ([]api.Cell, api.Errno) {
	all, e := db.versions(from, to)
	if e != api.OK {
		return nil, e
	}
	var out []api.Cell
	for _, l := range groups(all) {
		if i := seenAt(l, moment); i < len(l) && !l[i].gone {
			out = append(out, api.Cell{Key: []byte(l[i].key), Value: l[i].value})
		}
	}
	return out, api.OK
}

// readLast is the number of the last commit; ErrNone: there is no tree.
func (db *DB) readLast() (uint64, api.Errno) {
	l, e := db.tree.Scan([]byte{lastCell}, []byte{versionCell}, 1)
	if e != api.OK || len(l) == 0 {
		return 0, e
	}
	last, next, e := octet.ReadUint(l[0].Value, 0)
	if e != api.OK || next != len(l[0].Value) {
		return 0, api.ErrForm
	}
	return last, api.OK
}
