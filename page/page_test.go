package page_test

import (
	"bytes"
	"encoding/hex"
	"fmt"
	"math"
	"math/rand"
	"slices"
	"strings"
	"testing"

	"muniment/api"
	"muniment/page"
	"muniment/probe"
)

// cells are those of some words: the keys and the values in turn.
func cells(words ...string) []api.Cell {
	var out []api.Cell
	for k := 0; k < len(words); k += 2 {
		out = append(out, api.Cell{Key: []byte(words[k]), Value: []byte(words[k+1])})
	}
	return out
}

// sized are cells with rising keys, of so many bytes on a page each, at least three.
func sized(sizes ...int) []api.Cell {
	var out []api.Cell
	for k, n := range sizes {
		value := max(n-2-api.MaxKey, 0)
		key := bytes.Repeat([]byte{byte(k)}, n-2-value)
		out = append(out, api.Cell{Key: key, Value: bytes.Repeat([]byte{0xee}, value)})
	}
	return out
}

// copied is the cells with memory of their own.
func copied(l []api.Cell) []api.Cell {
	var out []api.Cell
	for _, c := range l {
		out = append(out, api.Cell{Key: bytes.Clone(c.Key), Value: bytes.Clone(c.Value)})
	}
	return out
}

func sameCell(a, b api.Cell) bool { return bytes.Equal(a.Key, b.Key) && bytes.Equal(a.Value, b.Value) }

func sameCells(a, b []api.Cell) bool { return slices.EqualFunc(a, b, sameCell) }

func same(a, b api.Page) bool {
	return a.Kind == b.Kind && a.Next == b.Next && sameCells(a.Cells, b.Cells)
}

// size is how many bytes cells have, as the document says.
func size(l []api.Cell) int {
	n := 0
	for _, c := range l {
		n += 2 + len(c.Key) + len(c.Value)
	}
	return n
}

// laid is the bytes of a page, as the document lays them, whether it is right or not.
func laid(p api.Page) []byte {
	out := []byte{p.Kind, byte(p.Next >> 16), byte(p.Next >> 8), byte(p.Next), byte(len(p.Cells)), 0}
	for _, c := range p.Cells {
		out = append(out, byte(len(c.Key)), byte(len(c.Value)))
		out = append(append(out, c.Key...), c.Value...)
	}
	return append(out, make([]byte, max(504-len(out), 0))...)
}

// takes fails the test, if the page isn't right, or its bytes aren't as laid, or don't bring it back.
func takes(t *testing.T, what string, p api.Page) {
	t.Helper()
	if !page.Form(p) {
		t.Errorf("%s: Form(%+v) = false", what, p)
	}
	b, e := page.Encode(p)
	if len(b) != 504 || !bytes.Equal(b, laid(p)) || e != api.OK {
		t.Fatalf("%s: Encode(%+v) = %x, error %d, want %x", what, p, b, e, laid(p))
	}
	if back, e := page.Decode(b); !same(back, p) || e != api.OK {
		t.Errorf("%s: Decode(%x) = %+v, error %d, want %+v", what, b, back, e, p)
	}
}

// refuses fails the test, if what is no right page is one.
func refuses(t *testing.T, what string, p api.Page) {
	t.Helper()
	if page.Form(p) {
		t.Errorf("%s: Form = true", what)
	}
	if b, e := page.Encode(p); b != nil || e != api.ErrForm {
		t.Errorf("%s: Encode = %x, error %d", what, b, e)
	}
}

// unread fails the test, if bytes are taken for a page.
func unread(t *testing.T, what string, b []byte) {
	t.Helper()
	if p, e := page.Decode(b); !same(p, api.Page{}) || e != api.ErrForm {
		t.Errorf("%s: Decode(%x) = %+v, error %d", what, b, p, e)
	}
}

var kinds = []byte{api.Free, api.Leaf, api.Inner, api.Head}

// P10.1: the document's example, and the bytes of some pages, written out but for the noughts at the end.
func TestKnown(t *testing.T) {
	if page.Room != 498 || page.Body != 504 {
		t.Errorf("Room, Body = %d, %d", page.Room, page.Body)
	}
	for _, c := range []struct {
		p    api.Page
		want string
	}{
		{api.Page{Kind: api.Leaf}, "01"},
		{api.Page{}, ""},
		{api.Page{Kind: api.Free, Next: 4095}, "00 000fff"},
		{api.Page{Kind: api.Head, Next: 1, Cells: cells("free", "\x00\x00\x00\x00", "next", "\x00\x00\x00\x02")}, "03 000001 02 00 0404 66726565 00000000 0404 6e657874 00000002"},
		{api.Page{Kind: api.Inner, Next: 0x203, Cells: cells("k", "\x00\x00\x01\x02")}, "02 000203 01 00 0104 6b 00000102"},
		{api.Page{Kind: api.Leaf, Cells: cells("", "", "\x00", "v", "a", "")}, "01 000000 03 00 0000 0101 00 76 0100 61"},
		{api.Page{Kind: api.Leaf, Cells: cells("", "x")}, "01 000000 01 00 0001 78"},
	} {
		want, err := hex.DecodeString(strings.ReplaceAll(c.want, " ", ""))
		if err != nil {
			t.Fatal(err)
		}
		want = append(want, make([]byte, 504-len(want))...)
		if b, e := page.Encode(c.p); !bytes.Equal(b, want) || e != api.OK {
			t.Errorf("Encode(%+v) = %x, error %d, want %x", c.p, b, e, want)
		}
		takes(t, c.want, c.p)
	}
}

// numbered are n cells with keys of two bytes and values of so many.
func numbered(n, value int) []api.Cell {
	var out []api.Cell
	for k := range n {
		out = append(out, api.Cell{Key: []byte{byte(k >> 8), byte(k)}, Value: bytes.Repeat([]byte{byte(k)}, value)})
	}
	return out
}

// P10.1: each kind, and each limit of Next, of keys, values, their number and their room, and one beyond it.
func TestLimits(t *testing.T) {
	key := func(n int) []byte { return bytes.Repeat([]byte{'k'}, n) }
	for kind := range 256 {
		p := api.Page{Kind: byte(kind), Next: 7, Cells: cells("a", "1")}
		if slices.Contains(kinds, byte(kind)) {
			takes(t, "kind", p)
		} else {
			refuses(t, fmt.Sprintf("kind %d", kind), p)
			unread(t, "kind", laid(p))
		}
	}
	for _, kind := range kinds {
		for _, next := range []int{0, 1, 255, 256, 257, 4094, 4095} {
			takes(t, "next", api.Page{Kind: kind, Next: next})
		}
		for _, next := range []int{-1, -4096, math.MinInt, 4096, 4097, 1 << 16, 1 << 24, 1<<24 + 1, 1 << 32, math.MaxInt} {
			refuses(t, fmt.Sprintf("next %d", next), api.Page{Kind: kind, Next: next})
		}
		for _, l := range [][]api.Cell{
			{{Key: key(90), Value: key(150)}}, {{Key: key(90)}}, {{Value: key(150)}}, {{}}, {{}, {Key: key(1)}},
			numbered(1, 0), numbered(124, 0),
			numbered(99, 1), numbered(83, 2), numbered(3, 150),
			sized(240, 240, 18), sized(166, 166, 166), sized(242, 242, 14), append(cells("", ""), sized(240, 240, 16)...),
		} {
			takes(t, "fits", api.Page{Kind: kind, Cells: l})
		}
		for what, l := range map[string][]api.Cell{
			"a key of 91":         {{Key: key(91)}},
			"a key of 256":        {{Key: key(256)}},
			"a key of 300000":     {{Key: key(300000)}},
			"a value of 151":      {{Value: key(151)}},
			"a value of 256":      {{Value: key(256)}},
			"a value of 406":      {{Value: key(256 + 150)}},
			"a second key of 91":  {{Key: key(1)}, {Key: key(91)}},
			"a second value":      {{Key: key(1)}, {Key: key(2), Value: key(151)}},
			"one byte too many":   sized(240, 240, 19),
			"one of four":         append(cells("", ""), sized(240, 240, 17)...),
			"two bytes too many":  numbered(125, 0),
			"255 cells":           numbered(255, 0),
			"256 cells":           numbered(256, 0),
			"257 cells":           numbered(257, 0),
			"300000 cells":        make([]api.Cell, 300000),
			"one key twice":       cells("a", "1", "a", "1"),
			"no key twice":        cells("", "1", "", "2"),
			"keys that fall":      cells("b", "1", "a", "1"),
			"the last keys fall":  cells("a", "", "b", "", "ab", ""),
			"the shorter behind":  cells("ab", "", "a", ""),
			"bytes above 7f fall": cells("\xff", "", "\x7f", ""),
		} {
			refuses(t, what, api.Page{Kind: kind, Cells: l})
			if b := laid(api.Page{Kind: kind, Cells: l}); len(b) == 504 && len(l) < 256 {
				unread(t, what, b)
			}
		}
		takes(t, "bytes above 7f", api.Page{Kind: kind, Cells: cells("\x7f", "", "\x80", "", "\xff", "", "\xff\x00", "")})
	}
}

// P10.1: bytes that are too few, too many, or of no page.
func TestUnread(t *testing.T) {
	right := laid(api.Page{Kind: api.Leaf, Next: 3, Cells: cells("a", "1", "bc", "23")})
	if _, e := page.Decode(right); e != api.OK {
		t.Fatalf("Decode: error %d", e)
	}
	for n := range 504 {
		unread(t, "too few", right[:n])
	}
	for _, n := range []int{1, 8, 504, 300000} {
		unread(t, "too many", append(bytes.Clone(right), make([]byte, n)...))
	}
	unread(t, "none", nil)
	full := laid(api.Page{Kind: api.Leaf, Cells: sized(240, 240, 18)})
	for _, c := range []struct {
		what string
		of   []byte
		at   int
		b    byte
	}{
		{"kind 4", right, 0, 4}, {"kind 255", right, 0, 255},
		{"next 4096", right, 2, 0x10}, {"next 65536", right, 1, 1}, {"next above", right, 1, 0xff},
		{"one cell less", right, 4, 1}, {"no cells", right, 4, 0}, {"255 cells", right, 4, 255},
		{"two cells without keys more", right, 4, 4}, {"one cell without a key more", right, 4, 3},
		{"the sixth byte", right, 5, 1}, {"the sixth byte", right, 5, 0xff},
		{"a key of 255", right, 6, 255}, {"a key of 91", right, 6, 91}, {"a value of 255", right, 7, 255}, {"a value of 151", right, 7, 151},
		{"the last byte", right, 503, 1}, {"the byte behind the cells", right, 16, 1},
		{"one cell more than has room", full, 4, 4}, {"a value that has no room", full, 487, 1},
	} {
		b := bytes.Clone(c.of)
		if b[c.at] == c.b {
			t.Fatalf("%s: nothing is turned", c.what)
		}
		b[c.at] = c.b
		unread(t, c.what, b)
	}
	// With one byte left behind the cells no cell stands there.
	almost := laid(api.Page{Kind: api.Leaf, Cells: sized(240, 240, 17)})
	almost[4]++
	unread(t, "a cell of one byte", almost)
}

// drawnCells are cells that fit on a page.
func drawnCells(draw *rand.Rand) []api.Cell {
	var out []api.Cell
	for range draw.Intn(20) {
		c := api.Cell{Key: drawnBytes(draw, draw.Intn(draw.Intn(90)+1)), Value: drawnBytes(draw, draw.Intn(draw.Intn(150)+1))}
		if at, there := slices.BinarySearchFunc(out, c, func(a, b api.Cell) int { return bytes.Compare(a.Key, b.Key) }); !there && size(out)+size([]api.Cell{c}) <= 498 {
			out = slices.Insert(out, at, c)
		}
	}
	return out
}

func drawnBytes(draw *rand.Rand, n int) []byte {
	p := make([]byte, n)
	draw.Read(p)
	return p
}

// P10.1: what is encoded is decoded as it was.
func TestBack(t *testing.T) {
	draw := rand.New(rand.NewSource(1))
	for range 5000 {
		takes(t, "drawn", api.Page{Kind: kinds[draw.Intn(4)], Next: draw.Intn(4096), Cells: drawnCells(draw)})
	}
}

// P10.1, P2: what is decoded is what Encode makes: of bytes that are drawn those that are taken come back as they were; so twice.
func TestOneWay(t *testing.T) {
	draw := rand.New(rand.NewSource(2))
	taken := 0
	for range 40000 {
		b := laid(api.Page{Kind: kinds[draw.Intn(4)], Next: draw.Intn(4096), Cells: drawnCells(draw)})
		for range draw.Intn(3) {
			b[draw.Intn([]int{8, 40, 504}[draw.Intn(3)])] ^= 1 << draw.Intn(8)
		}
		p, e := page.Decode(b)
		q, _ := probe.Roomy(b)
		if again, f := page.Decode(q); !same(p, again) || e != f {
			t.Fatalf("Decode(%x) is answered in more than one way", b)
		}
		if e != api.OK {
			unread(t, "drawn", b)
			continue
		}
		taken++
		if back, e := page.Encode(p); !bytes.Equal(back, b) || e != api.OK {
			t.Fatalf("Decode(%x) = %+v, but Encode of it is %x, error %d", b, p, back, e)
		}
	}
	if taken < 10000 || taken > 39000 {
		t.Errorf("%d were taken", taken)
	}
}

// P10.1: how many bytes cells have, those too that fit on no page.
func TestSize(t *testing.T) {
	for _, c := range []struct {
		l    []api.Cell
		want int
	}{
		{nil, 0}, {[]api.Cell{}, 0}, {cells("", ""), 2}, {cells("a", ""), 3}, {cells("", "a"), 3}, {cells("ab", "cde"), 7},
		{cells("ab", "cde", "a", "b"), 11}, {make([]api.Cell, 1000), 2000}, {sized(3, 92, 93, 240), 428}, {[]api.Cell{{Key: make([]byte, 300000), Value: make([]byte, 300000)}}, 600002},
	} {
		if got := page.Size(c.l); got != c.want {
			t.Errorf("Size of %d cells = %d, want %d", len(c.l), got, c.want)
		}
	}
	draw := rand.New(rand.NewSource(3))
	for range 1000 {
		if l := drawnCells(draw); page.Size(l) != size(l) {
			t.Fatalf("Size(%v) = %d", l, page.Size(l))
		}
	}
}

// finds, puts and drops fail the test, if a call isn't answered as the document says, cell by cell.
func finds(t *testing.T, l []api.Cell, key []byte) {
	t.Helper()
	want := 0
	for want < len(l) && bytes.Compare(l[want].Key, key) < 0 {
		want++
	}
	is := want < len(l) && bytes.Equal(l[want].Key, key)
	if at, there := page.Find(l, key); at != want || there != is {
		t.Fatalf("Find(%q, %q) = %d, %v, want %d, %v", l, key, at, there, want, is)
	}
}

func puts(t *testing.T, l []api.Cell, c api.Cell) []api.Cell {
	t.Helper()
	var want []api.Cell
	for _, x := range l {
		if bytes.Compare(x.Key, c.Key) < 0 {
			want = append(want, x)
		}
	}
	want = append(want, c)
	for _, x := range l {
		if bytes.Compare(x.Key, c.Key) > 0 {
			want = append(want, x)
		}
	}
	got := page.Put(l, c)
	if !sameCells(got, want) {
		t.Fatalf("Put(%q, %q) = %q", l, c, got)
	}
	return got
}

func drops(t *testing.T, l []api.Cell, key []byte) []api.Cell {
	t.Helper()
	var want []api.Cell
	for _, x := range l {
		if !bytes.Equal(x.Key, key) {
			want = append(want, x)
		}
	}
	got := page.Drop(l, key)
	if !sameCells(got, want) {
		t.Fatalf("Drop(%q, %q) = %q", l, key, got)
	}
	return got
}

// P10.2: the document's example; Find, Put and Drop ahead of, between, at and behind all keys.
func TestPlaces(t *testing.T) {
	if got := page.Put(cells("a", "1", "c", "3"), cells("b", "2")[0]); !sameCells(got, cells("a", "1", "b", "2", "c", "3")) {
		t.Errorf("Put = %q", got)
	}
	keys := []string{"", "\x00", "a", "a\x00", "ab", "b", "c", "c\xff", "d", "\x7f", "\x80", "\xff", "\xff\xff"}
	for n := range keys {
		var l []api.Cell
		for k := n % 2; k < n; k += 2 {
			l = append(l, cells(keys[k], fmt.Sprint(k))...)
		}
		for _, key := range keys {
			finds(t, l, []byte(key))
			puts(t, l, cells(key, "new")[0])
			puts(t, l, cells(key, "")[0])
			drops(t, l, []byte(key))
		}
		finds(t, l, nil)
		puts(t, l, api.Cell{})
		drops(t, l, nil)
	}
	// Cells that fit on no page are taken too.
	wide := numbered(700, 3)
	for k := range 701 {
		key := []byte{byte(k >> 8), byte(k)}
		finds(t, wide, key)
		puts(t, wide, api.Cell{Key: key, Value: make([]byte, 1000)})
		drops(t, wide, key)
	}
	draw := rand.New(rand.NewSource(4))
	var l []api.Cell
	for range 20000 {
		key := drawnBytes(draw, draw.Intn(2))
		finds(t, l, key)
		if draw.Intn(2) == 0 {
			l = puts(t, l, api.Cell{Key: key, Value: drawnBytes(draw, draw.Intn(4))})
		} else {
			l = drops(t, l, key)
		}
	}
}

// halves is the least place at which cells are parted the likest, found by trying all.
func halves(l []api.Cell) int {
	best, least := 0, math.MaxInt
	for n := 1; n < len(l); n++ {
		apart := size(l[:n]) - size(l[n:])
		if apart < 0 {
			apart = -apart
		}
		if apart < least {
			best, least = n, apart
		}
	}
	return best
}

// P10.3: Halves of none, one, two and many cells, of like and unlike sizes; of two places that are as good the least.
func TestHalves(t *testing.T) {
	for _, c := range []struct {
		sizes []int
		want  int
	}{
		{nil, 0}, {[]int{10}, 0}, {[]int{240}, 0}, {[]int{10, 10}, 1}, {[]int{3, 240}, 1}, {[]int{240, 3}, 1},
		{[]int{10, 10, 40}, 2}, {[]int{40, 10, 10}, 1}, {[]int{10, 10, 10}, 1}, {[]int{10, 20, 10}, 1}, {[]int{10, 40, 10}, 1},
		{[]int{10, 10, 10, 10}, 2}, {[]int{5, 5, 5, 200}, 3}, {[]int{200, 5, 5, 5}, 1}, {[]int{3, 3, 3, 3, 3}, 2}, {[]int{20, 7, 7, 20}, 2},
	} {
		if got := page.Halves(sized(c.sizes...)); got != c.want || got != halves(sized(c.sizes...)) {
			t.Errorf("Halves(%v) = %d, want %d", c.sizes, got, c.want)
		}
	}
	if got := page.Halves([]api.Cell{}); got != 0 {
		t.Errorf("Halves of none = %d", got)
	}
	draw := rand.New(rand.NewSource(5))
	for range 5000 {
		if l := drawnCells(draw); page.Halves(l) != halves(l) {
			t.Fatalf("Halves(%q) = %d, want %d", l, page.Halves(l), halves(l))
		}
	}
	// Cells that fit on no page, and keys that don't rise, are parted as others are.
	for n := range 300 {
		if l := make([]api.Cell, n); page.Halves(l) != n/2 {
			t.Errorf("Halves of %d cells = %d", n, page.Halves(l))
		}
	}
}

// roomy are the cells with spare room, of the list and of each key and value; and all of that.
func roomy(l []api.Cell) ([]api.Cell, func() [][]byte) {
	all := append(copied(l), cells("spare", "room", "more", "of it")...)
	var wholes [][]byte
	out := all[:len(l)]
	for k, c := range out {
		var key, value []byte
		out[k].Key, key = probe.Roomy(c.Key)
		out[k].Value, value = probe.Roomy(c.Value)
		wholes = append(wholes, key, value)
	}
	return out, func() [][]byte {
		seen := slices.Clone(wholes)
		for _, c := range all {
			seen = append(seen, bytes.Clone(c.Key), bytes.Clone(c.Value))
		}
		for k := range wholes {
			seen[k] = bytes.Clone(wholes[k])
		}
		return seen
	}
}

// The rule of memory: what is handed in isn't changed, its spare room neither.
func TestArgumentsStay(t *testing.T) {
	for n := range 5 {
		l, seen := roomy(cells("b", "1", "d", "2", "f", "3", "h", "4")[:n])
		was := seen()
		for _, key := range []string{"a", "b", "c", "d", "h", "i"} {
			c, whole := probe.Roomy([]byte(key))
			wasWhole := bytes.Clone(whole)
			page.Find(l, c)
			page.Put(l, api.Cell{Key: c, Value: c})
			page.Drop(l, c)
			if !bytes.Equal(whole, wasWhole) {
				t.Errorf("the key %s was changed", key)
			}
		}
		page.Size(l)
		page.Halves(l)
		page.Form(api.Page{Kind: api.Leaf, Cells: l})
		page.Encode(api.Page{Kind: api.Leaf, Cells: l})
		if !slices.EqualFunc(seen(), was, bytes.Equal) {
			t.Errorf("%d cells were changed", n)
		}
		b, whole := probe.Roomy(laid(api.Page{Kind: api.Leaf, Cells: l}))
		wasWhole := bytes.Clone(whole)
		page.Decode(b)
		if !bytes.Equal(whole, wasWhole) {
			t.Errorf("the bytes of %d cells were changed", n)
		}
	}
}

// P2, and the rule of memory: an answer stays, whatever becomes of what was handed in and of other answers, spare room too.
func TestAnswersAreNew(t *testing.T) {
	l := cells("b", "1", "d", "22", "f", "333")
	p := api.Page{Kind: api.Leaf, Cells: l}
	b := laid(p)
	lists := func(l []api.Cell) [][]byte {
		var out [][]byte
		for _, c := range l {
			out = append(out, c.Key, c.Value)
		}
		return out
	}
	made := func() [][]byte {
		out, _ := page.Encode(p)
		back, _ := page.Decode(b)
		return slices.Concat([][]byte{out}, lists(back.Cells),
			lists(page.Put(l, cells("c", "new")[0])), lists(page.Put(l, cells("d", "new")[0])), lists(page.Drop(l, []byte("d"))), lists(page.Drop(l, []byte("x"))))
	}
	for _, i := range probe.Spoilt(made) {
		t.Errorf("answer %d was written over by another", i)
	}
	// The lists of cells themselves, and what was handed in.
	for _, key := range []string{"a", "b", "c", "f", "g"} {
		mine := copied(l)
		c := cells(key, "new")[0]
		put, want := page.Put(mine, c), copied(puts(t, l, c))
		drop, wantDrop := page.Drop(mine, []byte(key)), copied(drops(t, l, []byte(key)))
		other := page.Put(mine, c)
		clear(other[:cap(other)])
		other = page.Drop(mine, []byte(key))
		clear(other[:cap(other)])
		for _, x := range lists(append(mine, c)) {
			probe.Fill(x)
		}
		clear(mine)
		if !sameCells(put, want) || !sameCells(drop, wantDrop) {
			t.Errorf("Put, Drop of %s became %q, %q", key, put, drop)
		}
	}
	mine := bytes.Clone(b)
	back, _ := page.Decode(mine)
	other, _ := page.Decode(mine)
	probe.Fill(mine)
	clear(other.Cells[:cap(other.Cells)])
	if !same(back, p) {
		t.Errorf("an answer became %+v", back)
	}
}

// P1: whatever is handed in, each call ends: keys that don't rise, too.
func TestAnything(t *testing.T) {
	draw := rand.New(rand.NewSource(6))
	for n := range 2000 {
		b := drawnBytes(draw, 504)
		if n%2 == 0 {
			b[0], b[1], b[2], b[5] = byte(n%4), 0, 0, 0
		}
		if p, e := page.Decode(b); e == api.OK {
			takes(t, "drawn", p)
		}
		var l []api.Cell
		for range draw.Intn(30) {
			l = append(l, api.Cell{Key: drawnBytes(draw, draw.Intn(3)), Value: drawnBytes(draw, draw.Intn(300))})
		}
		key := drawnBytes(draw, draw.Intn(3))
		page.Find(l, key)
		page.Put(l, api.Cell{Key: key})
		page.Drop(l, key)
		page.Size(l)
		page.Halves(l)
		page.Encode(api.Page{Kind: byte(n), Next: draw.Int() - draw.Int(), Cells: l})
	}
	for b := range 256 {
		for _, n := range []int{0, 1, 503, 504, 505, 300000} {
			page.Decode(bytes.Repeat([]byte{byte(b)}, n))
		}
	}
	twice := make([]api.Cell, 300000)
	page.Find(twice, []byte("a"))
	page.Put(twice, cells("a", "")[0])
	page.Drop(twice, nil)
	page.Halves(twice)
}
