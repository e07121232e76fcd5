package record_test

import (
	"bytes"
	"encoding/binary"
	"encoding/hex"
	"hash/crc32"
	"math"
	"math/rand"
	"slices"
	"strings"
	"testing"

	"muniment/api"
	"muniment/probe"
	"muniment/record"
)

var kinds = []byte{api.Begin, api.Update, api.Undo, api.Commit, api.End, api.Check}

// least is the least record of a kind.
func least(kind byte) api.Record {
	r := api.Record{Kind: kind}
	switch kind {
	case api.Update:
		r.Before, r.After = []byte{0}, []byte{0}
	case api.Undo:
		r.After = []byte{0}
	}
	return r
}

// greatest is a record of a kind of which every number and list is as great as can be.
func greatest(kind byte) api.Record {
	r := api.Record{Kind: kind, Tx: math.MaxUint64}
	if kind != api.Begin {
		r.Prev = math.MaxUint64
	}
	switch kind {
	case api.Update:
		r.Page, r.Before, r.After = api.MaxPages-1, full(api.PageSize, 0xff), full(api.PageSize, 0xfe)
	case api.Undo:
		r.Page, r.After, r.Next = api.MaxPages-1, full(api.PageSize, 0xff), math.MaxUint64
	case api.Check:
		r.Dirty, r.Open = dirty(api.MaxFrames), true
	}
	return r
}

func full(n int, b byte) []byte { return bytes.Repeat([]byte{b}, n) }

// dirty is so many pages, of which the last ones are the last there can be.
func dirty(n int) []api.Dirty {
	var out []api.Dirty
	for i := range n {
		out = append(out, api.Dirty{Page: api.MaxPages - n + i, Since: math.MaxUint64 - uint64(i)})
	}
	return out
}

// same: are two records the same? nil and empty lists are.
func same(a, b api.Record) bool {
	return a.Kind == b.Kind && a.Tx == b.Tx && a.Prev == b.Prev && a.Page == b.Page && a.Off == b.Off && a.Next == b.Next && a.Open == b.Open &&
		bytes.Equal(a.Before, b.Before) && bytes.Equal(a.After, b.After) && slices.Equal(a.Dirty, b.Dirty)
}

// copied is the record with lists of its own.
func copied(r api.Record) api.Record {
	r.Before, r.After, r.Dirty = bytes.Clone(r.Before), bytes.Clone(r.After), slices.Clone(r.Dirty)
	return r
}

// summed is p with its sum behind it.
func summed(p []byte) []byte {
	return binary.BigEndian.AppendUint32(bytes.Clone(p), crc32.ChecksumIEEE(p))
}

// laid is the bytes of a record, as the document lays them.
func laid(r api.Record) []byte {
	big := binary.BigEndian
	p := big.AppendUint64([]byte{r.Kind}, r.Tx)
	if r.Kind != api.Begin {
		p = big.AppendUint64(p, r.Prev)
	}
	if r.Kind == api.Update || r.Kind == api.Undo {
		p = big.AppendUint16(p, uint16(r.Page))
		p = big.AppendUint16(p, uint16(r.Off))
		p = big.AppendUint16(p, uint16(len(r.After)))
		p = slices.Concat(p, r.Before, r.After)
	}
	if r.Kind == api.Undo {
		p = big.AppendUint64(p, r.Next)
	}
	if r.Kind == api.Check {
		b := byte(2 * len(r.Dirty))
		if r.Open {
			b++
		}
		p = append(p, b)
		for _, d := range r.Dirty {
			p = big.AppendUint64(big.AppendUint16(p, uint16(d.Page)), d.Since)
		}
	}
	return summed(p)
}

// takes fails the test, if the record isn't one, or its bytes aren't as laid, or don't bring it back.
func takes(t *testing.T, what string, r api.Record) {
	t.Helper()
	if !record.Form(r) {
		t.Errorf("%s: Form(%+v) = false", what, r)
	}
	p, e := record.Encode(r)
	if !bytes.Equal(p, laid(r)) || e != api.OK {
		t.Fatalf("%s: Encode(%+v) = %x, error %d, want %x", what, r, p, e, laid(r))
	}
	if back, e := record.Decode(p); !same(back, r) || e != api.OK {
		t.Errorf("%s: Decode(%x) = %+v, error %d, want %+v", what, p, back, e, r)
	}
}

// refuses fails the test, if what is no record is one.
func refuses(t *testing.T, what string, r api.Record) {
	t.Helper()
	if record.Form(r) {
		t.Errorf("%s: Form(%+v) = true", what, r)
	}
	if p, e := record.Encode(r); p != nil || e != api.ErrForm {
		t.Errorf("%s: Encode(%+v) = %x, error %d", what, r, p, e)
	}
}

// unread fails the test, if bytes aren't answered with that error, and nothing beside it.
func unread(t *testing.T, what string, p []byte, want api.Errno) {
	t.Helper()
	if r, e := record.Decode(p); !same(r, api.Record{}) || e != want {
		t.Errorf("%s: Decode(%x) = %+v, error %d, want error %d", what, p, r, e, want)
	}
}

// P8.1: the bytes of each kind, written out but for their sum.
func TestKnown(t *testing.T) {
	for _, c := range []struct {
		r    api.Record
		want string
	}{
		{api.Record{Kind: api.Begin, Tx: 1}, "01 0000000000000001"},
		{api.Record{Kind: api.Begin}, "01 0000000000000000"},
		{
			api.Record{Kind: api.Update, Tx: 0x0102030405060708, Prev: 0x1112131415161718, Page: 0xabc, Off: 0x102, Before: []byte("ab"), After: []byte("cd")},
			"02 0102030405060708 1112131415161718 0abc 0102 0002 6162 6364",
		},
		{
			api.Record{Kind: api.Undo, Tx: 3, Prev: 480, Page: 4095, Off: 509, After: []byte("xyz"), Next: 0x2122232425262728},
			"03 0000000000000003 00000000000001e0 0fff 01fd 0003 78797a 2122232425262728",
		},
		{api.Record{Kind: api.Commit, Tx: 5, Prev: 0xfedcba9876543210}, "04 0000000000000005 fedcba9876543210"},
		{api.Record{Kind: api.End, Tx: math.MaxUint64, Prev: 6}, "05 ffffffffffffffff 0000000000000006"},
		{api.Record{Kind: api.Check, Tx: 7, Prev: 8}, "06 0000000000000007 0000000000000008 00"},
		{api.Record{Kind: api.Check, Open: true}, "06 0000000000000000 0000000000000000 01"},
		{
			api.Record{Kind: api.Check, Dirty: []api.Dirty{{Page: 0, Since: 480}, {Page: 0x203, Since: 0x3132333435363738}}},
			"06 0000000000000000 0000000000000000 04 0000 00000000000001e0 0203 3132333435363738",
		},
		{api.Record{Kind: api.Check, Dirty: []api.Dirty{{Page: 4095}}, Open: true}, "06 0000000000000000 0000000000000000 03 0fff 0000000000000000"},
	} {
		want, err := hex.DecodeString(strings.ReplaceAll(c.want, " ", ""))
		if err != nil {
			t.Fatal(err)
		}
		if p, e := record.Encode(c.r); !bytes.Equal(p, summed(want)) || e != api.OK {
			t.Errorf("Encode(%+v) = %x, error %d, want %x", c.r, p, e, summed(want))
		}
		takes(t, c.want, c.r)
	}
	// The sum is CRC-32, the highest byte first.
	if p, e := record.Encode(api.Record{Kind: api.Begin, Tx: 1}); string(p) != "\x01\x00\x00\x00\x00\x00\x00\x00\x01\x86\x75\x30\x7b" || e != api.OK {
		t.Errorf("Encode(Begin 1) = %x, error %d", p, e)
	}
}

// P8.1: the least and the greatest record of each kind, and how many bytes they have.
func TestEnds(t *testing.T) {
	sizes := map[byte][2]int{
		api.Begin: {13, 13}, api.Update: {29, 1051}, api.Undo: {36, 547}, api.Commit: {21, 21}, api.End: {21, 21}, api.Check: {22, 662},
	}
	for _, k := range kinds {
		for i, r := range []api.Record{least(k), greatest(k)} {
			takes(t, "an end", r)
			if p, _ := record.Encode(r); len(p) != sizes[k][i] || len(p) > api.MaxRecord {
				t.Errorf("Encode(%+v) has %d bytes, want %d", r, len(p), sizes[k][i])
			}
		}
	}
}

// P8.1: numbers that are no kind, whatever stands beside them.
func TestNoKind(t *testing.T) {
	for b := range 256 {
		kind := byte(b)
		if slices.Contains(kinds, kind) {
			continue
		}
		for _, k := range kinds {
			for _, r := range []api.Record{least(k), greatest(k)} {
				p := laid(r)
				p[0] = kind
				unread(t, "no kind", summed(p[:len(p)-4]), api.ErrForm)
				r.Kind = kind
				refuses(t, "no kind", r)
			}
		}
		unread(t, "no kind, alone", summed([]byte{kind}), api.ErrForm)
	}
}

// field is a field of a record: the kinds it is named for, and some things that it isn't where it isn't named.
type field struct {
	name  string
	kinds []byte
	sets  []func(*api.Record)
}

func number(at func(*api.Record) *uint64) []func(*api.Record) {
	var out []func(*api.Record)
	for _, u := range []uint64{1, 256, 1 << 32, 1 << 63, math.MaxUint64} {
		out = append(out, func(r *api.Record) { *at(r) = u })
	}
	return out
}

func place(at func(*api.Record) *int) []func(*api.Record) {
	var out []func(*api.Record)
	for _, n := range []int{1, -1, 4095, 4096, 65536, math.MinInt, math.MaxInt} {
		out = append(out, func(r *api.Record) { *at(r) = n })
	}
	return out
}

func list(at func(*api.Record) *[]byte) []func(*api.Record) {
	var out []func(*api.Record)
	for _, n := range []int{1, 2, 512, 513} {
		out = append(out, func(r *api.Record) { *at(r) = make([]byte, n) })
	}
	return out
}

var changing = []byte{api.Update, api.Undo}

var fields = []field{
	{"Prev", []byte{api.Update, api.Undo, api.Commit, api.End, api.Check}, number(func(r *api.Record) *uint64 { return &r.Prev })},
	{"Page", changing, place(func(r *api.Record) *int { return &r.Page })},
	{"Off", changing, place(func(r *api.Record) *int { return &r.Off })},
	{"Before", []byte{api.Update}, list(func(r *api.Record) *[]byte { return &r.Before })},
	{"After", changing, list(func(r *api.Record) *[]byte { return &r.After })},
	{"Next", []byte{api.Undo}, number(func(r *api.Record) *uint64 { return &r.Next })},
	{"Dirty", []byte{api.Check}, []func(*api.Record){
		func(r *api.Record) { r.Dirty = []api.Dirty{{}} },
		func(r *api.Record) { r.Dirty = dirty(2) },
		func(r *api.Record) { r.Dirty = dirty(64) },
	}},
	{"Open", []byte{api.Check}, []func(*api.Record){func(r *api.Record) { r.Open = true }}},
}

// P8.1: each field that isn't named for a kind, and isn't 0, empty or false.
func TestNotNamed(t *testing.T) {
	tried := 0
	for _, k := range kinds {
		for _, f := range fields {
			if slices.Contains(f.kinds, k) {
				continue
			}
			for _, set := range f.sets {
				for _, r := range []api.Record{least(k), greatest(k)} {
					set(&r)
					refuses(t, f.name, r)
					tried++
				}
			}
		}
		// Lists that are empty and not nil are none.
		r := least(k)
		if r.Before == nil {
			r.Before = []byte{}
		}
		if r.After == nil {
			r.After = []byte{}
		}
		r.Dirty = []api.Dirty{}
		takes(t, "empty lists", r)
	}
	if tried < 100 {
		t.Errorf("only %d were tried", tried)
	}
}

// change is an Update or an Undo of so many bytes.
func change(kind byte, page, off, size int) api.Record {
	r := api.Record{Kind: kind, Tx: 1, Page: page, Off: off, After: full(size, 0xa5)}
	if kind == api.Update {
		r.Before = full(size, 0x5a)
	}
	return r
}

// P8.1: the limits of Page, Off, After and Before, and one beyond each.
func TestChangeLimits(t *testing.T) {
	for _, k := range changing {
		for _, page := range []int{0, 1, 255, 256, api.MaxPages - 1} {
			takes(t, "Page", change(k, page, 0, 1))
		}
		for _, page := range []int{-1, math.MinInt, api.MaxPages, api.MaxPages + 1, 65536, 1 << 32, math.MaxInt} {
			refuses(t, "Page", change(k, page, 0, 1))
		}
		for _, size := range []int{1, 2, 255, 256, 257, 511, 512} {
			for _, off := range []int{0, 1, 512 - size - 1, 512 - size} {
				if off >= 0 && off+size <= 512 {
					takes(t, "Off", change(k, 7, off, size))
				}
			}
			for _, off := range []int{-1, -512, math.MinInt, 512 - size + 1, 512, 513, 65536, 1 << 32, math.MaxInt - size, math.MaxInt - size + 1, math.MaxInt} {
				refuses(t, "Off", change(k, 7, off, size))
			}
		}
		for _, size := range []int{0, 513, 1024, 65536, 65536 + 1} {
			refuses(t, "After", change(k, 7, 0, size))
			refuses(t, "After", change(k, 7, -size, size))
		}
		r := change(k, 7, 0, 1)
		r.After = nil
		refuses(t, "no After", r)
	}
	for _, size := range []int{1, 2, 256, 512} {
		for _, other := range []int{0, size - 1, size + 1, 2 * size, size + 65536} {
			r := change(api.Update, 7, 0, size)
			r.Before = full(other, 1)
			refuses(t, "Before", r)
		}
	}
}

// P8.1: the limits of Dirty, and one beyond each; pages that don't rise.
func TestCheckLimits(t *testing.T) {
	of := func(l ...api.Dirty) api.Record { return api.Record{Kind: api.Check, Tx: 1, Prev: 2, Dirty: l} }
	for _, n := range []int{0, 1, 2, 63, 64} {
		for _, open := range []bool{false, true} {
			r := of(dirty(n)...)
			r.Open = open
			takes(t, "Dirty", r)
		}
	}
	for _, n := range []int{65, 66, 127, 128, 192, 256, 4096} {
		refuses(t, "Dirty", of(dirty(n)...))
	}
	takes(t, "Dirty", of(api.Dirty{Page: 0, Since: 9}, api.Dirty{Page: 1, Since: 9}, api.Dirty{Page: 4095, Since: 0}))
	for _, page := range []int{-1, math.MinInt, 4096, 65536, 1 << 32, math.MaxInt} {
		refuses(t, "a page", of(api.Dirty{Page: page}))
		refuses(t, "the last page", of(api.Dirty{Page: 0}, api.Dirty{Page: page}))
		refuses(t, "the first page", of(api.Dirty{Page: page}, api.Dirty{Page: 4095}))
	}
	for _, pages := range [][]int{{0, 0}, {5, 5}, {4095, 4095}, {1, 0}, {4095, 0}, {0, 2, 1}, {0, 1, 1}, {0, 0, 1}, {1, 0, 2}, {3, 2, 1}, {1, 2, 0}} {
		var l []api.Dirty
		for i, page := range pages {
			l = append(l, api.Dirty{Page: page, Since: uint64(i)})
		}
		refuses(t, "pages that don't rise", of(l...))
		unread(t, "pages that don't rise", laid(of(l...)), api.ErrForm)
	}
	l := dirty(64)
	l[63].Page = l[62].Page
	refuses(t, "the last page once more", of(l...))
	unread(t, "the last page once more", laid(of(l...)), api.ErrForm)
}

// P8.1: too few bytes are ErrForm whatever they are; five are enough for a sum.
func TestTooFew(t *testing.T) {
	unread(t, "nil", nil, api.ErrForm)
	for n := range 5 {
		for _, b := range []byte{0, 1, 0xff} {
			unread(t, "too few", full(n, b), api.ErrForm)
		}
	}
	// Four bytes that are the sum of none, and spare room with a record in it.
	unread(t, "the sum of none", summed(nil), api.ErrForm)
	p := laid(least(api.Begin))
	for n := range 5 {
		unread(t, "too few with room", p[:n], api.ErrForm)
	}
	for b := range 256 {
		unread(t, "five", summed([]byte{byte(b)}), api.ErrForm)
	}
	unread(t, "five with a wrong sum", []byte{1, 0, 0, 0, 0}, api.ErrSum)
	unread(t, "noughts", make([]byte, 13), api.ErrSum)
}

// P8.1: a bit that was turned over, a byte less, a byte more: the sum is wrong.
func TestWrongSum(t *testing.T) {
	for _, k := range kinds {
		p := laid(least(k))
		for i := range 8 * len(p) {
			q := bytes.Clone(p)
			q[i/8] ^= 1 << (i % 8)
			unread(t, "a bit", q, api.ErrSum)
		}
		for n := 5; n < len(p); n++ {
			unread(t, "fewer", p[:n], api.ErrSum)
			unread(t, "fewer in front", p[len(p)-n:], api.ErrSum)
		}
		for b := range 256 {
			unread(t, "one more", append(bytes.Clone(p), byte(b)), api.ErrSum)
		}
		// The sum with its lowest byte first is none.
		slices.Reverse(p[len(p)-4:])
		unread(t, "the sum turned about", p, api.ErrSum)
	}
}

// P8.1: a right sum, and no record all the same: each beginning of a record, and a byte or more behind it.
func TestRightSum(t *testing.T) {
	for _, k := range kinds {
		for _, r := range []api.Record{least(k), greatest(k)} {
			p := laid(r)
			p = p[:len(p)-4]
			for n := 1; n < len(p); n++ {
				unread(t, "fewer", summed(p[:n]), api.ErrForm)
			}
			for _, more := range []string{"\x00", "\x01", "\xff", "\x00\x00\x00\x00", "\x01\x00\x00\x00\x00\x00\x00\x00\x01"} {
				unread(t, "more", summed(append(bytes.Clone(p), more...)), api.ErrForm)
			}
			unread(t, "twice", summed(laid(r)), api.ErrForm)
			unread(t, "once more", summed(append(bytes.Clone(p), p...)), api.ErrForm)
		}
	}
	for _, c := range []struct{ what, bytes string }{
		{"an Update of no bytes", "02 0000000000000001 0000000000000000 0000 0000 0000"},
		{"an Undo of no bytes", "03 0000000000000001 0000000000000000 0000 0000 0000 0000000000000000"},
		{"Page 4096", "02 0000000000000001 0000000000000000 1000 0000 0001 61 62"},
		{"Page 65535", "03 0000000000000001 0000000000000000 ffff 0000 0001 61 0000000000000000"},
		{"Off 512", "02 0000000000000001 0000000000000000 0000 0200 0001 61 62"},
		{"Off 65535", "03 0000000000000001 0000000000000000 0000 ffff 0001 61 0000000000000000"},
		{"Off 511, two bytes", "02 0000000000000001 0000000000000000 0000 01ff 0002 6161 6262"},
		{"an Update with half its bytes", "02 0000000000000001 0000000000000000 0000 0000 0002 6161"},
		{"an Undo without Next", "03 0000000000000001 0000000000000000 0000 0000 0002 6161"},
		{"a Check with too few pages", "06 0000000000000001 0000000000000000 04 0000 0000000000000000"},
		{"a Check with too many pages", "06 0000000000000001 0000000000000000 02 0000 0000000000000000 0001 0000000000000000"},
		{"a Check of page 4096", "06 0000000000000001 0000000000000000 02 1000 0000000000000000"},
	} {
		p, err := hex.DecodeString(strings.ReplaceAll(c.bytes, " ", ""))
		if err != nil {
			t.Fatal(err)
		}
		unread(t, c.what, summed(p), api.ErrForm)
	}
	for _, k := range changing {
		for _, size := range []int{513, 600, 65535} {
			unread(t, "too many bytes", laid(change(k, 0, 0, size)), api.ErrForm)
		}
	}
	for _, n := range []int{65, 66, 127} {
		unread(t, "too many pages", laid(api.Record{Kind: api.Check, Dirty: dirty(n)}), api.ErrForm)
	}
}

// drawn is a record that is drawn.
func drawn(draw *rand.Rand) api.Record {
	r := api.Record{Kind: kinds[draw.Intn(len(kinds))], Tx: draw.Uint64() >> draw.Intn(64)}
	if r.Kind != api.Begin {
		r.Prev = draw.Uint64() >> draw.Intn(64)
	}
	if slices.Contains(changing, r.Kind) {
		r.Page = draw.Intn(api.MaxPages)
		r.After = drawnBytes(draw, 1+draw.Intn(api.PageSize))
		r.Off = draw.Intn(api.PageSize - len(r.After) + 1)
	}
	switch r.Kind {
	case api.Update:
		r.Before = drawnBytes(draw, len(r.After))
	case api.Undo:
		r.Next = draw.Uint64()
	case api.Check:
		r.Open = draw.Intn(2) == 1
		pages := draw.Perm(api.MaxPages)[:draw.Intn(api.MaxFrames+1)]
		slices.Sort(pages)
		for _, page := range pages {
			r.Dirty = append(r.Dirty, api.Dirty{Page: page, Since: draw.Uint64()})
		}
	}
	return r
}

func drawnBytes(draw *rand.Rand, n int) []byte {
	p := make([]byte, n)
	draw.Read(p)
	return p
}

// P8.1: what is encoded is decoded as it was.
func TestBack(t *testing.T) {
	draw := rand.New(rand.NewSource(1))
	for range 3000 {
		takes(t, "drawn", drawn(draw))
	}
}

// P8.1, P2: what is decoded is what Encode makes: of bytes that are drawn, with a right sum, those that are taken come back as they were; so twice.
func TestOneWay(t *testing.T) {
	draw := rand.New(rand.NewSource(2))
	taken := 0
	for range 20000 {
		p := laid(drawn(draw))
		p = p[:len(p)-4]
		for range 1 + draw.Intn(2) {
			i := draw.Intn(min(len(p), 24))
			p[i] ^= 1 << draw.Intn(8)
		}
		if draw.Intn(8) == 0 {
			p = p[:1+draw.Intn(len(p))]
		}
		p = summed(p)
		q, _ := probe.Roomy(p)
		r, e := record.Decode(p)
		if again, f := record.Decode(q); !same(r, again) || e != f {
			t.Fatalf("Decode(%x) is answered in more than one way", p)
		}
		if e == api.OK {
			taken++
			takes(t, "taken", r)
			if back, _ := record.Encode(r); !bytes.Equal(back, p) {
				t.Fatalf("Decode(%x) = %+v, but Encode of it is %x", p, r, back)
			}
		} else if e != api.ErrForm || !same(r, api.Record{}) {
			t.Fatalf("Decode(%x) = %+v, error %d", p, r, e)
		}
	}
	if taken < 1000 {
		t.Errorf("only %d were taken", taken)
	}
}

// roomy is the record with lists that have spare room, and all of that.
func roomy(r api.Record) (api.Record, []byte, []byte, []api.Dirty) {
	var before, after []byte
	if len(r.Before) > 0 {
		r.Before, before = probe.Roomy(r.Before)
	}
	if len(r.After) > 0 {
		r.After, after = probe.Roomy(r.After)
	}
	all := append(slices.Clone(r.Dirty), api.Dirty{Page: 5, Since: 6}, api.Dirty{Page: 7, Since: 8})
	r.Dirty = all[:len(r.Dirty)]
	return r, before, after, all
}

// The rule of memory: what is handed in isn't changed, its spare room neither.
func TestArgumentsStay(t *testing.T) {
	for _, k := range kinds {
		for _, was := range []api.Record{least(k), greatest(k)} {
			r, before, after, all := roomy(was)
			wasBefore, wasAfter, wasAll := bytes.Clone(before), bytes.Clone(after), slices.Clone(all)
			record.Form(r)
			record.Encode(r)
			if !same(r, was) || !bytes.Equal(before, wasBefore) || !bytes.Equal(after, wasAfter) || !slices.Equal(all, wasAll) {
				t.Errorf("%+v was changed", was)
			}
			for n := range len(laid(was)) + 1 {
				p, whole := probe.Roomy(laid(was)[:n])
				wasWhole := bytes.Clone(whole)
				record.Decode(p)
				if !bytes.Equal(whole, wasWhole) {
					t.Errorf("%x was changed", wasWhole[:n])
				}
			}
		}
	}
}

// P2, and the rule of memory: an answer stays, whatever becomes of what was handed in and of other answers, spare room too.
func TestAnswersAreNew(t *testing.T) {
	var inputs [][]byte
	for _, k := range kinds {
		inputs = append(inputs, laid(least(k)), laid(greatest(k)))
	}
	made := func() [][]byte {
		var out [][]byte
		for _, p := range inputs {
			r, _ := record.Decode(p)
			again, _ := record.Encode(r)
			out = append(out, again, r.Before, r.After)
		}
		return out
	}
	for _, i := range probe.Spoilt(made) {
		t.Errorf("answer %d was written over by another", i)
	}
	for _, k := range kinds {
		want := greatest(k)
		p, _ := probe.Roomy(laid(want))
		r, _ := record.Decode(p)
		other, _ := record.Decode(p)
		probe.Fill(p)
		clear(other.Dirty[:cap(other.Dirty)])
		if !same(r, want) {
			t.Errorf("an answer became %+v as the bytes were written over", r)
		}
		r = copied(want)
		q, _ := record.Encode(r)
		probe.Fill(r.Before)
		probe.Fill(r.After)
		clear(r.Dirty)
		if !bytes.Equal(q, laid(want)) {
			t.Errorf("an answer became %x as the record was written over", q)
		}
	}
}

// P1: whatever is handed in, each call ends.
func TestAnything(t *testing.T) {
	for b := range 256 {
		for _, n := range []int{1, 5, 13, 21, 22, 1047, 1200, 300000} {
			p := full(n, byte(b))
			record.Decode(p)
			record.Decode(summed(p))
		}
		r := api.Record{Kind: byte(b), Tx: math.MaxUint64, Prev: math.MaxUint64, Page: math.MaxInt, Off: math.MaxInt, Next: math.MaxUint64, Open: true}
		refuses(t, "everything", r)
		r.Off = math.MinInt
		r.Before, r.After, r.Dirty = make([]byte, 300000), make([]byte, 300000), make([]api.Dirty, 300000)
		refuses(t, "everything", r)
	}
}
