package store_test

import (
	"bytes"
	"fmt"
	"math"
	"math/rand"
	"testing"

	"muniment/api"
	"muniment/disk"
	"muniment/log"
	"muniment/page"
	"muniment/probe"
	"muniment/record"
	"muniment/store"
)

// The document's examples.
func TestExample(t *testing.T) {
	a := filled(1)
	for _, commit := range []bool{false, true} {
		r := newRig(t, 16, 2, 2)
		r.begin()
		r.write(0, a)
		want := make([]byte, body)
		if commit {
			r.commit()
			want = a
		}
		turnOff(t, r.d)
		answers(t, "Restart", r.d.Restart(nil), api.OK)
		s, e := store.Open(r.d, 16, 2)
		if e != api.OK {
			t.Fatalf("Open: error %d", e)
		}
		if b, e := s.Read(0); !bytes.Equal(b, want) || e != api.OK {
			t.Errorf("committed %v: Read(0) = %.8x.., error %d", commit, b, e)
		}
	}
}

// P12.1: the sizes that work, those that don't, and which error goes first; a disk that is off isn't asked ahead of them.
func TestSizes(t *testing.T) {
	for _, off := range []bool{false, true} {
		for _, c := range []struct {
			sectors, count, frames int
			// format is what Format is to answer, open what Open is, where a store was made if one can be.
			format, open api.Errno
		}{
			{18, 16, 1, api.OK, api.OK}, {18, 16, api.MaxFrames, api.OK, api.OK}, {19, 17, 2, api.OK, api.OK}, {40, 16, 63, api.OK, api.OK},
			{api.MaxPages, api.MaxPages - 2, 4, api.OK, api.OK}, {api.MaxPages, 16, 4, api.OK, api.OK},
			{18, 16, 0, api.OK, api.ErrArg}, {18, 16, -1, api.OK, api.ErrArg}, {18, 16, api.MaxFrames + 1, api.OK, api.ErrArg},
			{18, 16, math.MaxInt, api.OK, api.ErrArg}, {18, 16, math.MinInt, api.OK, api.ErrArg},
			{17, 16, 1, api.ErrArg, api.ErrArg}, {18, 17, 1, api.ErrArg, api.ErrArg}, {1, 16, 1, api.ErrArg, api.ErrArg},
			{40, 15, 1, api.ErrArg, api.ErrArg}, {40, 0, 1, api.ErrArg, api.ErrArg}, {40, -1, 1, api.ErrArg, api.ErrArg}, {40, -16, 1, api.ErrArg, api.ErrArg},
			{40, math.MinInt, 1, api.ErrArg, api.ErrArg}, {40, math.MinInt + 1, 1, api.ErrArg, api.ErrArg},
			{40, math.MaxInt, 1, api.ErrArg, api.ErrArg}, {40, math.MaxInt - 1, 1, api.ErrArg, api.ErrArg}, {40, 39, 1, api.ErrArg, api.ErrArg},
			{api.MaxPages, api.MaxPages - 1, 4, api.ErrArg, api.ErrArg}, {api.MaxPages, api.MaxPages, 4, api.ErrArg, api.ErrArg},
			{40, 15, 0, api.ErrArg, api.ErrArg},
		} {
			d := drive(t, c.sectors)
			if off {
				turnOff(t, d)
				c.format, c.open = crashElse(c.format), crashElse(c.open)
			}
			what := fmt.Sprintf("%d sectors, %d of log, %d frames, off %v: ", c.sectors, c.count, c.frames, off)
			answers(t, what+"Format", store.Format(d, c.count), c.format)
			s, e := store.Open(d, c.count, c.frames)
			answers(t, what+"Open", e, c.open)
			if (s != nil) != (e == api.OK) {
				t.Errorf("%sOpen: a store %v beside error %d", what, s != nil, e)
			}
			if e == api.OK && (s.Pages() != c.sectors-1-c.count || s.InTx()) {
				t.Errorf("%sPages = %d, InTx = %v", what, s.Pages(), s.InTx())
			}
		}
	}
	for _, count := range []int{15, 16, -1} {
		answers(t, "Format of no disk", store.Format(nil, count), api.ErrNone)
		for _, frames := range []int{0, 1} {
			s, e := store.Open(nil, count, frames)
			if s != nil || e != api.ErrNone {
				t.Errorf("Open of no disk: a store %v, error %d", s != nil, e)
			}
		}
	}
}

// crashElse is what is answered while the power is off: ErrCrash, where no error goes ahead of it.
func crashElse(e api.Errno) api.Errno {
	if e == api.OK {
		return api.ErrCrash
	}
	return e
}

// P12.1: Format makes all pages noughts, durable, whatever stood there: the first one and the last one, of a store that was used too; on sectors of its own alone.
func TestFormat(t *testing.T) {
	d := drive(t, 16+8)
	for i := range d.Len() {
		answers(t, "Write", d.Write(i, bytes.Repeat([]byte{byte(i + 1)}, api.PageSize)), api.OK)
	}
	for round := range 3 {
		count := 16 + round%2
		answers(t, "Format", store.Format(d, count), api.OK)
		if d.Pending() != 0 {
			t.Errorf("behind Format %d writes are on their way", d.Pending())
		}
		answers(t, "Restart", d.Restart(nil), api.OK)
		r := &rig{t: t, d: d, count: count, pages: d.Len() - 1 - count, frames: 3, sure: noughts(d.Len() - 1 - count)}
		if !r.opens() {
			t.Fatal("the store isn't opened")
		}
		r.begin()
		for i := range r.pages {
			r.write(i, filled(i))
		}
		r.commit()
		r.flush()
		if !r.opens() {
			t.Fatal("the store isn't opened")
		}
	}
}

// P12.1: sectors that hold no store, or one of another size.
func TestNoStore(t *testing.T) {
	for what, c := range map[string]struct {
		made func(d *disk.Disk)
		want []api.Errno
	}{
		"noughts": {func(d *disk.Disk) {}, []api.Errno{api.ErrSum, api.ErrForm}},
		"others": {func(d *disk.Disk) {
			for i := range d.Len() {
				d.Write(i, bytes.Repeat([]byte{byte(7 * i), 3}, api.PageSize/2))
			}
		}, []api.Errno{api.ErrSum, api.ErrForm}},
		"another count": {func(d *disk.Disk) { store.Format(d, 17) }, []api.Errno{api.ErrSum, api.ErrForm}},
		"its first sector spoilt": {func(d *disk.Disk) {
			store.Format(d, 16)
			b, _ := d.Read(0)
			b[50] ^= 1
			d.Write(0, b)
		}, []api.Errno{api.ErrSum, api.ErrForm}},
		"a log alone": {func(d *disk.Disk) { log.Format(d, 0, 16) }, []api.Errno{api.OK}},
	} {
		d := drive(t, 30)
		c.made(d)
		s, e := store.Open(d, 16, 3)
		ok := false
		for _, want := range c.want {
			ok = ok || e == want
		}
		if !ok || (s != nil) != (e == api.OK) {
			t.Errorf("%s: Open: a store %v, error %d, want one of %v", what, s != nil, e, c.want)
		}
	}
}

// foreign opens a store into whose log somebody else has put records.
func foreign(t *testing.T, check int, records ...[]byte) (*store.Store, api.Errno) {
	t.Helper()
	d := drive(t, 16+4)
	answers(t, "Format", store.Format(d, 16), api.OK)
	g, e := log.Open(d, 0, 16)
	answers(t, "log.Open", e, api.OK)
	var places []uint64
	for _, p := range records {
		at, e := g.Append(p, 0)
		answers(t, "Append", e, api.OK)
		places = append(places, at)
	}
	answers(t, "log.Flush", g.Flush(), api.OK)
	if check >= 0 {
		answers(t, "Mark", g.Mark(places[check], log.First), api.OK)
	}
	return store.Open(d, 16, 3)
}

// P1, P12.1: a log that no store has written: Open ends, and tells so.
func TestForeignLog(t *testing.T) {
	one := []byte{1}
	many := make([]byte, api.PageSize)
	bytesOf := func(r api.Record) []byte {
		p, e := record.Encode(r)
		answers(t, "Encode", e, api.OK)
		return p
	}
	begin := bytesOf(api.Record{Kind: api.Begin, Tx: 1}) // 15 bytes of the log
	spoilt := bytes.Clone(begin)
	spoilt[3] ^= 1
	for what, c := range map[string]struct {
		check   int
		records [][]byte
	}{
		"no record":                {-1, [][]byte{[]byte("abc")}},
		"another's sum":            {-1, [][]byte{begin, spoilt}},
		"a page too far":           {-1, [][]byte{begin, bytesOf(api.Record{Kind: api.Update, Tx: 1, Prev: 480, Page: 3, Before: one, After: one})}},
		"bytes too far":            {-1, [][]byte{begin, bytesOf(api.Record{Kind: api.Update, Tx: 1, Prev: 480, Off: body, Before: one, After: one})}},
		"too many bytes":           {-1, [][]byte{begin, bytesOf(api.Record{Kind: api.Update, Tx: 1, Prev: 480, Before: many, After: many})}},
		"without beginning":        {-1, [][]byte{bytesOf(api.Record{Kind: api.Update, Tx: 1, Before: one, After: one})}},
		"one that leads on":        {-1, [][]byte{begin, bytesOf(api.Record{Kind: api.Update, Tx: 1, Prev: 1 << 60, Before: one, After: one})}},
		"one that leads to itself": {-1, [][]byte{begin, bytesOf(api.Record{Kind: api.Undo, Tx: 1, Prev: 480, After: one, Next: 495})}},
		"two that lead round":      {-1, [][]byte{begin, bytesOf(api.Record{Kind: api.Undo, Tx: 1, Prev: 480, After: one, Next: 533}), bytesOf(api.Record{Kind: api.Undo, Tx: 1, Prev: 495, After: one, Next: 495})}},
		"into the midst":           {-1, [][]byte{begin, bytesOf(api.Record{Kind: api.Undo, Tx: 1, Prev: 480, After: one, Next: 481})}},
		"a check of none":          {0, [][]byte{bytesOf(api.Record{Kind: api.Check, Tx: 1, Prev: 0, Open: true})}},
		"a check ahead":            {0, [][]byte{bytesOf(api.Record{Kind: api.Check, Dirty: []api.Dirty{{Page: 1, Since: 7}}})}},
		"a check that isn't":       {0, [][]byte{[]byte("check")}},
		"a check of itself":        {0, [][]byte{bytesOf(api.Record{Kind: api.Check, Prev: 480, Open: true})}},
	} {
		if s, e := foreign(t, c.check, c.records...); s != nil || e != api.ErrForm {
			t.Errorf("%s: Open: a store %v, error %d", what, s != nil, e)
		}
	}
	// What a store might have written is taken.
	update := bytesOf(api.Record{Kind: api.Update, Tx: 1, Prev: 480, Page: 1, Off: 3, Before: []byte{0}, After: []byte{9}})
	for n, want := range map[int]byte{1: 0, 2: 0, 3: 9} {
		commit := bytesOf(api.Record{Kind: api.Commit, Tx: 1, Prev: 495})
		s, e := foreign(t, -1, [][]byte{begin, update, commit}[:n]...)
		if e != api.OK {
			t.Fatalf("Open: error %d", e)
		}
		if b, e := s.Read(1); b[3] != want || e != api.OK {
			t.Errorf("of %d records: byte %d, error %d", n, b[3], e)
		}
	}
}

// P12.2: one transaction at a time; its numbers rise behind commits, aborts, and what is refused.
func TestBegin(t *testing.T) {
	r := newRig(t, 16, 2, 2)
	for i := range 60 {
		for range 3 {
			r.begin()
			r.tells()
		}
		if i%3 == 0 {
			r.write(i%2, filled(i))
		}
		if i%5 == 0 {
			r.check()
		}
		if i%2 == 0 {
			r.commit()
		} else {
			r.abort()
		}
		r.tells()
	}
}

// P12.2: what there isn't, of pages and transactions.
func TestRefused(t *testing.T) {
	r := newRig(t, 16, 3, 2)
	beyond := []int{-1, -3, math.MinInt, 3, 4, 1 << 32, math.MaxInt}
	long, short := append(filled(1), 0), filled(1)[:body-1]
	for range 2 {
		for _, i := range append([]int{0, 2}, beyond...) {
			for _, b := range [][]byte{filled(1), long, short, nil} {
				answers(t, "Write without a transaction", r.s.Write(i, b), api.ErrState)
			}
		}
		answers(t, "Commit without one", r.s.Commit(), api.ErrState)
		answers(t, "Abort without one", r.s.Abort(), api.ErrState)
		for _, i := range append([]int{0, 1, 2}, beyond...) {
			r.read(i)
		}
		r.begin()
		room := r.s.Room()
		for _, i := range []int{0, 1, 2} {
			for _, b := range [][]byte{long, short, nil, {}, make([]byte, api.PageSize)} {
				answers(t, fmt.Sprintf("Write of %d bytes", len(b)), r.s.Write(i, b), api.ErrForm)
			}
			r.read(i)
		}
		for _, i := range beyond {
			// Of two errors that with the least number.
			for _, b := range [][]byte{filled(1), long, short, nil} {
				answers(t, fmt.Sprintf("Write(%d) of %d bytes", i, len(b)), r.s.Write(i, b), api.ErrArg)
			}
			r.read(i)
		}
		if r.s.Room() != room {
			t.Errorf("what was refused has taken %d of the log's room", room-r.s.Room())
		}
		n, e := r.s.Begin()
		if n != 0 || e != api.ErrState {
			t.Errorf("Begin with one open = %d, error %d", n, e)
		}
		r.write(0, filled(1))
		r.commit()
		if !r.is(r.sure) {
			t.Error("the pages aren't as they were written")
		}
	}
	if page.Body != body {
		t.Errorf("Body = %d", page.Body)
	}
}

// P12.2: Read tells of each page what the open transaction has written, or what is there; Abort and Commit of none, one and many Writes.
func TestPages(t *testing.T) {
	for _, frames := range []int{1, 2, api.MaxFrames} {
		for _, n := range []int{0, 1, 2, 9} {
			for _, ends := range []func(r *rig) bool{(*rig).commit, (*rig).abort} {
				r := newRig(t, 24, 4, frames)
				for round := range 5 {
					r.begin()
					for k := range n {
						r.write((round+k)%4, with(r.now[(round+k)%4], 9*k+round, 1+40*k))
						for i := range 4 {
							r.read(i)
						}
					}
					ends(r)
					for i := range 4 {
						r.read(i)
					}
				}
				answers(t, "Restart", r.d.Restart(nil), api.OK)
				if !r.opens() {
					t.Fatal("the store isn't opened")
				}
			}
		}
	}
}

// P12.2: what stands there already can be written, in a log without room too, and takes none that others lack.
func TestWriteTheSame(t *testing.T) {
	r := newRig(t, 16, 2, 2)
	r.begin()
	for range 2000 {
		r.write(0, r.now[0])
	}
	r.fill(1)
	room := r.s.Room()
	answers(t, "Write", r.s.Write(1, r.now[1]), api.OK)
	if r.s.Room() < room-100 {
		t.Errorf("Room = %d, it was %d", r.s.Room(), room)
	}
	r.commit()
}

// P12.1 to P12.4, P3: a transaction's page goes to the disk ahead of its end, and comes back as it was.
func TestPagesOnTheDisk(t *testing.T) {
	for _, check := range []bool{false, true} {
		for _, ends := range []byte{commits, aborts, reads} {
			r := newRig(t, 16, 4, 4)
			r.takes(step{kind: begins})
			r.write(0, filled(1))
			r.write(1, filled(2))
			r.commit()
			r.begin()
			r.write(0, filled(3))
			r.flush()
			if check {
				r.check()
			}
			r.write(2, filled(4))
			r.flush()
			r.takes(step{kind: ends})
			answers(t, "Restart", r.d.Restart(nil), api.OK)
			if !r.opens() {
				t.Fatal("the store isn't opened")
			}
			r.flush()
		}
	}
}

// P12.3: Flush, with a transaction open and without: the pages are on the disk as they are, durable, behind each step of many.
func TestFlush(t *testing.T) {
	for seed := range int64(10) {
		draw := rand.New(rand.NewSource(seed))
		r := newRig(t, 20, 5, 1+int(seed)%6)
		for range 200 {
			r.takes(drawnStep(draw, 5))
			if draw.Intn(4) > 0 {
				continue
			}
			r.flush()
			if r.d.Pending() != 0 {
				t.Errorf("behind Flush %d writes are on their way", r.d.Pending())
			}
		}
	}
}

// P1: of no store.
func TestNil(t *testing.T) {
	var s *store.Store
	for range 2 {
		n, e := s.Begin()
		if n != 0 || e != api.ErrNone {
			t.Errorf("Begin = %d, error %d", n, e)
		}
		for _, i := range []int{0, -1, math.MaxInt, math.MinInt} {
			b, e := s.Read(i)
			if b != nil || e != api.ErrNone {
				t.Errorf("Read(%d) = %x, error %d", i, b, e)
			}
			answers(t, "Write", s.Write(i, filled(1)), api.ErrNone)
			answers(t, "Write", s.Write(i, nil), api.ErrNone)
		}
		answers(t, "Commit", s.Commit(), api.ErrNone)
		answers(t, "Abort", s.Abort(), api.ErrNone)
		answers(t, "Checkpoint", s.Checkpoint(), api.ErrNone)
		answers(t, "Flush", s.Flush(), api.ErrNone)
		if s.Pages() != 0 || s.InTx() || s.Room() != 0 {
			t.Errorf("Pages = %d, InTx = %v, Room = %d", s.Pages(), s.InTx(), s.Room())
		}
	}
}

// What is handed in stays as it was, and may be written over behind the call; so may what is answered.
func TestMemory(t *testing.T) {
	for _, ends := range []func(r *rig) bool{(*rig).commit, (*rig).abort} {
		r := newRig(t, 16, 3, 2)
		r.begin()
		for i := range 3 {
			r.write(i, filled(10+i))
		}
		r.commit()
		r.begin()
		for i := range 3 {
			b := filled(20 + i)
			p, whole := probe.Roomy(b)
			before := bytes.Clone(whole)
			r.write(i, p)
			if !bytes.Equal(whole, before) {
				t.Error("Write has changed what it was handed")
			}
			probe.Fill(p)
			r.read(i)
		}
		if l := probe.Spoilt(func() [][]byte {
			var out [][]byte
			for _, i := range []int{0, 1, 2, 0} {
				b, _ := r.s.Read(i)
				out = append(out, b)
			}
			return out
		}); len(l) > 0 {
			t.Errorf("Read: %v were spoilt", l)
		}
		ends(r)
		for i := range 3 {
			b, _ := r.s.Read(i)
			probe.Fill(b)
			r.read(i)
		}
		if !r.opens() {
			t.Fatal("the store isn't opened")
		}
	}
}

// P2: two stores that are told the same answer the same.
func TestTwice(t *testing.T) {
	for seed := range int64(8) {
		var told [2][]string
		for k := range told {
			draw := rand.New(rand.NewSource(seed))
			r := newRig(t, 16, 6, 2)
			for range 150 {
				r.takes(drawnStep(draw, 6))
				told[k] = append(told[k], fmt.Sprint(r.s.Room(), r.s.InTx(), r.last, r.d.Ops(), r.d.Pending()))
			}
			for i := range r.d.Len() {
				b, _ := r.d.Read(i)
				told[k] = append(told[k], string(b))
			}
		}
		for i := range told[0] {
			if told[0][i] != told[1][i] {
				t.Fatalf("seed %d, %d: %.40q, and then %.40q", seed, i, told[0][i], told[1][i])
			}
		}
	}
}
