package log_test

import (
	"bytes"
	"encoding/binary"
	"fmt"
	"math"
	"math/rand"
	"testing"

	"muniment/api"
	"muniment/disk"
	"muniment/log"
	"muniment/probe"
)

// The document's example.
func TestExample(t *testing.T) {
	d := drive(t, 5)
	answers(t, "Format", log.Format(d, 0, 4), api.OK)
	g, e := log.Open(d, 0, 4)
	answers(t, "Open", e, api.OK)
	if at, e := g.Append([]byte("a"), 0); at != 480 || e != api.OK {
		t.Errorf("Append(a) = %d, error %d", at, e)
	}
	if at, e := g.Append([]byte("bc"), 0); at != 483 || e != api.OK {
		t.Errorf("Append(bc) = %d, error %d", at, e)
	}
	if g.End() != 487 || g.Sure() != 480 {
		t.Errorf("End, Sure = %d, %d", g.End(), g.Sure())
	}
	if p, next, e := g.Read(480); string(p) != "a" || next != 483 || e != api.OK {
		t.Errorf("Read(480) = %q, %d, error %d", p, next, e)
	}
	answers(t, "Restart", d.Restart(nil), api.OK)
	g, e = log.Open(d, 0, 4)
	if e != api.OK || g.End() != 480 {
		t.Errorf("End = %d, error %d", g.End(), e)
	}
	if log.Part != 480 || log.First != 480 {
		t.Errorf("Part, First = %d, %d", log.Part, log.First)
	}
}

// P9.1: the places and counts that work, and that no other sector is written; what is told of a log without records.
func TestFormat(t *testing.T) {
	for _, c := range []struct{ sectors, at, count int }{
		{5, 0, 4}, {6, 0, 4}, {6, 1, 4}, {6, 0, 5}, {40, 13, 20}, {40, 19, 20}, {200, 0, 199},
		{api.MaxPages, 0, api.MaxPages - 1}, {api.MaxPages, api.MaxPages - 5, 4},
	} {
		d := drive(t, c.sectors)
		for i := range c.sectors {
			answers(t, "Write", d.Write(i, filled(api.PageSize, byte(i))), api.OK)
		}
		answers(t, "Sync", d.Sync(), api.OK)
		w := laid(t, d, c.at, c.count)
		w.reads()
		if w.room() != c.count*480 || w.g.Start() != 480 || w.g.Check() != 0 || w.g.End() != 480 {
			t.Errorf("%v: Room, Start, Check, End = %d, %d, %d, %d", c, w.g.Room(), w.g.Start(), w.g.Check(), w.g.End())
		}
		for w.append(filled(997, 1), 0) == api.OK {
		}
		w.flush()
		w.mark(w.end, w.end)
		for w.append(filled(1200, 2), 0) == api.OK {
		}
		w.flush()
		w.open()
		w.reads()
		for i := range c.sectors {
			if p, _ := d.Read(i); (i < c.at || i > c.at+c.count) && !bytes.Equal(p, filled(api.PageSize, byte(i))) {
				t.Errorf("%v: sector %d was written", c, i)
			}
		}
	}
}

// P9.1: what Format and Open refuse, and that a disk that is off isn't looked at ahead of it.
func TestRefusedPlaces(t *testing.T) {
	for _, off := range []bool{false, true} {
		for _, c := range []struct{ sectors, at, count int }{
			{5, 0, 3}, {5, 0, 0}, {5, 0, -1}, {5, 0, -4}, {5, 0, math.MinInt}, {5, 0, 5}, {5, 0, math.MaxInt},
			{5, -1, 4}, {5, math.MinInt, 4}, {5, 1, 4}, {5, 5, 4}, {5, math.MaxInt, 4}, {5, math.MaxInt, math.MaxInt}, {5, math.MaxInt - 4, 4},
			{4, 0, 4}, {4, 0, 3}, {1, 0, 4}, {20, 10, 10}, {20, 11, 9}, {20, 16, 4}, {20, -1, 19}, {20, -1, 20},
			{api.MaxPages, 0, api.MaxPages}, {api.MaxPages, 0, api.MaxPages + 1}, {api.MaxPages, -1, api.MaxPages}, {api.MaxPages, 1, api.MaxPages - 1}, {api.MaxPages, api.MaxPages - 4, 4},
			{20, 0, 1 << 32}, {20, 1 << 32, 4}, {20, 0, 1<<32 + 4},
		} {
			d := drive(t, c.sectors)
			if off {
				turnOff(t, d)
			}
			ops := d.Ops()
			what := fmt.Sprintf("%v, off %v", c, off)
			answers(t, "Format "+what, log.Format(d, c.at, c.count), api.ErrArg)
			g, e := log.Open(d, c.at, c.count)
			answers(t, "Open "+what, e, api.ErrArg)
			if g != nil || d.Ops() != ops {
				t.Errorf("%s: a log %v, %d operations", what, g != nil, d.Ops()-ops)
			}
		}
	}
	for _, c := range []struct{ at, count int }{{0, 4}, {-1, 4}, {0, 3}, {0, api.MaxPages + 1}, {math.MaxInt, math.MaxInt}} {
		answers(t, "Format of no disk", log.Format(nil, c.at, c.count), api.ErrNone)
		if g, e := log.Open(nil, c.at, c.count); g != nil || e != api.ErrNone {
			t.Errorf("Open of no disk: a log %v, error %d", g != nil, e)
		}
	}
}

// turnOff lets the power of a disk go off.
func turnOff(t *testing.T, d *disk.Disk) {
	t.Helper()
	answers(t, "Arm", d.Arm(1), api.OK)
	answers(t, "the Sync that falls", d.Sync(), api.ErrCrash)
}

// noLog fails the test, if a log is opened where none is, or something is written.
func noLog(t *testing.T, what string, d *disk.Disk, at, count int) {
	t.Helper()
	ops := d.Ops()
	g, e := log.Open(d, at, count)
	if g != nil || e != api.ErrSum && e != api.ErrForm {
		t.Errorf("%s: Open(%d, %d): a log %v, error %d", what, at, count, g != nil, e)
	}
	if d.Ops() != ops {
		t.Errorf("%s: Open(%d, %d) has written", what, at, count)
	}
}

// P9.1: sectors on which no log is.
func TestNoLog(t *testing.T) {
	d := drive(t, 30)
	noLog(t, "noughts", d, 0, 29)
	draw := rand.New(rand.NewSource(1))
	for k := range 200 {
		p := bytes.Repeat([]byte{byte(k)}, api.PageSize)
		if k%3 == 0 {
			draw.Read(p)
		}
		answers(t, "Write", d.Write(7, p), api.OK)
		noLog(t, fmt.Sprintf("%.8x", p), d, 7, 20)
	}
	// A log is neither on the sectors beside its own, nor where another one's parts are, nor is it one of another count.
	w := laid(t, d, 2, 10)
	w.append(filled(1100, 1), 0)
	w.append(filled(900, 1), 0)
	w.flush()
	for at := range 20 {
		if at != 2 {
			noLog(t, "beside", d, at, 10)
		}
	}
	for count := 4; count < 28; count++ {
		if count != 10 {
			noLog(t, "another count", d, 2, count)
		}
	}
	w.open()
	w.reads()
	// Nor is it where a record stands that looks like what its first sector tells: a place at a sector's beginning, no check, that count.
	p := make([]byte, 1000)
	place := uint64(len(p))<<24 + 479
	binary.BigEndian.PutUint32(p, uint32(place/480*480)<<8)
	p[18] = 10
	w = laid(t, d, 2, 10)
	w.append(p, 0)
	w.flush()
	for at := 3; at < 13; at++ {
		noLog(t, "looks like one", d, at, 10)
	}
}

// P9.1: what Format has made is durable.
func TestFormatDurable(t *testing.T) {
	d := drive(t, 9)
	answers(t, "Write", d.Write(8, filled(api.PageSize, 1)), api.OK)
	answers(t, "Format", log.Format(d, 1, 6), api.OK)
	if d.Pending() != 0 {
		t.Errorf("%d writes are on their way", d.Pending())
	}
	answers(t, "Restart", d.Restart(nil), api.OK)
	if g, e := log.Open(d, 1, 6); g.End() != 480 || e != api.OK {
		t.Errorf("End = %d, error %d", g.End(), e)
	}
}

// P9.1: a byte of the first sector turned: no log is there; a byte of another one: the records up to it are there, or no log is.
func TestTurned(t *testing.T) {
	w := laid(t, drive(t, 12), 3, 8)
	for k := range 9 {
		w.append(filled(200+k, byte(k)), 0)
	}
	w.flush()
	for _, c := range []points{{0, w.start}, {w.records[3].at, w.records[3].at}, {w.records[7].at, w.records[3].at}} {
		w.mark(c.check, c.start)
		image := sectors(t, w.d)
		for i := w.at; i <= w.at+w.count; i++ {
			for k := range api.PageSize {
				image[i][k] ^= 1 << (k % 8)
				d := holding(t, image)
				image[i][k] ^= 1 << (k % 8)
				if i == w.at {
					noLog(t, fmt.Sprintf("byte %d turned", k), d, w.at, w.count)
				} else if g, e := log.Open(d, w.at, w.count); e == api.OK {
					begins(t, w, g)
				} else if e != api.ErrSum && e != api.ErrForm {
					t.Errorf("byte %d of sector %d turned: error %d", k, i, e)
				}
			}
		}
	}
}

// sectors is what stands on a disk.
func sectors(t *testing.T, d *disk.Disk) [][]byte {
	t.Helper()
	var out [][]byte
	for i := range d.Len() {
		p, e := d.Read(i)
		answers(t, "Read", e, api.OK)
		out = append(out, p)
	}
	return out
}

// holding is a disk on which that stands.
func holding(t *testing.T, sectors [][]byte) *disk.Disk {
	t.Helper()
	d := drive(t, len(sectors))
	for i, p := range sectors {
		answers(t, "Write", d.Write(i, p), api.OK)
	}
	answers(t, "Sync", d.Sync(), api.OK)
	return d
}

// begins fails the test, if a log has records that aren't the twin's first ones.
func begins(t *testing.T, w *twin, g *log.Log) {
	t.Helper()
	if g.Check() > g.End() {
		t.Fatalf("Check, End = %d, %d", g.Check(), g.End())
	}
	at := g.Start()
	for _, n := range w.records {
		if at == g.End() {
			return
		}
		p, next, e := g.Read(at)
		if at != n.at || !bytes.Equal(p, n.bytes) || e != api.OK {
			t.Fatalf("Read(%d): error %d, not the record at %d", at, e, n.at)
		}
		at = next
	}
	if at != g.End() {
		t.Fatalf("a record at %d that wasn't appended", at)
	}
}

// sizes are how many bytes records have: edges, and those that end just at a sector's end, and beside it.
var sizes = []int{1, 2, 3, 100, 475, 476, 477, 478, 479, 480, 481, 482, 956, 957, 958, 959, 960, 961, 1198, 1199, api.MaxRecord}

// P9.2, P9.4, P9.5: records of each size, alone and behind one another, are told with their places, ahead of Flush and behind it, and behind an opening.
func TestSizes(t *testing.T) {
	for _, a := range sizes {
		for _, b := range sizes {
			w := fresh(t, 8)
			w.append(filled(a, 1), 0)
			w.append(filled(b, 2), 0)
			w.reads()
			w.flush()
			w.reads()
			w.append(filled(a, 3), 0)
			w.reads()
			w.open()
			w.reads()
			w.append(filled(b, 4), 0)
			w.flush()
			w.reads()
			w.open()
			w.reads()
		}
	}
}

// P9.2: what Append, Spend and Release refuse, which error goes first, and that nothing has changed behind it.
func TestRefusedRecords(t *testing.T) {
	w := fresh(t, 4)
	w.append(filled(10, 1), 100)
	long := filled(api.MaxRecord+1, 1)
	for _, c := range []struct {
		p    []byte
		hold int
		want api.Errno
	}{
		{nil, 0, api.ErrArg}, {[]byte{}, 0, api.ErrArg}, {nil, -1, api.ErrArg}, {nil, math.MaxInt, api.ErrArg},
		{filled(1, 1), -1, api.ErrArg}, {filled(1, 1), math.MinInt, api.ErrArg}, {long, -1, api.ErrArg}, {filled(300000, 1), -1, api.ErrArg},
		{long, 0, api.ErrLong}, {long, math.MaxInt, api.ErrLong}, {filled(1<<16, 1), 0, api.ErrLong}, {filled(1<<16+1, 1), 0, api.ErrLong}, {filled(300000, 1), 0, api.ErrLong},
		{filled(1, 1), math.MaxInt, api.ErrFull}, {filled(1, 1), math.MaxInt - 2, api.ErrFull}, {filled(1, 1), math.MaxInt - 3, api.ErrFull}, {filled(1200, 1), math.MaxInt - 1201, api.ErrFull},
		{filled(1, 1), 4*480 - 12 - 100 - 2, api.ErrFull}, {filled(1200, 1), 4*480 - 12 - 100 - 1201, api.ErrFull},
	} {
		if got := w.append(c.p, c.hold); got != c.want {
			t.Errorf("the twin's Append(%d bytes, %d): error %d, want %d", len(c.p), c.hold, got, c.want)
		}
	}
	for _, c := range []struct {
		p    []byte
		want api.Errno
	}{
		{nil, api.ErrArg}, {[]byte{}, api.ErrArg}, {long, api.ErrLong}, {filled(1<<16, 1), api.ErrLong}, {filled(1<<16+1, 1), api.ErrLong},
		{filled(99, 1), api.ErrFull}, {filled(api.MaxRecord, 1), api.ErrFull},
	} {
		if got := w.spend(c.p); got != c.want {
			t.Errorf("the twin's Spend(%d bytes): error %d, want %d", len(c.p), got, c.want)
		}
	}
	for _, n := range []int{-1, math.MinInt, 101, math.MaxInt} {
		if got := w.release(n); got != api.ErrArg {
			t.Errorf("the twin's Release(%d): error %d", n, got)
		}
	}
	w.reads()
}

// P9.2, P9.5: what is held is room for Spend alone: just as much as there is, and one byte more; nothing is held behind an opening.
func TestHeld(t *testing.T) {
	w := fresh(t, 4)
	room := 4 * 480
	want := func(what string, got, e api.Errno) {
		t.Helper()
		answers(t, "the twin's "+what, got, e)
	}
	want("Append with a hold of all", w.append(filled(1, 1), room-3), api.OK)
	if w.g.Room() != 0 || w.g.Held() != room-3 {
		t.Errorf("Room, Held = %d, %d", w.g.Room(), w.g.Held())
	}
	want("Append without room", w.append(filled(1, 1), 0), api.ErrFull)
	want("Spend", w.spend(filled(100, 2)), api.OK)
	want("Append without room", w.append(filled(1, 1), 0), api.ErrFull)
	want("Release of nothing", w.release(0), api.OK)
	want("Append without room", w.append(filled(1, 1), 0), api.ErrFull)
	want("Release", w.release(12), api.OK)
	want("Append of one byte too many", w.append(filled(11, 1), 0), api.ErrFull)
	want("Append with one byte held too many", w.append(filled(9, 1), 2), api.ErrFull)
	want("Append of as many as there are", w.append(filled(9, 1), 1), api.OK)
	want("Release of all but 102", w.release(w.held-102), api.OK)
	want("Spend of one byte too many", w.spend(filled(101, 3)), api.ErrFull)
	want("Spend of all", w.spend(filled(100, 3)), api.OK)
	want("Spend of nothing held", w.spend(filled(1, 3)), api.ErrFull)
	want("Release of one more", w.release(1), api.ErrArg)
	want("Release of nothing", w.release(0), api.OK)
	w.reads()
	for w.append(filled(400, 4), 0) == api.OK {
	}
	want("Append of the rest", w.append(filled(w.room()-2, 5), 0), api.OK)
	if w.g.Room() != 0 {
		t.Errorf("Room = %d", w.g.Room())
	}
	want("Append to a full log", w.append(filled(1, 5), 0), api.ErrFull)
	w.flush()
	w.reads()
	// A log that is full is opened as any other.
	w.open()
	w.reads()
	want("Append to a full log", w.append(filled(1, 5), 0), api.ErrFull)
	want("Mark", w.mark(0, w.records[1].at), api.OK)
	if w.room() != 0 {
		t.Errorf("Room = %d, as Start is on the same sector", w.room())
	}
	want("Mark", w.mark(w.end, w.end), api.OK)
	want("Append with a hold", w.append(filled(1, 6), 500), api.OK)
	w.flush()
	if w.open(); w.g.Held() != 0 {
		t.Errorf("Held = %d behind an opening", w.g.Held())
	}
}

// P9.3: Flush makes durable what was written to the disk too; with nothing to flush it does nothing to it.
func TestFlushOthers(t *testing.T) {
	d := drive(t, 8)
	w := laid(t, d, 2, 5)
	other := func(b byte, durable bool) {
		t.Helper()
		was, _ := d.Read(0)
		answers(t, "Write", d.Write(0, filled(api.PageSize, b)), api.OK)
		w.flush()
		answers(t, "Restart", d.Restart(nil), api.OK)
		want := was
		if durable {
			want = filled(api.PageSize, b)
		}
		if p, _ := d.Read(0); !bytes.Equal(p, want) {
			t.Errorf("another sector that was written: durable isn't %v", durable)
		}
	}
	other(1, false)
	w.append(filled(1, 1), 0)
	other(2, true)
	other(3, false)
	w.append(filled(477, 1), 0)
	other(4, true)
	other(5, false)
	w.open()
	other(6, false)
	w.reads()
}

// P9.3, P9.5: Mark at each edge, and one beyond; of two numbers that are both wrong; Room behind it.
func TestMark(t *testing.T) {
	w := fresh(t, 6)
	for k := range 4 {
		w.append(filled(300, byte(k)), 0)
	}
	w.flush()
	sure := w.sure
	w.append(filled(10, 9), 50)
	third := w.records[2].at
	for _, c := range []struct {
		check, start uint64
		want         api.Errno
	}{
		{0, 479, api.ErrArg}, {0, 0, api.ErrArg}, {480, 1, api.ErrArg}, {0, sure + 1, api.ErrArg}, {0, w.end, api.ErrArg}, {0, math.MaxUint64, api.ErrArg},
		{sure + 1, 480, api.ErrArg}, {w.end, 480, api.ErrArg}, {math.MaxUint64, 480, api.ErrArg}, {math.MaxUint64, math.MaxUint64, api.ErrArg}, {sure + 1, 479, api.ErrArg},
		{0, 480, api.OK}, {480, 480, api.OK}, {1, 480, api.OK}, {sure, 480, api.OK}, {0, 480, api.OK},
		{third, third, api.OK}, {480, third, api.OK}, {sure, third, api.OK},
		{sure, third - 1, api.ErrArg}, {sure, 480, api.ErrArg},
		{3, sure, api.OK}, {sure, sure, api.OK}, {sure, sure + 1, api.ErrArg}, {sure + 1, sure, api.ErrArg}, {sure, sure - 1, api.ErrArg},
	} {
		if got := w.mark(c.check, c.start); got != c.want {
			t.Errorf("the twin's Mark(%d, %d): error %d, want %d", c.check, c.start, got, c.want)
		}
		w.reads()
		// It is durable as it is.
		answers(t, "Restart", w.d.Restart(nil), api.OK)
		again, e := log.Open(w.d, 0, 6)
		if e != api.OK || again.Start() != w.start || again.Check() != w.check || again.End() != sure {
			t.Fatalf("opened: Start, Check, End = %d, %d, %d, error %d", again.Start(), again.Check(), again.End(), e)
		}
	}
}

// P9.1, P9.3: Start may be any place up to Sure, in the midst of a record too: those that begin behind it are all there.
func TestMarkAnywhere(t *testing.T) {
	for _, size := range []int{1, 97, 478, 600, 1200} {
		end := uint64(0)
		for start := uint64(log.First); start == log.First || start <= end; start++ {
			w := fresh(t, 9)
			for k := range 3 {
				w.append(filled(size, byte(k)), 0)
			}
			w.flush()
			end = w.sure
			w.mark(0, start)
			w.reads()
			w.append(filled(20, 8), 0)
			w.reads()
			w.open()
			w.reads()
			w.append(filled(700, 9), 0)
			w.flush()
			w.mark(0, min(start+1, w.sure))
			w.open()
			w.reads()
			// What begins ahead of Start is no record any more.
			for at := start; len(w.records) > 0 && at < w.records[0].at; at++ {
				if p, next, e := w.g.Read(at); p != nil || next != 0 || e != api.ErrArg {
					t.Fatalf("Read(%d) ahead of the first record = %x, %d, error %d", at, p, next, e)
				}
			}
		}
	}
}

// P9.4: places ahead of Start, behind End, and at End; those that are no record's end too, and tell nothing beside an error.
func TestReadPlaces(t *testing.T) {
	w := fresh(t, 6)
	for k := range 5 {
		w.append(filled(250+k, byte(k)), 0)
	}
	w.flush()
	w.append(filled(100, 7), 0)
	for _, start := range []uint64{480, w.records[1].at, w.records[3].at, w.sure} {
		w.mark(0, start)
		w.reads()
		for _, at := range []uint64{0, 1, 479, start - 1, start - 2, w.end + 1, w.end + 2, w.end + 480, 480 * 7, 1 << 32, 1<<32 + start, math.MaxUint64 - 1, math.MaxUint64} {
			if p, next, e := w.g.Read(at); p != nil || next != 0 || e != api.ErrArg {
				t.Errorf("Read(%d) from %d on to %d = %x, %d, error %d", at, w.start, w.end, p, next, e)
			}
		}
		for at := start; at < w.end; at++ {
			p, next, e := w.g.Read(at)
			if e != api.OK && (e != api.ErrArg || p != nil || next != 0) {
				t.Errorf("Read(%d) = %x, %d, error %d", at, p, next, e)
			}
		}
	}
	w.mark(0, w.sure)
	w.flush()
	w.mark(w.end, w.end)
	if p, next, e := w.g.Read(w.end); p != nil || next != 0 || e != api.ErrNone {
		t.Errorf("Read of a log without records = %x, %d, error %d", p, next, e)
	}
}

// P9.4: no record has no bytes, or more than MaxRecord, whatever stands in the midst of one.
func TestReadNone(t *testing.T) {
	w := fresh(t, 20)
	p := make([]byte, 1200)
	for k := 600; k < 1200; k += 2 {
		p[k], p[k+1] = 1201>>8, 1201&0xff
	}
	for range 3 {
		w.append(p, 0)
	}
	w.flush()
	for k := range 1200 {
		at := w.records[0].at + 2 + uint64(k)
		if q, next, e := w.g.Read(at); e == api.OK && (len(q) == 0 || len(q) > api.MaxRecord) || e != api.OK && (q != nil || next != 0) {
			t.Errorf("Read(%d) = %d bytes, %d, error %d", at, len(q), next, e)
		}
	}
}

// P1, P9.4: when somebody has written over the sectors of a log that is open each call ends, and what wasn't appended isn't told.
func TestWrittenOver(t *testing.T) {
	w := fresh(t, 8)
	w.append(filled(100, 1), 0)
	w.flush()
	early := sectors(t, w.d)
	for k := range 4 {
		w.append(filled(900, byte(k)), 0)
	}
	w.flush()
	late := sectors(t, w.d)
	noughts := make([]byte, api.PageSize)
	for i := range 9 {
		for _, p := range [][]byte{early[i], noughts, late[(i+1)%9]} {
			answers(t, "Write", w.d.Write(i, p), api.OK)
			for _, n := range w.records {
				if q, next, e := w.g.Read(n.at); e == api.OK && !bytes.Equal(q, n.bytes) || e != api.OK && (e != api.ErrArg || q != nil || next != 0) {
					t.Errorf("Read(%d) = %d bytes, %d, error %d", n.at, len(q), next, e)
				}
			}
		}
		answers(t, "Write", w.d.Write(i, late[i]), api.OK)
	}
	w.reads()
	for i := range 9 {
		answers(t, "Write", w.d.Write(i, early[i]), api.OK)
		w.g.Mark(0, w.records[3].at)
	}
}

// P9.1 to P9.5, P2: whatever is asked, for many rounds of the ring, with openings between.
func TestRing(t *testing.T) {
	for _, count := range []int{4, 5, 7, 16} {
		draw := rand.New(rand.NewSource(int64(count)))
		w := laid(t, drive(t, count+3), 1, count)
		for k := range 6000 {
			switch n := draw.Intn(20); {
			case n < 8:
				w.append(filled(drawnSize(draw), byte(k)), draw.Intn(3)*draw.Intn(200))
			case n < 11:
				w.spend(filled(1+draw.Intn(200), byte(k)))
			case n < 12:
				w.release(draw.Intn(w.held + 2))
			case n < 16:
				w.flush()
			case n < 19:
				start := w.sure
				for _, r := range w.records {
					if r.at <= w.sure && draw.Intn(3) == 0 {
						start = r.at
						break
					}
				}
				w.mark(draw.Uint64()%(w.sure+1), start)
			default:
				w.open()
			}
			if k%20 == 0 {
				w.reads()
			}
		}
		w.reads()
		if rounds := w.end / uint64(480*count); rounds < 20 {
			t.Errorf("the ring of %d was gone round %d times", count, rounds)
		}
	}
}

func drawnSize(draw *rand.Rand) int {
	if draw.Intn(3) == 0 {
		return sizes[draw.Intn(len(sizes))]
	}
	return 1 + draw.Intn(120)
}

// P9.1: a log that is made where one was has none of that one's records, wherever its own end, and begin.
func TestFormatAgain(t *testing.T) {
	for _, size := range []int{478, 238, 958} {
		for whole := 1; whole <= 5; whole++ {
			d := drive(t, 7)
			old := laid(t, d, 0, 6)
			for old.append(filled(size, 1), 0) == api.OK {
			}
			old.flush()
			old.open()
			w := laid(t, d, 0, 6)
			w.reads()
			for int(w.end) < 480+whole*480 {
				w.append(filled(size, 2), 0)
			}
			w.flush()
			w.open()
			w.reads()
			w.mark(w.end, w.end)
			w.open()
			w.reads()
			w.append(filled(5, 3), 0)
			w.flush()
			w.open()
			w.reads()
		}
	}
}

// P9.5, and the rule of a nil object: ErrNone, or noughts.
func TestNil(t *testing.T) {
	var g *log.Log
	for _, p := range [][]byte{nil, filled(1, 1), filled(2000, 1)} {
		for _, n := range []int{-1, 0, 5} {
			if at, e := g.Append(p, n); at != 0 || e != api.ErrNone {
				t.Errorf("Append of nil = %d, error %d", at, e)
			}
			answers(t, "Release of nil", g.Release(n), api.ErrNone)
		}
		if at, e := g.Spend(p); at != 0 || e != api.ErrNone {
			t.Errorf("Spend of nil = %d, error %d", at, e)
		}
	}
	for _, at := range []uint64{0, 480, math.MaxUint64} {
		if p, next, e := g.Read(at); p != nil || next != 0 || e != api.ErrNone {
			t.Errorf("Read of nil = %x, %d, error %d", p, next, e)
		}
		answers(t, "Mark of nil", g.Mark(at, at), api.ErrNone)
	}
	answers(t, "Flush of nil", g.Flush(), api.ErrNone)
	if g.End() != 0 || g.Sure() != 0 || g.Start() != 0 || g.Check() != 0 || g.Room() != 0 || g.Held() != 0 {
		t.Error("a nil log tells something")
	}
}

// P2, and the rule of memory: what is handed in isn't changed and not kept, what is answered may be written over.
func TestMemory(t *testing.T) {
	w := fresh(t, 6)
	for k, size := range []int{1, 478, 900, 100} {
		want := filled(size, byte(k))
		p, whole := probe.Roomy(want)
		was := bytes.Clone(whole)
		if k%2 == 0 {
			w.append(p, 300)
		} else {
			w.release(w.held)
			w.append(filled(1, 9), size+2)
			w.spend(p)
		}
		if !bytes.Equal(whole, was) {
			t.Errorf("%d bytes were changed", size)
		}
		probe.Fill(p)
		w.reads()
	}
	told := func() [][]byte {
		var out [][]byte
		for _, n := range w.records {
			p, _, e := w.g.Read(n.at)
			answers(t, "Read", e, api.OK)
			out = append(out, p)
		}
		return out
	}
	for range 2 {
		for _, i := range probe.Spoilt(told) {
			t.Errorf("record %d was written over", i)
		}
		w.reads()
		w.flush()
	}
	w.open()
	w.reads()
}
