package disk_test

import (
	"bytes"
	"fmt"
	"math"
	"math/rand"
	"slices"
	"testing"

	"muniment/api"
	"muniment/disk"
	"muniment/probe"
)

// filled is a sector's bytes, which tell b and where each of them stands.
func filled(b byte) []byte {
	p := make([]byte, api.PageSize)
	for i := range p {
		p[i] = b ^ byte(i) ^ byte(i>>8)*0x55
	}
	return p
}

func noughts() []byte { return make([]byte, api.PageSize) }

func made(t *testing.T, n int) *disk.Disk {
	t.Helper()
	d, e := disk.New(n)
	if d == nil || e != api.OK {
		t.Fatalf("New(%d): error %d", n, e)
	}
	return d
}

var answers = probe.Answers

func write(t *testing.T, d *disk.Disk, i int, p []byte) {
	t.Helper()
	answers(t, fmt.Sprintf("Write(%d)", i), d.Write(i, p), api.OK)
}

func sync(t *testing.T, d *disk.Disk) {
	t.Helper()
	answers(t, "Sync", d.Sync(), api.OK)
}

// restart turns the power off and on, with these choices.
func restart(t *testing.T, d *disk.Disk, keep ...bool) {
	t.Helper()
	answers(t, fmt.Sprintf("Restart(%v)", keep), d.Restart(keep), api.OK)
}

// reads fails the test, if a sector hasn't these bytes.
func reads(t *testing.T, d *disk.Disk, i int, want []byte) {
	t.Helper()
	if got, e := d.Read(i); !bytes.Equal(got, want) || e != api.OK {
		t.Errorf("Read(%d) = %.4x.., error %d, want %.4x..", i, got, e, want)
	}
}

// tells fails the test, if the disk tells something else of itself.
func tells(t *testing.T, d *disk.Disk, pending, ops int, on bool) {
	t.Helper()
	if d.Pending() != pending || d.Ops() != ops || d.On() != on {
		t.Errorf("Pending, Ops, On = %d, %d, %v, want %d, %d, %v", d.Pending(), d.Ops(), d.On(), pending, ops, on)
	}
}

// P7.1: the sizes that work: all sectors are there and are noughts, the power is on.
func TestNew(t *testing.T) {
	for _, n := range []int{1, 2, 7, api.MaxPages - 1, api.MaxPages} {
		d := made(t, n)
		if d.Len() != n {
			t.Errorf("Len of %d sectors = %d", n, d.Len())
		}
		tells(t, d, 0, 0, true)
		for i := range n {
			reads(t, d, i, noughts())
		}
		write(t, d, n-1, filled(1))
		reads(t, d, n-1, filled(1))
		if d.Len() != n {
			t.Errorf("Len of %d sectors = %d behind a write", n, d.Len())
		}
	}
}

// P7.1: the sizes that don't.
func TestNewRefused(t *testing.T) {
	for _, n := range []int{0, -1, -api.MaxPages, math.MinInt, api.MaxPages + 1, 2 * api.MaxPages, 1 << 32, 1<<32 + 1, math.MaxInt} {
		if d, e := disk.New(n); d != nil || e != api.ErrArg {
			t.Errorf("New(%d) = %v, error %d", n, d != nil, e)
		}
	}
}

// beyond are the places of no sector of n.
func beyond(n int) []int {
	return []int{-1, -n, math.MinInt, math.MinInt + 1, n, n + 1, 1 << 32, 1<<32 + 1, math.MaxInt}
}

// lengths are those of bytes that are no sector's.
var lengths = []int{0, 1, api.PageSize - 1, api.PageSize + 1, 2 * api.PageSize, 65536 + api.PageSize}

// P7.2, P7.4: what Write and Read refuse, which error goes first, and that nothing has changed behind it.
func TestRefused(t *testing.T) {
	for _, n := range []int{1, 3, api.MaxPages} {
		d := made(t, n)
		write(t, d, 0, filled(1))
		sync(t, d)
		write(t, d, 0, filled(2))
		refuses(t, d, n)
		tells(t, d, 1, 3, true)
		reads(t, d, 0, filled(2))
		answers(t, "Arm(2)", d.Arm(2), api.OK)
		refuses(t, d, n)
		// Were a refused call counted, the power would be off already.
		write(t, d, n-1, filled(3))
		answers(t, "the write that falls", d.Write(n-1, filled(4)), api.ErrCrash)
		tells(t, d, 3, 5, false)
		refuses(t, d, n)
		tells(t, d, 3, 5, false)
		restart(t, d, false, false, true)
		reads(t, d, n-1, filled(4))
	}
}

// refuses asks all that is refused whether the power is on or off.
func refuses(t *testing.T, d *disk.Disk, n int) {
	t.Helper()
	for _, i := range beyond(n) {
		if p, e := d.Read(i); p != nil || e != api.ErrArg {
			t.Errorf("Read(%d) of %d sectors = %.4x, error %d", i, n, p, e)
		}
		answers(t, fmt.Sprintf("Write(%d)", i), d.Write(i, filled(9)), api.ErrArg)
		answers(t, fmt.Sprintf("Write(%d) of nil", i), d.Write(i, nil), api.ErrArg)
		for _, l := range lengths {
			answers(t, fmt.Sprintf("Write(%d) of %d bytes", i, l), d.Write(i, make([]byte, l)), api.ErrArg)
		}
	}
	for _, l := range lengths {
		p := bytes.Repeat([]byte{9}, l)
		answers(t, fmt.Sprintf("Write of %d bytes", l), d.Write(0, p), api.ErrForm)
		answers(t, fmt.Sprintf("Write of %d bytes with room", l), d.Write(0, slices.Grow(p, 2*api.PageSize)), api.ErrForm)
	}
	answers(t, "Write of nil", d.Write(0, nil), api.ErrForm)
	for _, n := range []int{-1, -2, math.MinInt} {
		answers(t, fmt.Sprintf("Arm(%d)", n), d.Arm(n), api.ErrArg)
	}
}

// P7.2: what was written last is read, ahead of a Sync and behind it, and stays behind a fall once it is durable.
func TestReadBack(t *testing.T) {
	d := made(t, 3)
	write(t, d, 1, filled(1))
	reads(t, d, 1, filled(1))
	write(t, d, 1, filled(2))
	write(t, d, 2, filled(3))
	reads(t, d, 0, noughts())
	reads(t, d, 1, filled(2))
	reads(t, d, 2, filled(3))
	sync(t, d)
	reads(t, d, 0, noughts())
	reads(t, d, 1, filled(2))
	reads(t, d, 2, filled(3))
	write(t, d, 1, filled(1))
	reads(t, d, 1, filled(1))
	restart(t, d)
	reads(t, d, 1, filled(2))
	reads(t, d, 2, filled(3))
	write(t, d, 2, noughts())
	reads(t, d, 2, noughts())
	sync(t, d)
	restart(t, d)
	reads(t, d, 2, noughts())
}

// P7.4: how many writes are on their way, and how many operations there were; Read and Arm are none, and Restart counts nothing anew.
func TestCounts(t *testing.T) {
	d := made(t, 2)
	for k := range 5 {
		write(t, d, k%2, filled(byte(k)))
		tells(t, d, k+1, k+1, true)
		reads(t, d, k%2, filled(byte(k)))
		answers(t, "Arm(0)", d.Arm(0), api.OK)
		tells(t, d, k+1, k+1, true)
	}
	sync(t, d)
	tells(t, d, 0, 6, true)
	sync(t, d)
	tells(t, d, 0, 7, true)
	write(t, d, 0, filled(1))
	restart(t, d, true)
	tells(t, d, 0, 8, true)
	restart(t, d, true)
	tells(t, d, 0, 8, true)
	sync(t, d)
	tells(t, d, 0, 9, true)
}

// step is a write to a sector, or a Sync, if the sector is below 0.
type step struct {
	at   int
	with byte
}

func (s step) does(d *disk.Disk) api.Errno {
	if s.at < 0 {
		return d.Sync()
	}
	return d.Write(s.at, filled(s.with))
}

var script = []step{{0, 1}, {1, 2}, {-1, 0}, {0, 3}, {0, 4}, {-1, 0}, {-1, 0}, {1, 5}, {0, 6}}

// P7.3: the power goes off in each of some operations, one after the other: those ahead of it are done, that one is on its way, if it is a write, and none behind it.
func TestArmEach(t *testing.T) {
	for n := 1; n <= len(script)+2; n++ {
		for _, kept := range []bool{false, true} {
			d := made(t, 2)
			answers(t, "Arm", d.Arm(n), api.OK)
			done := falls(t, d, n)
			restart(t, d, slices.Repeat([]bool{kept}, len(script))...)
			tells(t, d, 0, len(done), true)
			for i := range 2 {
				reads(t, d, i, left(done, n, kept, i))
			}
			// Nothing is armed any more.
			for range 2 * len(script) {
				write(t, d, 1, filled(7))
				sync(t, d)
			}
		}
	}
}

// falls does the script on a disk that falls in the n-th operation, and answers the steps that were begun.
func falls(t *testing.T, d *disk.Disk, n int) []step {
	t.Helper()
	pending := 0
	for k, s := range script {
		want := api.OK
		if k+1 >= n {
			want = api.ErrCrash
		}
		answers(t, fmt.Sprintf("step %d of a disk that falls in %d", k+1, n), s.does(d), want)
		switch {
		case k+1 > n:
		case s.at >= 0:
			pending++
		case k+1 < n:
			pending = 0
		}
		tells(t, d, pending, min(k+1, n), k+1 < n)
	}
	return script[:min(n, len(script))]
}

// left is what a sector has behind the steps that were begun, the n-th of which was the one the power went off in, if the writes on their way were all kept, or none.
func left(done []step, n int, kept bool, i int) []byte {
	sure, last := noughts(), noughts()
	for k, s := range done {
		if s.at == i {
			last = filled(s.with)
		}
		if s.at < 0 && k+1 < n {
			sure = last
		}
	}
	if kept {
		return last
	}
	return sure
}

// P7.3: the last Arm holds; 0 takes it back; a number below 0 leaves it; it counts from then on.
func TestArmAgain(t *testing.T) {
	for _, c := range []struct {
		arms []int
		want int // the operation in which the power goes off; 0: it doesn't
	}{
		{nil, 0},
		{[]int{0}, 0},
		{[]int{1}, 1},
		{[]int{2}, 2},
		{[]int{2, 0}, 0},
		{[]int{0, 2}, 2},
		{[]int{1, 3}, 3},
		{[]int{3, 1}, 1},
		{[]int{3, -1}, 3},
		{[]int{3, math.MinInt}, 3},
		{[]int{-1}, 0},
		{[]int{0, -5}, 0},
		{[]int{2, 0, -1}, 0},
		{[]int{math.MaxInt}, 0},
		{[]int{1 << 32}, 0},
	} {
		for ahead := range 3 {
			d := made(t, 1)
			for range ahead {
				write(t, d, 0, filled(1))
			}
			for _, n := range c.arms {
				want := api.OK
				if n < 0 {
					want = api.ErrArg
				}
				answers(t, fmt.Sprintf("Arm(%d)", n), d.Arm(n), want)
			}
			for k := 1; k <= 6; k++ {
				want := api.OK
				if c.want > 0 && k >= c.want {
					want = api.ErrCrash
				}
				answers(t, fmt.Sprintf("operation %d behind Arm %v", k, c.arms), d.Write(0, filled(2)), want)
			}
		}
	}
	// Some operations are gone when it is armed anew, or taken back.
	for _, again := range []struct {
		n    int
		want api.Errno
	}{{0, api.OK}, {2, api.ErrCrash}} {
		d := made(t, 1)
		answers(t, "Arm(3)", d.Arm(3), api.OK)
		write(t, d, 0, filled(1))
		sync(t, d)
		answers(t, "Arm", d.Arm(again.n), api.OK)
		write(t, d, 0, filled(2))
		answers(t, "the second one behind Arm", d.Sync(), again.want)
	}
}

// P7.3: what is read while the power is about to go off counts for nothing, and a Restart takes what was armed away.
func TestArmedRestart(t *testing.T) {
	d := made(t, 1)
	answers(t, "Arm(2)", d.Arm(2), api.OK)
	write(t, d, 0, filled(1))
	for range 5 {
		reads(t, d, 0, filled(1))
	}
	restart(t, d, true)
	for range 5 {
		write(t, d, 0, filled(2))
		sync(t, d)
	}
	// So it is of what was armed while the power was off.
	answers(t, "Arm(1)", d.Arm(1), api.OK)
	answers(t, "the Sync that falls", d.Sync(), api.ErrCrash)
	answers(t, "Arm(1) of a disk that is off", d.Arm(1), api.OK)
	answers(t, "Sync of a disk that is off", d.Sync(), api.ErrCrash)
	tells(t, d, 0, 12, false)
	restart(t, d)
	sync(t, d)
	tells(t, d, 0, 13, true)
}

// P7.3: while the power is off Write, Read and Sync do nothing, the other calls tell what is there, and only Restart turns it on.
func TestOff(t *testing.T) {
	for _, fall := range []step{{0, 2}, {-1, 0}} {
		d := made(t, 2)
		write(t, d, 0, filled(1))
		answers(t, "Arm(1)", d.Arm(1), api.OK)
		answers(t, "the operation that falls", fall.does(d), api.ErrCrash)
		// A Write that falls is on its way besides the one ahead of it; a Sync that falls leaves that one.
		pending := 1
		if fall.at >= 0 {
			pending = 2
		}
		tells(t, d, pending, 2, false)
		for range 3 {
			answers(t, "Write of a disk that is off", d.Write(1, filled(3)), api.ErrCrash)
			answers(t, "Sync of a disk that is off", d.Sync(), api.ErrCrash)
			for i := range 2 {
				if p, e := d.Read(i); p != nil || e != api.ErrCrash {
					t.Errorf("Read(%d) of a disk that is off = %.4x, error %d", i, p, e)
				}
			}
			for _, n := range []int{0, 1, 5} {
				answers(t, "Arm of a disk that is off", d.Arm(n), api.OK)
			}
			refuses(t, d, 2)
			tells(t, d, pending, 2, false)
			if d.Len() != 2 {
				t.Errorf("Len of a disk that is off = %d", d.Len())
			}
		}
		restart(t, d, true, true, true)
		tells(t, d, 0, 2, true)
		reads(t, d, 0, filled(byte(pending)))
		reads(t, d, 1, noughts())
	}
}

// P7.3: every choice of the writes to keep, some of them to one sector, fewer choices than writes and more, with the power on or off.
func TestRestartEach(t *testing.T) {
	writes := []step{{0, 1}, {1, 2}, {0, 3}, {2, 4}, {0, 5}}
	for count := range len(writes) + 3 {
		for choice := range 1 << count {
			keep := make([]bool, count)
			for k := range keep {
				keep[k] = choice>>k&1 == 1
			}
			for _, off := range []bool{false, true} {
				d := made(t, 4)
				write(t, d, 0, filled(11))
				write(t, d, 1, filled(12))
				sync(t, d)
				if off {
					answers(t, "Arm", d.Arm(len(writes)), api.OK)
				}
				want := [][]byte{filled(11), filled(12), noughts(), noughts()}
				for k, w := range writes {
					if e := w.does(d); e != api.OK && !(off && k == len(writes)-1) {
						t.Fatalf("write %d: error %d", k, e)
					}
					if k < count && keep[k] {
						want[w.at] = filled(w.with)
					}
				}
				tells(t, d, len(writes), 3+len(writes), !off)
				restart(t, d, keep...)
				tells(t, d, 0, 3+len(writes), true)
				for i, p := range want {
					reads(t, d, i, p)
				}
				// What was kept is durable, and what was lost doesn't come back.
				restart(t, d, true, true, true, true, true)
				for i, p := range want {
					reads(t, d, i, p)
				}
				sync(t, d)
				for i, p := range want {
					reads(t, d, i, p)
				}
			}
		}
	}
}

// P7.2, P7.3: the example of the document; and the numbers of keep begin anew behind a Sync and a Restart.
func TestRestartNumbers(t *testing.T) {
	d := made(t, 1)
	write(t, d, 0, filled(1))
	write(t, d, 0, filled(2))
	restart(t, d, true, false)
	reads(t, d, 0, filled(1))
	write(t, d, 0, filled(3))
	restart(t, d, false, true, true)
	reads(t, d, 0, filled(1))
	write(t, d, 0, filled(4))
	sync(t, d)
	write(t, d, 0, filled(5))
	write(t, d, 0, filled(6))
	restart(t, d, true)
	reads(t, d, 0, filled(5))
	answers(t, "Restart(nil)", d.Restart(nil), api.OK)
	reads(t, d, 0, filled(5))
	tells(t, d, 0, 7, true)
}

// P7.4: a nil disk in every call, whatever else applies.
func TestNil(t *testing.T) {
	var d *disk.Disk
	for _, i := range []int{0, 1, -1, math.MinInt, math.MaxInt} {
		for _, p := range [][]byte{nil, {1}, filled(1)} {
			answers(t, "Write of nil", d.Write(i, p), api.ErrNone)
		}
		if p, e := d.Read(i); p != nil || e != api.ErrNone {
			t.Errorf("Read(%d) of nil = %x, error %d", i, p, e)
		}
		answers(t, "Arm of nil", d.Arm(i), api.ErrNone)
	}
	answers(t, "Sync of nil", d.Sync(), api.ErrNone)
	answers(t, "Restart of nil", d.Restart(nil), api.ErrNone)
	answers(t, "Restart of nil", d.Restart([]bool{true, false}), api.ErrNone)
	tells(t, d, 0, 0, false)
	if d.Len() != 0 {
		t.Errorf("Len of nil = %d", d.Len())
	}
}

// The rule of memory: what is handed in isn't changed, and may be written over, at each stage that a write goes through.
func TestArgumentsStay(t *testing.T) {
	d := made(t, 1)
	p, whole := probe.Roomy(filled(1))
	was := bytes.Clone(whole)
	write(t, d, 0, p)
	reads(t, d, 0, filled(1))
	sync(t, d)
	write(t, d, 0, p)
	keep := []bool{true, false, true, true}
	restart(t, d, keep[:1]...)
	answers(t, "Write of too few", d.Write(0, p[:5]), api.ErrForm)
	answers(t, "Write of too many", d.Write(0, whole), api.ErrForm)
	if !bytes.Equal(whole, was) || !slices.Equal(keep, []bool{true, false, true, true}) {
		t.Errorf("the bytes or the choices were changed: %v", keep)
	}
	for b := range byte(4) {
		q, _ := probe.Roomy(filled(b))
		write(t, d, 0, q)
		probe.Fill(q)
		reads(t, d, 0, filled(b))
		if b%2 == 0 {
			sync(t, d)
		} else {
			restart(t, d, true)
		}
		reads(t, d, 0, filled(b))
		probe.Fill(q)
		restart(t, d)
		reads(t, d, 0, filled(b))
	}
}

// P2, and the rule of memory: an answer stays, and the disk does, whatever becomes of another answer, spare room too.
func TestAnswersAreNew(t *testing.T) {
	d := made(t, 2)
	write(t, d, 0, filled(1))
	made := func() [][]byte {
		var out [][]byte
		for _, i := range []int{0, 1, 0} {
			p, _ := d.Read(i)
			out = append(out, p)
		}
		return out
	}
	for _, then := range []string{"on its way", "durable", "kept"} {
		for _, i := range probe.Spoilt(made) {
			t.Errorf("%s: answer %d was written over by another", then, i)
		}
		reads(t, d, 0, filled(1))
		switch then {
		case "on its way":
			sync(t, d)
		case "durable":
			write(t, d, 0, filled(1))
			restart(t, d, true)
		}
	}
	got, _ := d.Read(0)
	write(t, d, 0, filled(2))
	sync(t, d)
	if !bytes.Equal(got, filled(1)) {
		t.Error("an answer became another as the sector was written")
	}
	probe.Fill(got)
	restart(t, d)
	reads(t, d, 0, filled(2))
}

// told is a disk by the document's words, with no shortcut: all that was ever written to it, and what became of it.
type told struct {
	writes []written
	ops    int
	armed  int // the number of the operation in which the power goes off; 0: none
	off    bool
}

type written struct {
	at    int
	data  []byte
	state byte // what became of it
}

const (
	onItsWay = iota
	sure
	lost
)

func (m *told) operation() api.Errno {
	m.ops++
	if m.ops == m.armed {
		m.off = true
		return api.ErrCrash
	}
	return api.OK
}

func (m *told) write(i int, p []byte) api.Errno {
	if m.off {
		return api.ErrCrash
	}
	m.writes = append(m.writes, written{at: i, data: bytes.Clone(p)})
	return m.operation()
}

func (m *told) sync() api.Errno {
	if m.off {
		return api.ErrCrash
	}
	e := m.operation()
	if e == api.OK {
		for k := range m.writes {
			if m.writes[k].state == onItsWay {
				m.writes[k].state = sure
			}
		}
	}
	return e
}

func (m *told) restart(keep []bool) {
	n := 0
	for k := range m.writes {
		if m.writes[k].state != onItsWay {
			continue
		}
		m.writes[k].state = lost
		if n < len(keep) && keep[n] {
			m.writes[k].state = sure
		}
		n++
	}
	m.armed, m.off = 0, false
}

func (m *told) arm(n int) {
	m.armed = 0
	if n > 0 {
		m.armed = m.ops + n
	}
}

func (m *told) read(i int) ([]byte, api.Errno) {
	if m.off {
		return nil, api.ErrCrash
	}
	for _, w := range slices.Backward(m.writes) {
		if w.at == i && w.state != lost {
			return w.data, api.OK
		}
	}
	return noughts(), api.OK
}

func (m *told) pending() int {
	n := 0
	for _, w := range m.writes {
		if w.state == onItsWay {
			n++
		}
	}
	return n
}

// P1, P2, P7.1 to P7.4: many calls that are drawn are answered as the document's words say; two disks are asked in turn, and neither sees the other.
func TestDrawn(t *testing.T) {
	crashes := 0
	for seed := range int64(150) {
		draw := rand.New(rand.NewSource(seed))
		n := 1 + draw.Intn(4)
		disks := []*disk.Disk{made(t, n), made(t, n)}
		models := []*told{{}, {}}
		for range 120 {
			which := draw.Intn(2)
			drawn(t, draw, disks[which], models[which], n)
			d, m := disks[which], models[which]
			tells(t, d, m.pending(), m.ops, !m.off)
			for i := range n {
				p, e := d.Read(i)
				if q, f := m.read(i); !bytes.Equal(p, q) || e != f {
					t.Fatalf("seed %d: Read(%d) = %.4x, error %d, want %.4x, %d", seed, i, p, e, q, f)
				}
			}
			if m.off {
				crashes++
			}
			if t.Failed() {
				t.Fatalf("seed %d", seed)
			}
		}
	}
	if crashes < 1000 {
		t.Errorf("only %d times the power was off", crashes)
	}
}

// drawn does one call that is drawn.
func drawn(t *testing.T, draw *rand.Rand, d *disk.Disk, m *told, n int) {
	t.Helper()
	switch draw.Intn(12) {
	default:
		i, p := draw.Intn(n), filled(byte(draw.Intn(256)))
		answers(t, "Write", d.Write(i, p), m.write(i, p))
	case 0, 1:
		answers(t, "Sync", d.Sync(), m.sync())
	case 2:
		k := draw.Intn(8)
		answers(t, "Arm", d.Arm(k), api.OK)
		m.arm(k)
	case 3:
		keep := make([]bool, draw.Intn(8))
		for k := range keep {
			keep[k] = draw.Intn(2) == 1
		}
		answers(t, "Restart", d.Restart(keep), api.OK)
		m.restart(keep)
	case 4:
		refuses(t, d, n)
	}
}

// P1: a great disk with many writes on their way ends each call.
func TestMany(t *testing.T) {
	d := made(t, api.MaxPages)
	count := 3*api.MaxPages + 5
	for k := range count {
		write(t, d, k%api.MaxPages, filled(byte(k/api.MaxPages)))
	}
	tells(t, d, count, count, true)
	reads(t, d, 4, filled(3))
	reads(t, d, 5, filled(2))
	keep := slices.Repeat([]bool{true}, count-1)
	restart(t, d, keep...)
	reads(t, d, 3, filled(3))
	reads(t, d, 4, filled(2))
	restart(t, d, make([]bool, 1000000)...)
	reads(t, d, 3, filled(3))
	tells(t, d, 0, count, true)
}
