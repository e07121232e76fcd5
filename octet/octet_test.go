package octet_test

import (
	"bytes"
	"cmp"
	"hash/crc32"
	"math"
	"math/rand"
	"slices"
	"strings"
	"testing"

	"muniment/api"
	"muniment/octet"
	"muniment/probe"
)

// numbers are the ends of the ranges, powers of two and their neighbours, and some that are drawn.
func numbers() []uint64 {
	var out []uint64
	for i := range 64 {
		p := uint64(1) << i
		out = append(out, p-1, p, p+1, -p)
	}
	draw := rand.New(rand.NewSource(1))
	for range 200 {
		out = append(out, draw.Uint64())
	}
	return out
}

// texts are all of at most three of the bytes that matter.
func texts() []string {
	out := []string{""}
	for at := 0; len(out[at]) < 3; at++ {
		for _, b := range []byte{0x00, 0x01, 0x02, 'a', 0xfe, 0xff} {
			out = append(out, out[at]+string([]byte{b}))
		}
	}
	return out
}

// P2.1: the bytes that the document names.
func TestNumbersKnown(t *testing.T) {
	for _, c := range []struct {
		u    uint64
		want string
	}{
		{0, "\x00\x00\x00\x00\x00\x00\x00\x00"},
		{1, "\x00\x00\x00\x00\x00\x00\x00\x01"},
		{0x0102030405060708, "\x01\x02\x03\x04\x05\x06\x07\x08"},
		{math.MaxUint64, "\xff\xff\xff\xff\xff\xff\xff\xff"},
	} {
		if got := octet.Uint(c.u); string(got) != c.want {
			t.Errorf("Uint(%d) = %x, want %x", c.u, got, c.want)
		}
	}
	for _, c := range []struct {
		n    int64
		want string
	}{
		{0, "\x80\x00\x00\x00\x00\x00\x00\x00"},
		{1, "\x80\x00\x00\x00\x00\x00\x00\x01"},
		{-1, "\x7f\xff\xff\xff\xff\xff\xff\xff"},
		{math.MinInt64, "\x00\x00\x00\x00\x00\x00\x00\x00"},
		{math.MaxInt64, "\xff\xff\xff\xff\xff\xff\xff\xff"},
	} {
		if got := octet.Int(c.n); string(got) != c.want {
			t.Errorf("Int(%d) = %x, want %x", c.n, got, c.want)
		}
	}
}

// P2.1: each number comes back, wherever it stands and whatever stands around it.
func TestNumbersBack(t *testing.T) {
	for _, u := range numbers() {
		n := int64(u)
		for _, at := range []int{0, 1, 8, 9} {
			ahead := bytes.Repeat([]byte{0xee}, at)
			for _, behind := range []string{"", "\x00", "\xff and more"} {
				p := append(append(bytes.Clone(ahead), octet.Uint(u)...), behind...)
				if got, next, e := octet.ReadUint(p, at); got != u || next != at+8 || e != api.OK {
					t.Fatalf("ReadUint(%x, %d) = %d, %d, %d, want %d", p, at, got, next, e, u)
				}
				p = append(append(bytes.Clone(ahead), octet.Int(n)...), behind...)
				if got, next, e := octet.ReadInt(p, at); got != n || next != at+8 || e != api.OK {
					t.Fatalf("ReadInt(%x, %d) = %d, %d, %d, want %d", p, at, got, next, e, n)
				}
			}
		}
	}
}

// P2.1: of two numbers the bytes stand as they do.
func TestNumbersOrder(t *testing.T) {
	l := numbers()
	for _, a := range l {
		for _, b := range l {
			if bytes.Compare(octet.Uint(a), octet.Uint(b)) != cmp.Compare(a, b) {
				t.Fatalf("Uint of %d and %d stand otherwise", a, b)
			}
			if bytes.Compare(octet.Int(int64(a)), octet.Int(int64(b))) != cmp.Compare(int64(a), int64(b)) {
				t.Fatalf("Int of %d and %d stand otherwise", int64(a), int64(b))
			}
		}
	}
}

// P2.1: places outside the bytes, too few bytes, and nothing beside an error.
func TestNumbersRefused(t *testing.T) {
	refused := func(p []byte, at int, want api.Errno) {
		t.Helper()
		if u, next, e := octet.ReadUint(p, at); u != 0 || next != 0 || e != want {
			t.Errorf("ReadUint(%x, %d) = %d, %d, %d, want error %d", p, at, u, next, e, want)
		}
		if n, next, e := octet.ReadInt(p, at); n != 0 || next != 0 || e != want {
			t.Errorf("ReadInt(%x, %d) = %d, %d, %d, want error %d", p, at, n, next, e, want)
		}
	}
	for n := range 20 {
		p := bytes.Repeat([]byte{0x33}, n)
		for _, at := range probe.Places(n) {
			refused(p, at, api.ErrArg)
		}
		for at := max(0, n-7); at <= n; at++ {
			refused(p, at, api.ErrForm)
		}
	}
	refused(nil, 0, api.ErrForm)
	refused(nil, 1, api.ErrArg)
	// Bytes that are only there as spare room aren't left.
	p, _ := probe.Roomy([]byte{1, 2, 3, 4, 5, 6, 7})
	refused(p, 0, api.ErrForm)
	refused(p, 8, api.ErrArg)
}

// P2.2: the bytes that the document names.
func TestTextKnown(t *testing.T) {
	for _, c := range []struct{ s, want string }{
		{"", "\x00\x01"},
		{"a", "a\x00\x01"},
		{"\x00", "\x00\xff\x00\x01"},
		{"\x00\x00", "\x00\xff\x00\xff\x00\x01"},
		{"a\x00b", "a\x00\xffb\x00\x01"},
		{"\x01\xff", "\x01\xff\x00\x01"},
		{"\x00\x01", "\x00\xff\x01\x00\x01"},
		{"\x00\xff", "\x00\xff\xff\x00\x01"},
		{"\xc3\xa9", "\xc3\xa9\x00\x01"},
	} {
		if got := octet.Text(c.s); string(got) != c.want {
			t.Errorf("Text(%q) = %q, want %q", c.s, got, c.want)
		}
	}
}

// P2.2: each text comes back, wherever it stands and whatever stands around it.
func TestTextBack(t *testing.T) {
	for _, s := range append(texts(), strings.Repeat("\x00", 300), strings.Repeat("ab\x00\xff", 300)) {
		for _, ahead := range []string{"", "x", "\x00", "\x00\x01"} {
			for _, behind := range []string{"", "\x00", "\x01", "\xff", "\x00\x01", "b\x00\x01"} {
				p := append(append([]byte(ahead), octet.Text(s)...), behind...)
				want := len(p) - len(behind)
				if got, next, e := octet.ReadText(p, len(ahead)); got != s || next != want || e != api.OK {
					t.Fatalf("ReadText(%q, %d) = %q, %d, %d, want %q, %d", p, len(ahead), got, next, e, s, want)
				}
			}
		}
	}
}

// P2.2: of two texts the bytes stand as they do, whatever comes behind them.
func TestTextOrder(t *testing.T) {
	behind := []string{"", "\x00", "\xff", "z"}
	for _, a := range texts() {
		for _, b := range texts() {
			for _, x := range behind {
				for _, y := range behind {
					got := bytes.Compare(append(octet.Text(a), x...), append(octet.Text(b), y...))
					if want := cmp.Compare(a, b); got != want && a != b {
						t.Fatalf("%q with %q and %q with %q stand as %d, want %d", a, x, b, y, got, want)
					}
				}
			}
		}
	}
}

// P2.2: places outside the bytes, texts that are none or have no end, and nothing beside an error.
func TestTextRefused(t *testing.T) {
	refused := func(p string, at int, want api.Errno) {
		t.Helper()
		if s, next, e := octet.ReadText([]byte(p), at); s != "" || next != 0 || e != want {
			t.Errorf("ReadText(%q, %d) = %q, %d, %d, want error %d", p, at, s, next, e, want)
		}
	}
	for _, p := range []string{"", "a", "a\x00\x01", "\x00"} {
		for _, at := range probe.Places(len(p)) {
			refused(p, at, api.ErrArg)
		}
		refused(p, len(p), api.ErrForm)
	}
	for _, p := range []string{"a", "abc", "\x00", "a\x00", "\x00\xff", "\x00\xff\x00", "a\x00\xff\x01", "\x01", "\xff"} {
		refused(p, 0, api.ErrForm)
	}
	for b := range 256 {
		if b != 0x01 && b != 0xff {
			refused("a\x00"+string([]byte{byte(b)})+"\x00\x01", 0, api.ErrForm)
		}
	}
	refused("a\x00\x01b", 3, api.ErrForm)
	if s, next, e := octet.ReadText(nil, 0); s != "" || next != 0 || e != api.ErrForm {
		t.Errorf("ReadText(nil, 0) = %q, %d, %d", s, next, e)
	}
	// An end that is only there as spare room is none.
	if s, next, e := octet.ReadText([]byte("a\x00\x01")[:1], 0); s != "" || next != 0 || e != api.ErrForm {
		t.Errorf("ReadText of a text whose end is spare room = %q, %d, %d", s, next, e)
	}
}

// P2.2: what is read is what Text makes: the bytes that were read are those of the text.
func TestTextOneWay(t *testing.T) {
	draw := rand.New(rand.NewSource(2))
	read := 0
	for range 20000 {
		p := make([]byte, draw.Intn(8))
		for i := range p {
			p[i] = []byte{0, 1, 2, 0xff}[draw.Intn(4)]
		}
		s, next, e := octet.ReadText(p, 0)
		if e != api.OK {
			continue
		}
		read++
		if !bytes.Equal(octet.Text(s), p[:next]) {
			t.Fatalf("ReadText(%x) = %q, %d, but Text of it is %x", p, s, next, octet.Text(s))
		}
	}
	if read == 0 {
		t.Error("no text was read")
	}
}

// P2.3: the bytes that the document names, and those around ff.
func TestAboveKnown(t *testing.T) {
	for _, c := range []struct{ p, want string }{
		{"a\xff", "b"},
		{"a", "b"},
		{"ab", "ac"},
		{"\x00", "\x01"},
		{"\x00\x00", "\x00\x01"},
		{"\xfe", "\xff"},
		{"\xff\xfe", "\xff\xff"},
		{"\xff\x00\xff\xff", "\xff\x01"},
		{"a\xffb", "a\xffc"},
		{"a\xff\xff\xff", "b"},
	} {
		if got, ok := octet.Above([]byte(c.p)); string(got) != c.want || !ok {
			t.Errorf("Above(%q) = %q, %v, want %q", c.p, got, ok, c.want)
		}
	}
	for _, p := range [][]byte{nil, {}, {0xff}, {0xff, 0xff}, bytes.Repeat([]byte{0xff}, 200)} {
		if got, ok := octet.Above(p); len(got) != 0 || ok {
			t.Errorf("Above(%x) = %x, %v, want none", p, got, ok)
		}
	}
}

// P2.3: above all that begin with p, and the least such: held against all short bytes.
func TestAboveIsLeast(t *testing.T) {
	for _, p := range texts() {
		var beyond []string
		for _, q := range texts() {
			if q > p && !strings.HasPrefix(q, p) {
				beyond = append(beyond, q)
			}
		}
		got, ok := octet.Above([]byte(p))
		for _, q := range texts() {
			if ok && strings.HasPrefix(q, p) && q >= string(got) {
				t.Errorf("Above(%q) = %q isn't above %q", p, got, q)
			}
		}
		for _, q := range beyond {
			if !ok || q < string(got) {
				t.Errorf("Above(%q) = %q, %v, but %q stands between", p, got, ok, q)
			}
		}
	}
}

// P2.4: the sums that are known, and those of the library.
func TestSum(t *testing.T) {
	for _, c := range []struct {
		s    string
		want uint32
	}{
		{"", 0},
		{"123456789", 0xcbf43926},
		{"a", 0xe8b7be43},
		{"\x00", 0xd202ef8d},
		{"\xff\xff\xff\xff", 0xffffffff},
	} {
		if got := octet.Sum([]byte(c.s)); got != c.want {
			t.Errorf("Sum(%q) = %x, want %x", c.s, got, c.want)
		}
	}
	if octet.Sum(nil) != 0 {
		t.Error("Sum of nil isn't 0")
	}
	draw := rand.New(rand.NewSource(3))
	for n := range 600 {
		p := make([]byte, n)
		draw.Read(p)
		if got, want := octet.Sum(p), crc32.ChecksumIEEE(p); got != want {
			t.Errorf("Sum of %d bytes = %x, want %x", n, got, want)
		}
	}
	for b := range 256 {
		if got, want := octet.Sum([]byte{byte(b)}), crc32.ChecksumIEEE([]byte{byte(b)}); got != want {
			t.Errorf("Sum of %x = %x, want %x", b, got, want)
		}
	}
}

// P1, and the rule of memory: nothing handed in is changed, its spare room neither.
func TestArgumentsStay(t *testing.T) {
	for _, s := range []string{"", "a", "a\x00\x01", "\x00\xff\x00\x01", "a\xff", "\xff\xff", "12345678", "123456789"} {
		p, whole := probe.Roomy([]byte(s))
		was := bytes.Clone(whole)
		for _, at := range append(probe.Places(len(s)), 0, 1) {
			octet.ReadInt(p, at)
			octet.ReadUint(p, at)
			octet.ReadText(p, at)
		}
		octet.Above(p)
		octet.Sum(p)
		if !bytes.Equal(whole, was) {
			t.Errorf("%q was changed", s)
		}
	}
}

// P2, and the rule of memory: an answer stays, whatever becomes of the bytes and of other answers, spare room too.
func TestAnswersAreNew(t *testing.T) {
	made := func() [][]byte {
		above, _ := octet.Above([]byte("ab\xff"))
		return [][]byte{octet.Int(5), octet.Uint(5), octet.Text("a\x00b"), octet.Text(""), above}
	}
	for _, i := range probe.Spoilt(made) {
		t.Errorf("answer %d was written over by another", i)
	}
	p, _ := probe.Roomy([]byte("ab\x00\x01"))
	s, _, _ := octet.ReadText(p, 0)
	above, _ := octet.Above(p)
	probe.Fill(p)
	if s != "ab" || string(above) != "ab\x00\x02" {
		t.Errorf("answers became %q, %q as the bytes were written over", s, above)
	}
	q, whole := probe.Roomy([]byte("ab"))
	above, _ = octet.Above(q)
	probe.Fill(above)
	if !bytes.Equal(whole[:2], []byte("ab")) {
		t.Errorf("the bytes became %q as the answer was written over", whole[:2])
	}
}

// P2: spare room and earlier calls don't matter.
func TestSameAnswers(t *testing.T) {
	for _, s := range append(texts(), "12345678", "a\x00\xffb\x00\x01c") {
		p := []byte(s)
		q, _ := probe.Roomy(p)
		u, un, ue := octet.ReadUint(p, 0)
		v, vn, ve := octet.ReadUint(q, 0)
		x, xn, xe := octet.ReadText(p, 0)
		y, yn, ye := octet.ReadText(q, 0)
		above, ok := octet.Above(p)
		roomyAbove, roomyOK := octet.Above(q)
		if u != v || un != vn || ue != ve || x != y || xn != yn || xe != ye || ok != roomyOK || !slices.Equal(above, roomyAbove) || octet.Sum(p) != octet.Sum(q) {
			t.Errorf("%q is answered in more than one way", s)
		}
	}
}
