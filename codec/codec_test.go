package codec_test

import (
	"bytes"
	"cmp"
	"encoding/base64"
	"math"
	"math/rand"
	"slices"
	"strings"
	"testing"

	"muniment/api"
	"muniment/codec"
	"muniment/octet"
	"muniment/probe"
)

var number, text, truth = probe.Number, probe.Word, probe.Truth

// values are some of every kind, in their order.
func values() []api.Value {
	out := []api.Value{{}}
	for _, n := range []int64{math.MinInt64, math.MinInt64 + 1, -256, -1, 0, 1, 255, 256, 1 << 32, math.MaxInt64} {
		out = append(out, number(n))
	}
	texts := []string{
		"", "\x00", "\x00\x00", "\x00\x01", "\x01", "0", "A", "a", "a\x00", "a\x00b", "aa", "ab", "b", "z", "\x7f",
		"\u0080", "\u00e9", "\u20ac", "\ufffd", "\U0001f600", "\U0010ffff",
		strings.Repeat("\x00", 60), strings.Repeat("a", 59), strings.Repeat("a", 60), strings.Repeat("\u20ac", 20), strings.Repeat("z", 60),
	}
	slices.Sort(texts)
	for _, s := range texts {
		out = append(out, text(s))
	}
	return append(out, truth(0), truth(1))
}

// none are what isn't a value.
func none() []api.Value {
	out := []api.Value{
		{Kind: api.Null, N: 1}, {Kind: api.Null, N: -1}, {Kind: api.Null, S: "a"}, {Kind: api.Null, S: "\x00"},
		{Kind: api.Int, S: "a"}, {Kind: api.Int, N: 5, S: "5"},
		{Kind: api.Text, N: 1}, {Kind: api.Text, N: math.MinInt64, S: "a"},
		{Kind: api.Bool, N: 2}, {Kind: api.Bool, N: -1}, {Kind: api.Bool, N: 256}, {Kind: api.Bool, N: 1 << 32}, {Kind: api.Bool, N: math.MinInt64},
		{Kind: api.Bool, S: "a"}, {Kind: api.Bool, N: 1, S: "1"},
		{Kind: 4}, {Kind: 4, N: 1}, {Kind: 5, S: "a"}, {Kind: 128}, {Kind: 255},
	}
	for _, s := range []string{
		strings.Repeat("a", 61), strings.Repeat("\u20ac", 20) + "a", strings.Repeat("a", 59) + "\u00e9", strings.Repeat("a", 256), strings.Repeat("a", 70000),
		"\xff", "\x80", "a\xc3", "\xe2\x82", "\xed\xa0\x80", "\xc0\x80", strings.Repeat("a", 59) + "\xc3",
	} {
		out = append(out, text(s))
	}
	return out
}

// encoded is what Encode makes of values that it takes.
func encoded(t *testing.T, l ...api.Value) []byte {
	t.Helper()
	p, e := codec.Encode(l)
	if e != api.OK {
		t.Fatalf("Encode(%v): error %d", l, e)
	}
	return p
}

// key is what Key makes of a value that it takes.
func key(t *testing.T, v api.Value) []byte {
	t.Helper()
	p, e := codec.Key(v)
	if e != api.OK {
		t.Fatalf("Key(%v): error %d", v, e)
	}
	return p
}

// P4.1: what is a value, and what isn't.
func TestForm(t *testing.T) {
	for _, v := range values() {
		if !codec.Form(v) {
			t.Errorf("Form(%+v) = false", v)
		}
	}
	for _, v := range none() {
		if codec.Form(v) {
			t.Errorf("Form(%+v) = true", v)
		}
	}
	for kind := range 256 {
		if got := codec.Form(api.Value{Kind: byte(kind)}); got != (kind < 4) {
			t.Errorf("Form of kind %d = %v", kind, got)
		}
	}
}

// P4.1: the bytes that the document names.
func TestEncodeKnown(t *testing.T) {
	for _, c := range []struct {
		l    []api.Value
		want string
	}{
		{nil, "\x00"},
		{[]api.Value{}, "\x00"},
		{[]api.Value{number(1), text("a"), {}}, "\x03\x01\x80\x00\x00\x00\x00\x00\x00\x01\x02\x01a\x00"},
		{[]api.Value{{}}, "\x01\x00"},
		{[]api.Value{number(-1)}, "\x01\x01\x7f\xff\xff\xff\xff\xff\xff\xff"},
		{[]api.Value{text("")}, "\x01\x02\x00"},
		{[]api.Value{text("a\x00\u00e9")}, "\x01\x02\x04a\x00\xc3\xa9"},
		{[]api.Value{text(strings.Repeat("a", 60))}, "\x01\x02\x3c" + strings.Repeat("a", 60)},
		{[]api.Value{truth(0), truth(1)}, "\x02\x03\x00\x03\x01"},
		{make([]api.Value, 12), "\x0c" + strings.Repeat("\x00", 12)},
	} {
		if got, e := codec.Encode(c.l); string(got) != c.want || e != api.OK {
			t.Errorf("Encode(%v) = %x, %d, want %x", c.l, got, e, c.want)
		}
	}
}

// P4.1: too many, what is none, and both; nothing beside an error.
func TestEncodeRefused(t *testing.T) {
	refused := func(want api.Errno, l ...api.Value) {
		t.Helper()
		if p, e := codec.Encode(l); p != nil || e != want {
			t.Errorf("Encode(%v) = %x, %d, want error %d", l, p, e, want)
		}
	}
	for _, bad := range none() {
		refused(api.ErrForm, bad)
		refused(api.ErrForm, number(1), bad)
		refused(api.ErrForm, bad, number(1))
		refused(api.ErrForm, append(make([]api.Value, 11), bad)...)
		refused(api.ErrLong, append(make([]api.Value, 12), bad)...)
	}
	for _, n := range []int{13, 14, 255, 256, 257, 65536 + 3} {
		refused(api.ErrLong, make([]api.Value, n)...)
	}
}

// rows are lists of values: each alone, none, MaxColumns, and some that are drawn.
func rows() [][]api.Value {
	all := values()
	out := [][]api.Value{nil, make([]api.Value, 12)}
	for _, v := range all {
		out = append(out, []api.Value{v}, slices.Repeat([]api.Value{v}, 12))
	}
	draw := rand.New(rand.NewSource(1))
	for range 300 {
		var l []api.Value
		for range draw.Intn(13) {
			l = append(l, all[draw.Intn(len(all))])
		}
		out = append(out, l)
	}
	return out
}

// P4.1: the values come back, and none of their bytes' beginnings, nor what goes on behind them, is of values.
func TestDecodeBack(t *testing.T) {
	for _, l := range rows() {
		p := encoded(t, l...)
		if got, e := codec.Decode(p); !slices.Equal(got, l) || e != api.OK {
			t.Fatalf("Decode(%x) = %v, %d, want %v", p, got, e, l)
		}
		for n := range len(p) {
			if got, e := codec.Decode(p[:n]); got != nil || e != api.ErrForm {
				t.Fatalf("Decode of the first %d of %x = %v, %d", n, p, got, e)
			}
		}
		for _, more := range []string{"\x00", "\x01", "\xff", "\x02\x00", string(p)} {
			if got, e := codec.Decode(append(bytes.Clone(p), more...)); got != nil || e != api.ErrForm {
				t.Fatalf("Decode of %x and %x = %v, %d", p, more, got, e)
			}
		}
	}
}

// P4.1: bytes that Encode makes of nothing.
func TestDecodeRefused(t *testing.T) {
	for _, p := range []string{
		"", "\x01", "\x02\x00", "\x00\x00",
		"\x0d" + strings.Repeat("\x00", 13), "\xff" + strings.Repeat("\x00", 255), "\x80" + strings.Repeat("\x00", 128),
		"\x01\x04", "\x01\x04\x00", "\x01\xff", "\x01\x80", "\x02\x00\x05",
		"\x01\x01", "\x01\x01\x80\x00\x00\x00\x00\x00\x00",
		"\x01\x02", "\x01\x02\x01", "\x01\x02\x03ab", "\x01\x02\x00a", "\x01\x02\xff" + strings.Repeat("a", 100),
		"\x01\x02\x3d" + strings.Repeat("a", 61), "\x01\x02\x3d" + strings.Repeat("a", 60), "\x01\x02\xff" + strings.Repeat("a", 255),
		"\x01\x02\x01\xff", "\x01\x02\x01\xc3", "\x01\x02\x03\xed\xa0\x80", "\x01\x02\x02\xc0\x80", "\x02\x02\x01\xc3\x02\x01\xa9",
		"\x01\x03", "\x01\x03\x02", "\x01\x03\xff", "\x01\x03\x80",
	} {
		if l, e := codec.Decode([]byte(p)); l != nil || e != api.ErrForm {
			t.Errorf("Decode(%x) = %v, %d, want error %d", p, l, e, api.ErrForm)
		}
	}
	if l, e := codec.Decode(nil); l != nil || e != api.ErrForm {
		t.Errorf("Decode(nil) = %v, %d", l, e)
	}
	// What is only there as spare room isn't there.
	for n := range 4 {
		if l, e := codec.Decode([]byte("\x01\x02\x01a")[:n]); l != nil || e != api.ErrForm {
			t.Errorf("Decode of %d bytes with room = %v, %d", n, l, e)
		}
	}
}

// P4.1: what is decoded is what Encode makes: of bytes that are drawn, those that are taken come back as they were.
func TestDecodeOneWay(t *testing.T) {
	draw := rand.New(rand.NewSource(2))
	taken := 0
	for range 50000 {
		p := make([]byte, draw.Intn(14))
		for i := range p {
			p[i] = []byte{0, 1, 2, 3, 4, 'a', 0x80, 0xff}[draw.Intn(8)]
		}
		if l, e := codec.Decode(p); e == api.OK {
			taken++
			if again := encoded(t, l...); !bytes.Equal(again, p) {
				t.Fatalf("Decode(%x) = %v, but Encode of it is %x", p, l, again)
			}
		}
	}
	for _, l := range rows() {
		p := encoded(t, l...)
		for i := range p {
			q := bytes.Clone(p)
			q[i] ^= 1 << draw.Intn(8)
			if l, e := codec.Decode(q); e == api.OK {
				taken++
				if again := encoded(t, l...); !bytes.Equal(again, q) {
					t.Fatalf("Decode(%x) = %v, but Encode of it is %x", q, l, again)
				}
			}
		}
	}
	if taken < 100 {
		t.Errorf("only %d were taken", taken)
	}
}

// P4.2: the bytes that the document names.
func TestKeyKnown(t *testing.T) {
	for _, c := range []struct {
		v    api.Value
		want string
	}{
		{api.Value{}, "\x00"},
		{number(1), "\x01\x80\x00\x00\x00\x00\x00\x00\x01"},
		{number(-1), "\x01\x7f\xff\xff\xff\xff\xff\xff\xff"},
		{text(""), "\x02\x00\x01"},
		{text("a"), "\x02a\x00\x01"},
		{text("a\x00b"), "\x02a\x00\xffb\x00\x01"},
		{text(strings.Repeat("\x00", 60)), "\x02" + strings.Repeat("\x00\xff", 60) + "\x00\x01"},
		{truth(0), "\x03\x00"},
		{truth(1), "\x03\x01"},
	} {
		if got, e := codec.Key(c.v); string(got) != c.want || e != api.OK {
			t.Errorf("Key(%+v) = %x, %d, want %x", c.v, got, e, c.want)
		}
	}
	for _, v := range none() {
		if p, e := codec.Key(v); p != nil || e != api.ErrForm {
			t.Errorf("Key(%+v) = %x, %d, want error %d", v, p, e, api.ErrForm)
		}
	}
}

// order is how two values stand, by the document's words.
func order(a, b api.Value) int {
	return cmp.Or(cmp.Compare(a.Kind, b.Kind), cmp.Compare(a.N, b.N), cmp.Compare(a.S, b.S))
}

// P4.2: keys stand as the values do, whatever comes behind them.
func TestKeyOrder(t *testing.T) {
	all := values()
	if !slices.IsSortedFunc(all, order) {
		t.Fatal("the values don't stand in their order")
	}
	for _, a := range all {
		for _, b := range all {
			if order(a, b) == 0 {
				continue
			}
			for _, x := range []string{"", "\x00", "\xff"} {
				for _, y := range []string{"", "\x00", "\xff"} {
					if got := bytes.Compare(append(key(t, a), x...), append(key(t, b), y...)); got != order(a, b) {
						t.Fatalf("the keys of %+v with %q and of %+v with %q stand as %d", a, x, b, y, got)
					}
				}
			}
		}
	}
}

// P4.2: each value comes back, wherever its key stands and whatever stands around it; cut off it doesn't.
func TestKeyBack(t *testing.T) {
	for _, v := range values() {
		for _, ahead := range []string{"", "\x00", "\x02a\x00\x01", "\xff\xff"} {
			for _, behind := range []string{"", "\x00", "\xff", "\x01\x02\x03"} {
				k := append([]byte(ahead), key(t, v)...)
				p := append(bytes.Clone(k), behind...)
				if got, next, e := codec.ReadKey(p, len(ahead)); got != v || next != len(k) || e != api.OK {
					t.Fatalf("ReadKey(%x, %d) = %+v, %d, %d, want %+v, %d", p, len(ahead), got, next, e, v, len(k))
				}
			}
			k := append([]byte(ahead), key(t, v)...)
			for n := len(ahead); n < len(k); n++ {
				if got, next, e := codec.ReadKey(k[:n], len(ahead)); got != (api.Value{}) || next != 0 || e != api.ErrForm {
					t.Fatalf("ReadKey(%x, %d) = %+v, %d, %d, want error %d", k[:n], len(ahead), got, next, e, api.ErrForm)
				}
			}
		}
	}
}

// P4.2: some keys behind one another are read one by one.
func TestKeysInARow(t *testing.T) {
	for _, l := range rows() {
		var p []byte
		for _, v := range l {
			p = append(p, key(t, v)...)
		}
		at := 0
		for _, v := range l {
			got, next, e := codec.ReadKey(p, at)
			if got != v || e != api.OK {
				t.Fatalf("ReadKey(%x, %d) = %+v, %d, want %+v", p, at, got, e, v)
			}
			at = next
		}
		if at != len(p) {
			t.Fatalf("the keys of %v end at %d of %d", l, at, len(p))
		}
	}
}

// P4.2: places below 0 and behind the end, and what is no value's key.
func TestReadKeyRefused(t *testing.T) {
	refused := func(p string, at int, want api.Errno) {
		t.Helper()
		if v, next, e := codec.ReadKey([]byte(p), at); v != (api.Value{}) || next != 0 || e != want {
			t.Errorf("ReadKey(%x, %d) = %+v, %d, %d, want error %d", p, at, v, next, e, want)
		}
	}
	for _, p := range []string{"", "\x00", "\x04", "\x03\x01", "\x02a\x00\x01"} {
		for _, at := range probe.Places(len(p)) {
			refused(p, at, api.ErrArg)
		}
		refused(p, len(p), api.ErrForm)
	}
	for _, p := range []string{
		"\x04", "\x04\x00", "\x80", "\xff", "\x01", "\x01\x80\x00", "\x02", "\x02a", "\x02a\x00", "\x02a\x00\x02", "\x02\x00\xff", "\x03", "\x03\x02", "\x03\x80", "\x03\xff",
		"\x02\xff\x00\x01", "\x02\xc3\x00\x01", "\x02\xc3\x00\xff\x00\x01", "\x02\xed\xa0\x80\x00\x01", "\x02a\x80\x00\x01",
	} {
		refused(p, 0, api.ErrForm)
		refused("\x00"+p, 1, api.ErrForm)
	}
	for _, n := range []int{61, 62, 255, 256, 256 + 60, 70000} {
		refused("\x02"+string(octet.Text(strings.Repeat("a", n))), 0, api.ErrForm)
	}
	refused("\x02"+string(octet.Text(strings.Repeat("\x00", 61))), 0, api.ErrForm)
	if v, next, e := codec.ReadKey(nil, 0); v != (api.Value{}) || next != 0 || e != api.ErrForm {
		t.Errorf("ReadKey(nil, 0) = %+v, %d, %d", v, next, e)
	}
	if v, next, e := codec.ReadKey([]byte("\x02a\x00\x01")[:2], 0); v != (api.Value{}) || next != 0 || e != api.ErrForm {
		t.Errorf("ReadKey of a text whose end is spare room = %+v, %d, %d", v, next, e)
	}
}

// P4.2: what is read is what Key makes.
func TestReadKeyOneWay(t *testing.T) {
	draw := rand.New(rand.NewSource(3))
	taken := 0
	for range 50000 {
		p := make([]byte, draw.Intn(14))
		for i := range p {
			p[i] = []byte{0, 1, 2, 3, 4, 'a', 0x80, 0xff}[draw.Intn(8)]
		}
		if v, next, e := codec.ReadKey(p, 0); e == api.OK {
			taken++
			if again := key(t, v); !bytes.Equal(again, p[:next]) {
				t.Fatalf("ReadKey(%x) = %+v, %d, but Key of it is %x", p, v, next, again)
			}
		}
	}
	if taken < 100 {
		t.Errorf("only %d were taken", taken)
	}
}

// P4.3: the texts that are known, and those of the library, of every length.
func TestBase(t *testing.T) {
	for _, c := range []struct{ p, want string }{
		{"", ""}, {"f", "Zg"}, {"fo", "Zm8"}, {"foo", "Zm9v"}, {"foob", "Zm9vYg"}, {"fooba", "Zm9vYmE"}, {"foobar", "Zm9vYmFy"},
		{"\xff", "_w"}, {"\xfb\xef\xbe", "----"}, {"\xff\xff\xff", "____"}, {"\x00", "AA"}, {"\x00\x00\x00", "AAAA"},
	} {
		if got := codec.Base([]byte(c.p)); got != c.want {
			t.Errorf("Base(%x) = %s, want %s", c.p, got, c.want)
		}
		if got, e := codec.ReadBase(c.want); string(got) != c.p || e != api.OK {
			t.Errorf("ReadBase(%s) = %x, %d, want %x", c.want, got, e, c.p)
		}
	}
	if codec.Base(nil) != "" {
		t.Error("Base of nil isn't empty")
	}
	draw := rand.New(rand.NewSource(4))
	for n := range 300 {
		p := make([]byte, n)
		draw.Read(p)
		s := codec.Base(p)
		if want := base64.RawURLEncoding.EncodeToString(p); s != want {
			t.Errorf("Base of %d bytes = %s, want %s", n, s, want)
		}
		if got, e := codec.ReadBase(s); !bytes.Equal(got, p) || e != api.OK {
			t.Errorf("ReadBase(%s) = %x, %d, want %x", s, got, e, p)
		}
	}
}

// P4.3: every text of at most two characters, and of three that end with any, is held against what Base makes.
func TestReadBaseEach(t *testing.T) {
	made := map[string][]byte{"": nil}
	for a := range 256 {
		one := []byte{byte(a)}
		made[codec.Base(one)] = one
	}
	for a := range 65536 {
		two := []byte{byte(a >> 8), byte(a)}
		made[codec.Base(two)] = two
	}
	check := func(s string) {
		t.Helper()
		want, ok := made[s]
		got, e := codec.ReadBase(s)
		if ok && (!bytes.Equal(got, want) || e != api.OK) || !ok && (got != nil || e != api.ErrForm) {
			t.Fatalf("ReadBase(%q) = %x, %d, want %x, %v", s, got, e, want, ok)
		}
	}
	check("")
	for a := range 256 {
		check(string([]byte{byte(a)}))
		for b := range 256 {
			check(string([]byte{byte(a), byte(b)}))
			check(string([]byte{'_', byte(a), byte(b)}))
		}
	}
}

// P4.3: characters that are none, lengths that no bytes have, last bits that aren't noughts.
func TestReadBaseRefused(t *testing.T) {
	for _, s := range []string{
		"_x", "Zh", "Zm9", "Z", "A", "AAAAA", "Zm9vY", "AAB", "AB", "AAAAAB", "AAAAAAB",
		"=", "Zg==", "Zg=", "Zm8=", "Zm9v=", "====", "+w", "/w", "Zm9v+/+/", "Zm 9v", " Zm9v", "Zm9v ", "Zm9v\n", "Zm9\nv", "\r\n", "Zg\n==",
		"\u00e9\u00e9", "Zm9\xff", "\xff\xff\xff\xff", "\x00\x00\x00\x00", "Zm\x009", ".w", "a,bc",
	} {
		if p, e := codec.ReadBase(s); p != nil || e != api.ErrForm {
			t.Errorf("ReadBase(%q) = %x, %d, want error %d", s, p, e, api.ErrForm)
		}
	}
	// The same as a strict reader of the library, but for the ends of lines, which it leaves out.
	strict := base64.RawURLEncoding.Strict()
	draw := rand.New(rand.NewSource(5))
	for range 20000 {
		s := make([]byte, draw.Intn(12))
		for i := range s {
			s[i] = "AQgwEIY048cos-_=+/ z"[draw.Intn(20)]
		}
		want, err := strict.DecodeString(string(s))
		got, e := codec.ReadBase(string(s))
		if err == nil && (!bytes.Equal(got, want) || e != api.OK) || err != nil && (got != nil || e != api.ErrForm) {
			t.Fatalf("ReadBase(%q) = %x, %d, want %x, %v", s, got, e, want, err)
		}
	}
}

// P1, and the rule of memory: nothing handed in is changed, its spare room neither.
func TestArgumentsStay(t *testing.T) {
	for _, s := range []string{"", "\x00", "\x01\x02\x01a", "\x02a\x00\x01", "\x02a\x00", "\x01\x80\x00\x00\x00\x00\x00\x00\x01", "\x03\x01", "\xff"} {
		p, whole := probe.Roomy([]byte(s))
		was := bytes.Clone(whole)
		codec.Decode(p)
		for _, at := range append(probe.Places(len(s)), 0, 1, len(s)) {
			codec.ReadKey(p, at)
		}
		codec.Base(p)
		if !bytes.Equal(whole, was) {
			t.Errorf("%x was changed", s)
		}
	}
	l := make([]api.Value, 2, 5)
	l[0], l[1] = number(5), text("a")
	all := l[:5]
	all[2], all[3] = truth(1), api.Value{Kind: 9}
	was := slices.Clone(all)
	codec.Encode(l)
	codec.Encode(l[:4])
	if !slices.Equal(all, was) {
		t.Errorf("the values became %v", all)
	}
}

// P2, and the rule of memory: an answer stays, whatever becomes of the bytes and of other answers, spare room too.
func TestAnswersAreNew(t *testing.T) {
	made := func() [][]byte {
		base, _ := codec.ReadBase("Zm9vYg")
		return [][]byte{encoded(t), encoded(t, text("ab"), truth(1)), key(t, api.Value{}), key(t, number(5)), key(t, text("ab")), key(t, truth(0)), base}
	}
	for _, i := range probe.Spoilt(made) {
		t.Errorf("answer %d was written over by another", i)
	}
	p, _ := probe.Roomy(encoded(t, text("ab"), text("cd")))
	l, _ := codec.Decode(p)
	other, _ := codec.Decode(p)
	k, _ := probe.Roomy(key(t, text("ef")))
	v, _, _ := codec.ReadKey(k, 0)
	probe.Fill(p)
	probe.Fill(k)
	clear(other[:cap(other)])
	if l[0] != text("ab") || l[1] != text("cd") || v != text("ef") {
		t.Errorf("answers became %v, %v as the bytes were written over", l, v)
	}
}

// P2: spare room and earlier calls don't matter.
func TestSameAnswers(t *testing.T) {
	draw := rand.New(rand.NewSource(6))
	for range 20000 {
		p := make([]byte, draw.Intn(14))
		for i := range p {
			p[i] = []byte{0, 1, 2, 3, 'a', 0x80, 0xff}[draw.Intn(7)]
		}
		q, _ := probe.Roomy(p)
		l, e := codec.Decode(p)
		m, f := codec.Decode(q)
		if !slices.Equal(l, m) || e != f || codec.Base(p) != codec.Base(q) {
			t.Fatalf("%x is answered in more than one way", p)
		}
		for at := -1; at <= len(p)+1; at++ {
			v, next, e := codec.ReadKey(p, at)
			w, end, f := codec.ReadKey(q, at)
			if v != w || next != end || e != f {
				t.Fatalf("ReadKey(%x, %d) is answered in more than one way", p, at)
			}
		}
	}
}

// P1: whatever the bytes are, each call ends; many of them too.
func TestAnything(t *testing.T) {
	for _, b := range []byte{0, 1, 2, 3, 12, 'a', 0xff} {
		p := bytes.Repeat([]byte{b}, 300000)
		codec.Decode(p)
		codec.ReadKey(p, 0)
		codec.ReadBase(string(p))
		s := codec.Base(p)
		if back, e := codec.ReadBase(s); !bytes.Equal(back, p) || e != api.OK {
			t.Errorf("%d bytes of %x don't come back", len(p), b)
		}
		codec.Form(text(string(p)))
		codec.Key(text(string(p)))
	}
}
