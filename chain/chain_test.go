package chain_test

import (
	"bytes"
	"math"
	"strings"
	"testing"

	"muniment/api"
	"muniment/chain"
	"muniment/probe"
)

// edges are events that are right, and events that aren't, each with one field at an edge, or all.
func edges() (right, wrong []api.Event) {
	base := api.Event{Seq: 7, Tick: 50, Who: "amy", Verb: api.VRole, Whom: "bob"}
	add := func(l *[]api.Event, turn func(v *api.Event)) {
		v := base
		turn(&v)
		*l = append(*l, v)
	}
	for _, seq := range []uint64{1, 2, 255, 256, math.MaxInt64, 1 << 63, math.MaxUint64} {
		add(&right, func(v *api.Event) { v.Seq = seq })
	}
	add(&wrong, func(v *api.Event) { v.Seq = 0 })
	for _, tick := range []int64{0, 1, 255, api.MaxTicks - 1, api.MaxTicks} {
		add(&right, func(v *api.Event) { v.Tick = tick })
	}
	for _, tick := range []int64{-1, math.MinInt64, api.MaxTicks + 1, math.MaxInt64} {
		add(&wrong, func(v *api.Event) { v.Tick = tick })
	}
	for verb := range 256 {
		l := &wrong
		if verb >= 1 && verb <= 11 {
			l = &right
		}
		add(l, func(v *api.Event) { v.Verb = byte(verb) })
	}
	rights, wrongs := texts()
	for _, s := range rights {
		add(&right, func(v *api.Event) { v.Who = s })
		add(&right, func(v *api.Event) { v.Whom = s })
		add(&right, func(v *api.Event) { v.Who, v.Whom = s, s })
	}
	for _, s := range wrongs {
		add(&wrong, func(v *api.Event) { v.Who = s })
		add(&wrong, func(v *api.Event) { v.Whom = s })
	}
	add(&right, func(v *api.Event) {
		*v = api.Event{Seq: math.MaxUint64, Tick: api.MaxTicks, Who: rights[1], Verb: api.VAudit, Whom: rights[1]}
	})
	return right, append(wrong, api.Event{})
}

// texts are those that Who and Whom may be, and those that they mayn't: the longest of noughts is the second one.
func texts() (right, wrong []string) {
	right = []string{
		"", strings.Repeat("\x00", 32), "\x00", "\x01", "\x00\x01", "a\x00b", "a", "A b", "\u00e9", "\ufffd", "\uffff",
		"\U0010ffff", strings.Repeat("a", 31), strings.Repeat("a", 32), strings.Repeat("é", 16), strings.Repeat("\U0001f600", 8),
	}
	wrong = []string{
		strings.Repeat("a", 33), strings.Repeat("\x00", 33), strings.Repeat("é", 17), "a" + strings.Repeat("é", 16), strings.Repeat("a", 1000),
		"\xff", "a\xc3", "\xc3", "\x80", "\xed\xa0\x80", "\xf4\x90\x80\x80", "\xc0\x80", "\xe2\x82",
	}
	return right, wrong
}

// P17.1: what is right, whatever its link is.
func TestForm(t *testing.T) {
	right, wrong := edges()
	for _, v := range right {
		if !chain.Form(v) {
			t.Errorf("%+v isn't right", v)
		}
		v.Link[31] = 1
		if !chain.Form(v) {
			t.Errorf("%+v isn't right by its link", v)
		}
	}
	for _, v := range wrong {
		if chain.Form(v) {
			t.Errorf("%+v is right", v)
		}
	}
}

// P17.1: the bytes of each event, and the event of these bytes.
func TestBytes(t *testing.T) {
	right, wrong := edges()
	for _, v := range right {
		p, e := chain.Encode(v)
		if !bytes.Equal(p, bytesOf(v)) || e != api.OK {
			t.Errorf("Encode(%+v) = %x, error %d", v, p, e)
		}
		if got, e := chain.Decode(p); got != v || e != api.OK {
			t.Errorf("Decode(%x) = %+v, error %d", p, got, e)
		}
		linked := v
		linked.Link = linkOf([32]byte{}, v)
		if other, e := chain.Encode(linked); !bytes.Equal(other, p) || e != api.OK {
			t.Errorf("Encode of it with a link = %x, error %d", other, e)
		}
	}
	for _, v := range wrong {
		if p, e := chain.Encode(v); len(p) != 0 || e != api.ErrForm {
			t.Errorf("Encode(%+v) = %x, error %d", v, p, e)
		}
		none(t, bytesOf(v))
	}
}

// none sees that some bytes are no event's.
func none(t *testing.T, p []byte) {
	t.Helper()
	if v, e := chain.Decode(p); v != (api.Event{}) || e != api.ErrForm {
		t.Errorf("Decode(%x) = %+v, error %d, want ErrForm", p, v, e)
	}
}

// P17.1: bytes cut short at every place, with one more, and none.
func TestDecodeRefused(t *testing.T) {
	right, _ := edges()
	for _, v := range right {
		p := bytesOf(v)
		for n := range p {
			none(t, p[:n])
		}
		for _, more := range []byte{0, 1, 'a', 0xff} {
			none(t, append(bytes.Clone(p), more))
		}
		none(t, append(bytes.Clone(p), p...))
	}
	none(t, nil)
	none(t, []byte{})
	none(t, make([]byte, 100))
}

// P17.1: whatever bytes are taken, Encode makes them of what Decode tells.
func TestDecodeTurned(t *testing.T) {
	right, _ := edges()
	taken := 0
	for _, v := range right {
		p := bytesOf(v)
		for i := range p {
			for _, by := range []byte{1, 2, 0x10, 0x80, 0xff} {
				q := bytes.Clone(p)
				q[i] ^= by
				got, e := chain.Decode(q)
				if e != api.OK {
					none(t, q)
					continue
				}
				taken++
				if back, e := chain.Encode(got); !bytes.Equal(back, q) || e != api.OK || got == v {
					t.Fatalf("Decode(%x) = %+v, of which Encode makes %x, error %d", q, got, back, e)
				}
			}
		}
	}
	if taken < 1000 {
		t.Errorf("only %d were taken", taken)
	}
}

// befores are links that an event may stand behind.
func befores() [][32]byte {
	out := [][32]byte{{}, {1}, {31: 1}, linkOf([32]byte{}, some(1))}
	var all [32]byte
	for i := range all {
		all[i] = 0xff
	}
	return append(out, all)
}

// P17.1: the digest of the link ahead and of the event's bytes, and of nothing else.
func TestLink(t *testing.T) {
	right, wrong := edges()
	for _, before := range befores() {
		seen := map[[32]byte]api.Event{}
		for _, v := range right {
			want := linkOf(before, v)
			if got, e := chain.Link(before, v); got != want || e != api.OK {
				t.Errorf("Link of %+v = %x, error %d, want %x", v, got, e, want)
			}
			if other, there := seen[want]; there && other != v {
				t.Errorf("%+v and %+v have one link", v, other)
			}
			seen[want] = v
			v.Link = before
			v.Link[0]++
			if got, e := chain.Link(before, v); got != want || e != api.OK {
				t.Errorf("Link hangs on the Link that %+v has", v)
			}
		}
		for _, v := range wrong {
			if got, e := chain.Link(before, v); got != ([32]byte{}) || e != api.ErrForm {
				t.Errorf("Link of %+v = %x, error %d", v, got, e)
			}
		}
	}
}

// The rule of memory: an answer shares nothing with what was handed in, nor with another one.
func TestMemory(t *testing.T) {
	right, _ := edges()
	if l := probe.Spoilt(func() [][]byte {
		var out [][]byte
		for _, v := range right[:20] {
			p, _ := chain.Encode(v)
			out = append(out, p)
		}
		return out
	}); len(l) != 0 {
		t.Errorf("Encode's answers share something: %v", l)
	}
	for _, v := range right {
		p, whole := probe.Roomy(bytesOf(v))
		was := bytes.Clone(whole)
		got, e := chain.Decode(p)
		if !bytes.Equal(whole, was) {
			t.Fatalf("Decode(%x) changes it", was)
		}
		probe.Fill(p)
		if got != v || e != api.OK {
			t.Errorf("what was told of %x became %+v", was, got)
		}
	}
}
