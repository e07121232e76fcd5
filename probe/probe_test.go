package probe_test

import (
	"bytes"
	"testing"

	"muniment/api"
	"muniment/disk"
	"muniment/probe"
)

// The helpers see what they are there to see: lists that share room with one another, or with those of an earlier answer.
func TestSpoilt(t *testing.T) {
	own := func() [][]byte { return [][]byte{[]byte("ab"), []byte("ab"), nil} }
	if got := probe.Spoilt(own); len(got) != 0 {
		t.Errorf("lists of their own: %v", got)
	}
	kept := []byte("cd")
	if len(probe.Spoilt(func() [][]byte { return [][]byte{[]byte("ab"), kept} })) == 0 {
		t.Error("a list that is handed out again isn't told")
	}
	within := func() [][]byte {
		p := []byte("abcd")
		return [][]byte{p[:2], p[2:]}
	}
	if len(probe.Spoilt(within)) == 0 {
		t.Error("a list that stands in another's spare room isn't told")
	}
}

func TestRoomy(t *testing.T) {
	q, whole := probe.Roomy([]byte("ab"))
	if string(q) != "ab" || !bytes.Equal(q[:cap(q)][:len(whole)], whole) || len(whole) < 40 {
		t.Errorf("Roomy(ab) = %q, %q", q, whole)
	}
	probe.Fill(q)
	if !bytes.Equal(whole, bytes.Repeat([]byte{0x77}, len(whole))) {
		t.Errorf("Fill left %q", whole)
	}
}

func TestChoices(t *testing.T) {
	for n := range 9 {
		seen := map[string]int{}
		for _, keep := range probe.Choices(n) {
			if len(keep) != n {
				t.Fatalf("a choice of %d writes has %d", n, len(keep))
			}
			p := make([]byte, n)
			for k, kept := range keep {
				if kept {
					p[k] = 1
				}
			}
			seen[string(p)]++
		}
		if n <= 5 && len(seen) != 1<<n {
			t.Errorf("%d choices of %d writes", len(seen), n)
		}
		if seen[string(make([]byte, n))] == 0 || seen[string(bytes.Repeat([]byte{1}, n))] == 0 {
			t.Errorf("of %d writes none, or all, is no choice", n)
		}
	}
}

func TestRows(t *testing.T) {
	a, b := []api.Value{probe.Word("a"), probe.Number(1)}, []api.Value{probe.Word("b"), {}}
	r := probe.Rows{"b": b, "a": a}
	if l := r.List(); !probe.SameRows(l, [][]api.Value{a, b}) || probe.SameRows(l, [][]api.Value{b, a}) {
		t.Errorf("List = %v", l)
	}
	if l := r.With(func(row []api.Value) bool { return row[1] == a[1] }); !probe.SameRows(l, [][]api.Value{a}) {
		t.Errorf("With = %v", l)
	}
	cols := probe.Columns()[:2]
	for name, want := range map[string]bool{"a": false, "b": true} {
		row := []api.Value{probe.Word(name), probe.Number(1)}
		if r.Taken(cols, row) != want || r.Taken(cols, []api.Value{row[0], {}}) {
			t.Errorf("Taken(%v) isn't %v", row, want)
		}
	}
	kept := []api.Value{probe.Word("kept")}
	if len(probe.SpoiltRows(func() [][]api.Value { return [][]api.Value{{probe.Word("a")}, kept} })) == 0 {
		t.Error("a row that is handed out again isn't told")
	}
	if l := probe.SpoiltRows(func() [][]api.Value { return [][]api.Value{{probe.Word("a")}, {probe.Word("a")}} }); len(l) != 0 {
		t.Errorf("rows of their own: %v", l)
	}
}

func TestCopyOf(t *testing.T) {
	d, _ := disk.New(3)
	p := bytes.Repeat([]byte{7}, api.PageSize)
	d.Write(1, p)
	d.Sync()
	c, e := probe.CopyOf(d)
	if c.Len() != 3 || c.Pending() != 0 || e != api.OK {
		t.Fatalf("%d sectors, %d writes on their way, error %d", c.Len(), c.Pending(), e)
	}
	d.Write(1, make([]byte, api.PageSize))
	for i, want := range [][]byte{make([]byte, api.PageSize), p, make([]byte, api.PageSize)} {
		if b, e := c.Read(i); !bytes.Equal(b, want) || e != api.OK {
			t.Errorf("sector %d isn't that of the other one", i)
		}
	}
	if c, e := probe.CopyOf(nil); c != nil || e != api.ErrArg {
		t.Errorf("CopyOf none: a disk %v, error %d", c != nil, e)
	}
}
