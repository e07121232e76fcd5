package codec

import (
	"muniment/api"
	"muniment/octet"
)

// gaveUp is what a reader panics with where the bytes aren't of the form.
type gaveUp struct{}

// caught does what reads, and answers ErrForm if it gave up. Another panic is no reader's, and goes on.
func caught(read func()) (e api.Errno) {
	defer func() {
		switch x := recover().(type) {
		case nil:
		case gaveUp:
			e = api.ErrForm
		default:
			panic(x)
		}
	}()
	read()
	return api.OK
}

// reader goes through bytes from a place on, which is none outside of them.
type reader struct {
	p  []byte
	at int
}

// must gives up where something doesn't hold.
func must(holds bool) {
	if !holds {
		panic(gaveUp{})
	}
}

// row is all the values of which the bytes are made, to their end.
func (r *reader) row() []api.Value {
	count := r.one()
	must(count <= api.MaxColumns)
	var l []api.Value
	for range count {
		l = append(l, r.value(r.rowText))
	}
	must(r.at == len(r.p))
	return l
}

// value is the next value, whose text, if it is one, text reads.
func (r *reader) value(text func() string) api.Value {
	v := api.Value{Kind: r.one()}
	switch v.Kind {
	case api.Int:
		v.N = r.number()
	case api.Text:
		v.S = text()
	case api.Bool:
		v.N = int64(r.one())
	}
	must(Form(v))
	return v
}

func (r *reader) one() byte {
	must(r.at < len(r.p))
	r.at++
	return r.p[r.at-1]
}

func (r *reader) number() int64 {
	n, next, e := octet.ReadInt(r.p, r.at)
	must(e == api.OK)
	r.at = next
	return n
}

// rowText is a text behind its length.
func (r *reader) rowText() string {
	size := int(r.one())
	must(size <= len(r.p)-r.at)
	r.at += size
	return string(r.p[r.at-size : r.at])
}

// keyText is a text up to its end.
func (r *reader) keyText() string {
	s, next, e := octet.ReadText(r.p, r.at)
	must(e == api.OK)
	r.at = next
	return s
}
