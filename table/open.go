package table

import (
	"slices"

	"sentry/api"
	"sentry/codec"
	"sentry/frame"
)

// Open opens a table.
func Open(b []byte) (*Table, api.Errno) {
	if len(b) < foot {
		return nil, api.ErrShort
	}
	end := len(b) - foot
	if string(b[len(b)-len(mark):]) != mark {
		return nil, api.ErrForm
	}
	n := numbers(b[end:])
	if n[0] > n[1] || n[1] > uint64(end) {
		return nil, api.ErrForm
	}
	indexAt, filterAt := int(n[0]), int(n[1])
	if !fills(b[indexAt:filterAt]) || !fills(b[filterAt:end]) {
		return nil, api.ErrForm
	}
	// What the index says is looked at ahead of its sum: a wrong form is named first.
	x, ok := decode(b[indexAt+head:filterAt], indexAt)
	if !ok {
		return nil, api.ErrForm
	}
	if _, _, e := frame.Next(b[indexAt:filterAt]); e != api.OK {
		return nil, e
	}
	filter, _, e := frame.Next(b[filterAt:end])
	if e != api.OK {
		return nil, e
	}
	return &Table{index: x, bytes: slices.Clone(b[:indexAt]), filter: filter, len: int(n[2])}, api.OK
}

// fills asks whether a frame tells just as many bytes as there are.
func fills(b []byte) bool {
	if len(b) < head {
		return false
	}
	n := uint64(b[0])<<24 | uint64(b[1])<<16 | uint64(b[2])<<8 | uint64(b[3])
	return n == uint64(len(b)-head)
}

// reader reads an index, as long as nothing is wrong.
type reader struct {
	rest []byte
	bad  bool
}

func (r *reader) number() uint64 {
	v, n, e := codec.Get(r.rest)
	r.bad = r.bad || e != api.OK
	r.rest = r.rest[n:]
	return v
}

func (r *reader) text() string {
	s, n, e := codec.GetText(r.rest)
	r.bad = r.bad || e != api.OK
	r.rest = r.rest[n:]
	return s
}

// decode reads an index, whose blocks stand side by side from 0 on up to end.
func decode(b []byte, end int) (*index, bool) {
	r := &reader{rest: b}
	x := &index{}
	at := 0
	for n := r.number(); n > 0 && !r.bad; n-- {
		first, place, size := r.text(), r.number(), r.number()
		if place != uint64(at) || size > uint64(end-at) {
			return nil, false
		}
		if i := len(x.spans); i > 0 && x.spans[i-1].first >= first {
			return nil, false
		}
		x.spans = append(x.spans, span{first: first, at: at, len: int(size)})
		at += int(size)
	}
	return x, !r.bad && len(r.rest) == 0 && len(x.spans) > 0 && at == end
}
