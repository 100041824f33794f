package idem

import (
	"flotsam/api"
	"flotsam/varint"
)

// reader goes on from a place in a text. Behind its first error it reads nothing any more: so that error is the one that is told.
type reader struct {
	s  string
	at int
	e  api.Errno
}

// number is the next one, that has to be from least to most; behind an error it is 0.
func (in *reader) number(least int, most int) int {
	if in.e != api.OK {
		return 0
	}
	n, at, e := varint.Get(in.s, in.at)
	if e == api.OK && !within(n, least, most) {
		e = api.ErrForm
	}
	if e != api.OK {
		in.e = e
		return 0
	}
	in.at = at
	return n
}

func (in *reader) producers() *Producers {
	p := New()
	least := 0
	count := in.number(0, mostHeard)
	for i := 0; i < count && in.e == api.OK; i++ {
		id := in.number(least, lastProducer)
		p.put(id, in.producer())
		least = id + 1
	}
	return p
}

func (in *reader) producer() *producer {
	who := &producer{epoch: in.number(0, lastEpoch)}
	for range in.number(1, size) {
		who.add(in.sent())
	}
	return who
}

func (in *reader) sent() sent {
	var s sent
	s.seq = in.number(0, lastSeq)
	s.base = in.number(0, lastBase)
	s.span = in.number(1, api.MaxRecords)
	return s
}
