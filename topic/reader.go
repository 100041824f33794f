package topic

import (
	"flotsam/api"
	"flotsam/varint"
)

// reader goes on from a place in a text. Behind its first error it reads nothing any more: so that error is the one that is told.
type reader struct {
	s  string
	at int
	e  api.Errno
}

// number is the next one, that has to be from least to most; of an error it is 0.
func (in *reader) number(least int, most int) int {
	if in.e != api.OK {
		return 0
	}
	n, at, e := varint.Get(in.s, in.at)
	in.at, in.e = at, e
	in.demand(within(n, least, most))
	if in.e != api.OK {
		return 0
	}
	return n
}

// name is the next one, that has to be above the one ahead; an empty one is above none.
func (in *reader) name(ahead string) string {
	if in.e != api.OK {
		return ""
	}
	name, at, e := varint.Take(in.s, in.at, longestName)
	in.at, in.e = at, e
	in.demand(name > ahead)
	return name
}

// demand is an error of the form, if what was read is not as it has to be.
func (in *reader) demand(right bool) {
	if in.e == api.OK && !right {
		in.e = api.ErrForm
	}
}

// table is the whole text's.
func (in *reader) table() *Table {
	t := New()
	t.next = in.number(0, endOfIDs)
	ahead := ""
	for range in.number(0, api.MaxTopics) {
		name := in.name(ahead)
		t.put(name, in.entry(t.next-1))
		ahead = name
	}
	in.demand(in.at == len(in.s) && !t.gaveTwice())
	return t
}

func (in *reader) entry(lastID int) entry {
	var made entry
	made.id = in.number(0, lastID)
	made.parts = in.number(1, api.MaxParts)
	return made
}
