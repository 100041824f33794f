package offsets

import (
	"flotsam/api"
	"flotsam/record"
	"flotsam/varint"
)

const (
	lastTime    = 1 << 40
	lastOffset  = 1 << 40
	longestName = 100 // bytes of a group's name, and of a topic's
)

// forgotten is in the place of an offset, where a key is to go.
const forgotten = -1

// Entry is a commit as a record, Apply works one in.
func Entry(k Key, at int, time int) (api.Record, api.Errno) {
	if !k.mayBe() || !within(time, 0, lastTime) || at != forgotten && !within(at, 0, lastOffset) {
		return api.Record{}, api.ErrArg
	}
	r := api.Record{Time: time}
	r.Key = varint.Text(k.Group) + varint.Text(k.Part.Topic) + varint.Put(k.Part.Index)
	if at == forgotten {
		r.Gone = true
		return r, api.OK
	}
	r.Value = varint.Put(at)
	return r, api.OK
}

func (t *Table) Apply(r api.Record) api.Errno {
	if t == nil {
		return api.ErrArg
	}
	k, at, ok := commitOf(r)
	if !ok {
		return api.ErrForm
	}
	if at == forgotten {
		delete(t.offsets, k)
		return api.OK
	}
	return t.Commit(k, at)
}

// commitOf is what a record commits. It is read without asking for errors: only if Entry makes just this record of what was read has it been one.
func commitOf(r api.Record) (Key, int, bool) {
	var k Key
	place := 0
	k.Group, place, _ = varint.Take(r.Key, place, longestName)
	k.Part.Topic, place, _ = varint.Take(r.Key, place, longestName)
	k.Part.Index, _, _ = varint.Get(r.Key, place)
	at := forgotten
	if !r.Gone {
		at, _, _ = varint.Get(r.Value, 0)
	}
	made, e := Entry(k, at, r.Time)
	if e != api.OK || !same(made, r) {
		return Key{}, 0, false
	}
	return k, at, true
}

// same holds a record that may be against another one, by their bytes: one that may not be has none.
func same(made api.Record, r api.Record) bool {
	want, _ := record.Encode(made)
	got, _ := record.Encode(r)
	return got == want
}
