package store_test

import (
	"fmt"
	"math"
	"strings"
	"testing"

	"flotsam/api"
	"flotsam/batch"
	"flotsam/offsets"
	"flotsam/plog"
	"flotsam/store"
	"flotsam/varint"
)

// entry is a commit's record, with a topic's id in the place of its name.
func entry(t *testing.T, group string, id string, index int, at int, time int) api.Record {
	t.Helper()
	r, e := offsets.Entry(key(group, id, index), at, time)
	if e != api.OK {
		t.Fatalf("offsets.Entry: %d", e)
	}
	return r
}

func TestCommit(t *testing.T) {
	s, d := having(t, api.Topic{Name: "x", Parts: 16}, api.Topic{Name: "t", Parts: 16})
	const top = 1 << 40
	long := strings.Repeat("g", 100)
	var l []api.Batch
	for i, c := range []struct {
		k   offsets.Key
		id  string
		at  int
		now int
	}{{key("g", "t", 15), "1", 7, 5}, {key("g", "x", 0), "0", top, 0}, {key("g", "t", 15), "1", 0, top}, {key(long, "t", 2), "1", 3, 4}, {key("g", "t", 15), "1", 9, 3}} {
		n := changes(d, func() {
			if e := s.Commit(c.k, c.at, c.now); e != api.OK {
				t.Errorf("P21.4: Commit %d: %d", i, e)
			}
		})
		// A new segment needs the last one synced.
		if n != 2 && (n != 3 || i == 0) {
			t.Errorf("P21.4: Commit %d: %d changes", i, n)
		}
		b := small(1)
		b.Records = []api.Record{entry(t, c.k.Group, c.id, c.k.Part.Index, c.at, c.now)}
		l = append(l, placed(i, b))
	}
	bytes := ""
	for _, name := range d.Names() {
		if strings.HasPrefix(name, "c-") {
			s, _ := d.Read(name)
			bytes += s
		}
	}
	if got, n := batch.Scan(bytes); !same(got, l) || n != len(bytes) {
		t.Errorf("P21.4: the log has %+v, want %+v", got, l)
	}
	want := map[offsets.Key]int{key("g", "t", 15): 9, key("g", "x", 0): top, key(long, "t", 2): 3}
	hasCommits(t, "P21.4", s, want)
	d.Crash(nil)
	hasCommits(t, "P21.6", open(t, d), want)
}

func TestCommitRefuses(t *testing.T) {
	s, d := having(t, api.Topic{Name: "t", Parts: 2})
	commits(t, s, key("g", "t", 0), 5)
	const top = 1 << 40
	d.Fuse(0)
	for i, c := range []struct {
		k    offsets.Key
		at   int
		now  int
		want api.Errno
	}{
		{key("g", "u", 0), 1, 1, api.ErrNone}, {key("g", "", 0), 1, 1, api.ErrNone}, {key("g", "0", 0), 1, 1, api.ErrNone},
		{key("g", "t", 2), 1, 1, api.ErrNone}, {key("g", "t", -1), 1, 1, api.ErrNone}, {key("g", "t", math.MaxInt), 1, 1, api.ErrNone},
		{key("", "t", 2), -1, -1, api.ErrNone}, {key("", "u", 0), top + 1, 1, api.ErrNone},
		{key("", "t", 0), 1, 1, api.ErrArg}, {key(strings.Repeat("g", 101), "t", 0), 1, 1, api.ErrArg},
		{key("g", "t", 0), -1, 1, api.ErrArg}, {key("g", "t", 0), -2, 1, api.ErrArg}, {key("g", "t", 0), top + 1, 1, api.ErrArg},
		{key("g", "t", 0), math.MinInt, 1, api.ErrArg}, {key("g", "t", 0), math.MaxInt, 1, api.ErrArg},
		{key("g", "t", 0), 1, -1, api.ErrArg}, {key("g", "t", 0), 1, top + 1, api.ErrArg}, {key("g", "t", 0), 1, math.MinInt, api.ErrArg},
		{key("g", "t", 0), 1, 1, api.ErrDown},
	} {
		if e := s.Commit(c.k, c.at, c.now); e != c.want {
			t.Errorf("P21.4: case %d: Commit: %d, want %d", i, e, c.want)
		}
	}
	hasCommits(t, "P21.4", s, map[offsets.Key]int{key("g", "t", 0): 5})
}

// TestThousand: of a 1001st key there is none, but of those that are there it goes on.
func TestThousand(t *testing.T) {
	s, d := having(t, api.Topic{Name: "t", Parts: 16}, api.Topic{Name: "u", Parts: 1})
	all := map[offsets.Key]int{}
	for i := range 1000 {
		k := key(fmt.Sprint("g", i/16), "t", i%16)
		if i == 500 {
			k = key("g", "u", 0)
		}
		all[k] = i
		commits(t, s, k, i)
	}
	full := func(what string, s *store.Store) {
		t.Helper()
		n := changes(d, func() {
			for _, k := range []offsets.Key{key("h", "t", 0), key("g31", "t", 4), key("g", "t", 1)} {
				if e := s.Commit(k, 1, 1); e != api.ErrFull {
					t.Errorf("%s: Commit of a 1001st key: %d, want ErrFull", what, e)
				}
			}
			if e := s.Commit(key("h", "t", 0), -1, 1); e != api.ErrArg {
				t.Errorf("%s: Commit of a 1001st key, at no offset: %d, want ErrArg", what, e)
			}
		})
		if n != 0 {
			t.Errorf("%s: Commit of a 1001st key: %d changes", what, n)
		}
		commits(t, s, key("g3", "t", 3), 77)
		all[key("g3", "t", 3)] = 77
		hasCommits(t, what, s, all)
	}
	full("P21.4", s)
	s = open(t, d)
	full("P21.1", s)
	deletes(t, s, "u", 1)
	delete(all, key("g", "u", 0))
	hasCommits(t, "P21.2: forgotten", s, all)
	commits(t, s, key("h", "t", 0), 1)
	all[key("h", "t", 0)] = 1
	if e := s.Commit(key("i", "t", 0), 1, 1); e != api.ErrFull {
		t.Errorf("P21.2: forgotten, and one more: Commit of a 1001st key: %d, want ErrFull", e)
	}
}

// TestNotCommitted: what the disk does not take does not count; behind a crash it may.
func TestNotCommitted(t *testing.T) {
	for fuse := range 2 {
		for _, k := range []offsets.Key{key("g", "t", 0), key("h", "t", 0)} {
			s, d := having(t, api.Topic{Name: "t", Parts: 1})
			commits(t, s, key("g", "t", 0), 5)
			d.Fuse(fuse)
			if e := s.Commit(k, 6, 1); e != api.ErrDown {
				t.Errorf("P21.4: Commit with a fuse of %d: %d, want ErrDown", fuse, e)
			}
			want := map[offsets.Key]int{key("g", "t", 0): 5}
			hasCommits(t, "P21.4: not synced", s, want)
			c := d.Copy()
			c.Crash(nil)
			hasCommits(t, "P21.6: not synced", open(t, c), want)
			d.Crash([]int{1000})
			if fuse == 1 {
				want[k] = 6
			}
			hasCommits(t, "P21.6: not synced, but kept", open(t, d), want)
		}
	}
	s, d := having(t, api.Topic{Name: "t", Parts: 1})
	commits(t, s, key("g", "t", 0), 5)
	d.Append("fills", strings.Repeat("x", d.Room()-d.Used()-25))
	if e := s.Commit(key("g", "t", 0), 6, 1); e != api.ErrFull {
		t.Errorf("P21.4: Commit without room: %d, want ErrFull", e)
	}
	hasCommits(t, "P21.4: no room", s, map[offsets.Key]int{key("g", "t", 0): 5})
	d.Crash(nil)
	hasCommits(t, "P21.6: no room", open(t, d), map[offsets.Key]int{key("g", "t", 0): 5})
}

// TestCommitsIsItsOwn: what is done to a table that Commits answers does nothing to the store.
func TestCommitsIsItsOwn(t *testing.T) {
	s, _ := having(t, api.Topic{Name: "t", Parts: 2})
	commits(t, s, key("g", "t", 0), 5)
	one, two := s.Commits(), s.Commits()
	one.Commit(key("g", "t", 0), 6)
	one.Commit(key("h", "t", 0), 6)
	two.Forget("g")
	hasCommits(t, "P21.4", s, map[offsets.Key]int{key("g", "t", 0): 5})
	three := s.Commits()
	commits(t, s, key("g", "t", 0), 8)
	if at, ok := three.Get(key("g", "t", 0)); at != 5 || !ok {
		t.Errorf("P21.4: a table of its own: %d, %t, want 5", at, ok)
	}
	for i := range 999 {
		if e := three.Commit(key(fmt.Sprint("h", i), "t", 0), 1); e != api.OK {
			t.Fatalf("P21.4: a table of its own: no room for %d", i+2)
		}
	}
}

// ofLog is a store with the topics a and b, with the ids 12 and 2, and these records in its commit log, so many in a batch.
func ofLog(t *testing.T, wide int, l ...api.Record) *store.Store {
	t.Helper()
	d := newDisk(t, api.MaxDisk)
	d.Append("meta", meta(0, 20, "a", 12, 3, "b", 2, 1))
	log, e := plog.Open(d, plog.Config{Prefix: "c", Limit: 1000, Every: 200})
	for len(l) > 0 && e == api.OK {
		b := small(50)
		n := min(wide, len(l))
		for at, r := range l[:n] {
			r.At = at
			b.Records = append(b.Records, r)
		}
		l = l[n:]
		_, e = log.Append(b, false)
	}
	if e != api.OK {
		t.Fatalf("plog: %d", e)
	}
	return open(t, d)
}

func TestReadsCommits(t *testing.T) {
	with := func(r api.Record, change func(r *api.Record)) api.Record {
		change(&r)
		return r
	}
	right := entry(t, "g", "12", 1, 5, 9)
	l := []api.Record{
		entry(t, "g", "12", 0, 3, 1), entry(t, "g", "2", 0, 4, 1), entry(t, "g", "12", 0, 7, 0), entry(t, "h", "2", 0, 8, 1),
		entry(t, "g", "12", 2, 1, 1), entry(t, "g", "12", 2, -1, 1), entry(t, "h", "12", 2, -1, 1), entry(t, "h", "12", 2, 2, 1),
		// Of topics that are not there.
		entry(t, "g", "a", 0, 1, 1), entry(t, "g", "0", 0, 1, 1), entry(t, "g", "1", 0, 1, 1), entry(t, "g", "13", 0, 1, 1), entry(t, "g", "012", 0, 1, 1),
		entry(t, "g", "+2", 0, 1, 1), entry(t, "g", "2 ", 0, 1, 1), entry(t, "h", "02", 0, -1, 1), entry(t, "g", "122", 0, 1, 1), entry(t, "g", "1", 2, 1, 1),
		// No commits' records.
		with(right, func(r *api.Record) { r.Headers = []api.Header{{Key: "h"}} }), with(right, func(r *api.Record) { r.Key = "" }),
		with(right, func(r *api.Record) { r.Bare, r.Key = true, "" }), with(right, func(r *api.Record) { r.Value = "" }),
		with(right, func(r *api.Record) { r.Value += "\x00" }), with(right, func(r *api.Record) { r.Value = varint.Put(-1) }),
		with(right, func(r *api.Record) { r.Value = varint.Put(1<<40 + 1) }), with(right, func(r *api.Record) { r.Key += "\x00" }),
		with(right, func(r *api.Record) { r.Key = r.Key[:len(r.Key)-1] }), with(right, func(r *api.Record) { r.Key = r.Key[:3] }),
		with(right, func(r *api.Record) { r.Key = r.Key[:2] }), with(right, func(r *api.Record) { r.Key = "\x80\x00" + r.Key }),
		with(right, func(r *api.Record) { r.Key = "\x00" + r.Key[2:] }), with(right, func(r *api.Record) { r.Key = "\x02g\x80" }),
		with(right, func(r *api.Record) { r.Key = varint.Text(strings.Repeat("g", 101)) + r.Key[2:] }),
		with(right, func(r *api.Record) { r.Key = varint.Text("g") + varint.Text("12") + varint.Put(16) }),
		with(right, func(r *api.Record) { r.Key = varint.Text("g") + varint.Text("12") + varint.Put(-1) }),
		with(right, func(r *api.Record) { r.Key = varint.Text("g") + varint.Text("12") + "\x82\x00" }),
	}
	// Each record in a batch of its own: in a wider one its At is not 0, but for the first.
	want := map[offsets.Key]int{key("g", "a", 0): 7, key("g", "b", 0): 4, key("h", "b", 0): 8, key("h", "a", 2): 2}
	hasCommits(t, "P21.1", ofLog(t, 1, l...), want)
	hasCommits(t, "P21.1", ofLog(t, 1, append(l, right, entry(t, "h", "2", 0, -1, 9))...), map[offsets.Key]int{key("g", "a", 0): 7, key("g", "b", 0): 4, key("h", "a", 2): 2, key("g", "a", 1): 5})
	// With an At it is none of offsets' records.
	hasCommits(t, "P21.1", ofLog(t, 2, entry(t, "g", "2", 0, 1, 0), entry(t, "g", "2", 0, 2, 0), entry(t, "h", "2", 0, 3, 0)), map[offsets.Key]int{key("g", "b", 0): 1, key("h", "b", 0): 3})
}

// TestReadsManyCommits: the keys of topics that have gone need no room.
func TestReadsManyCommits(t *testing.T) {
	var l []api.Record
	for i := range 12000 {
		l = append(l, entry(t, fmt.Sprint("g", i), "1", 0, 1, 1))
	}
	for i := range 1000 {
		l = append(l, entry(t, fmt.Sprint("g", i/3), "12", i%3, i, 1))
	}
	s := ofLog(t, 1, l...)
	if n := len(s.Commits().Keys()); n != 1000 {
		t.Errorf("P21.1: %d commits, want 1000", n)
	}
	if e := s.Commit(key("g", "b", 0), 1, 1); e != api.ErrFull {
		t.Errorf("P21.4: a 1001st one: %d, want ErrFull", e)
	}
	// More than there is room for may be there, if their commits were not answered.
	l = append(l, entry(t, "g", "2", 0, 9, 1), entry(t, "h", "2", 0, 9, 1))
	s = ofLog(t, 1, l...)
	if n := len(s.Commits().Keys()); n != 1002 {
		t.Errorf("P21.1: %d commits, want 1002", n)
	}
	if at, ok := s.Commits().Get(key("h", "b", 0)); at != 9 || !ok {
		t.Errorf("P21.1: the last one: %d, %t", at, ok)
	}
	if e := s.Commit(key("i", "b", 0), 1, 1); e != api.ErrFull {
		t.Errorf("P21.4: a 1003rd one: %d, want ErrFull", e)
	}
	commits(t, s, key("h", "b", 0), 10)
}
