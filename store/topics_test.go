package store_test

import (
	"fmt"
	"math"
	"slices"
	"strings"
	"testing"

	"flotsam/api"
	"flotsam/disk"
	"flotsam/offsets"
	"flotsam/store"
)

func TestCreate(t *testing.T) {
	s, d := fresh(t)
	if n := changes(d, func() { makes(t, s, "b", 2, 0) }); n != 3 {
		t.Errorf("P21.2: Create: %d changes, want 3", n)
	}
	hasFiles(t, "P21.2", d, "meta")
	hasBytes(t, "P21.2", d, "meta", meta(0, 1, "b", 0, 2))
	makes(t, s, "a", 16, 1)
	hasFiles(t, "P21.2", d, "meta")
	hasBytes(t, "P21.2", d, "meta", meta(0, 2, "a", 1, 16, "b", 0, 2))
	hasTopics(t, "P21.2", s, api.Topic{Name: "a", Parts: 16}, api.Topic{Name: "b", Parts: 2})
	for index := range 16 {
		hasJust(t, "P21.2", s, "a", index, 0, 0)
	}
	hasJust(t, "P21.2", s, "b", 0, 0, 0)
	hasJust(t, "P21.2", s, "b", 1, 0, 0)
	for _, c := range []struct {
		name  string
		index int
	}{{"a", 16}, {"a", -1}, {"b", 2}, {"b", math.MinInt}, {"b", math.MaxInt}, {"c", 0}, {"", 0}, {"B", 0}} {
		hasNone(t, "P21.2", s, c.name, c.index)
	}
	identifies(t, s, 0)
	makes(t, s, strings.Repeat("n", 100), 1, 2)
	hasBytes(t, "P21.2", d, "meta", meta(1, 3, "a", 1, 16, "b", 0, 2, strings.Repeat("n", 100), 2, 1))
}

// TestRefused: with an error of topic nothing is done.
func TestRefused(t *testing.T) {
	s, d := having(t, api.Topic{Name: "a", Parts: 1})
	refused := func(name string, parts int, want api.Errno) {
		t.Helper()
		n := changes(d, func() {
			if id, e := s.Create(name, parts); id != 0 || e != want {
				t.Errorf("P21.2: Create of %q, %d: %d, %d, want %d", name, parts, id, e, want)
			}
		})
		if n != 0 {
			t.Errorf("P21.2: Create of %q, %d: %d changes", name, parts, n)
		}
	}
	refused("", 1, api.ErrArg)
	refused(strings.Repeat("n", 101), 1, api.ErrArg)
	for _, parts := range []int{math.MinInt, -1, 0, 17, math.MaxInt} {
		refused("b", parts, api.ErrArg)
		refused("a", parts, api.ErrArg)
	}
	refused("a", 1, api.ErrThere)
	n := changes(d, func() {
		for _, name := range []string{"b", "", "A"} {
			if id, e := s.Delete(name); id != 0 || e != api.ErrNone {
				t.Errorf("P21.2: Delete of %q: %d, %d, want ErrNone", name, id, e)
			}
		}
	})
	if n != 0 {
		t.Errorf("P21.2: Delete of what is not there: %d changes", n)
	}
	for i := 1; i < 20; i++ {
		makes(t, s, fmt.Sprint("t", i), 1, i)
	}
	refused("b", 1, api.ErrFull)
	refused("a", 1, api.ErrThere)
	// They are told ahead of a disk that is down.
	d.Fuse(0)
	if _, e := s.Create("a", 1); e != api.ErrThere {
		t.Errorf("P21.2: Create of what is there, of a disk that is down: %d, want ErrThere", e)
	}
	if _, e := s.Create("b", 1); e != api.ErrFull {
		t.Errorf("P21.2: Create of a 21st topic, of a disk that is down: %d, want ErrFull", e)
	}
	if _, e := s.Delete("b"); e != api.ErrNone {
		t.Errorf("P21.2: Delete of what is not there, of a disk that is down: %d, want ErrNone", e)
	}
}

// TestLastTopic: when all ids have been given there is none any more.
func TestLastTopic(t *testing.T) {
	d := newDisk(t, 1000)
	d.Append("meta", meta(0, topID-1))
	s := open(t, d)
	makes(t, s, "a", 16, topID-1)
	puts(t, s, "a", 15, true, 0, one(0))
	hasFiles(t, "P21.2", d, "meta", "p1073741823.15-0000000000000")
	if id, e := s.Create("b", 1); id != 0 || e != api.ErrFull {
		t.Errorf("P21.2: Create, when all ids have been given: %d, %d, want ErrFull", id, e)
	}
	hasJust(t, "P21.1", open(t, d), "a", 15, 0, 1, one(0))
	deletes(t, s, "a", topID-1)
	hasFiles(t, "P21.2", d, "meta")
	hasBytes(t, "P21.2", d, "meta", meta(0, topID))
}

// filled has a topic that is deleted, and others whose names, or whose files' names, are nearly the same.
func filled(t *testing.T) (*store.Store, *disk.Disk) {
	t.Helper()
	d := newDisk(t, 100000)
	d.Append("meta", meta(3, 12, "a", 11, 1, "t", 1, 11, "tt", 10, 2))
	d.Sync("meta")
	s := open(t, d)
	for _, p := range []api.Part{{Topic: "t", Index: 0}, {Topic: "t", Index: 1}, {Topic: "t", Index: 10}, {Topic: "tt", Index: 1}, {Topic: "a", Index: 0}} {
		puts(t, s, p.Topic, p.Index, true, 0, one(0), one(1), one(2), one(3), one(4))
		if e := s.Trim(p.Topic, p.Index, 3); e != api.OK {
			t.Fatalf("P21.3: Trim: %d", e)
		}
		commits(t, s, key("g", p.Topic, p.Index), p.Index)
	}
	commits(t, s, key("t", "tt", 0), 9)
	for _, name := range []string{"p1.0.new", "p1.10.swap", "p1.11.new", "p1.0x", "p1.00.start", "p0.1.start", ".start", ".new", ".swap", "-0000000000000"} {
		d.Append(name, "x")
		d.Sync(name)
	}
	return s, d
}

func TestDelete(t *testing.T) {
	s, d := filled(t)
	was := d.Copy()
	names := []string{"p1.0.new", "p1.10.swap"}
	for _, prefix := range []string{"p1.0", "p1.1", "p1.10"} {
		names = append(names, prefix+".start", seg(prefix, 2), seg(prefix, 4))
	}
	left := slices.DeleteFunc(d.Names(), func(name string) bool { return slices.Contains(names, name) })
	if n := changes(d, func() { deletes(t, s, "t", 1) }); n != 3+len(names) {
		t.Errorf("P21.2: Delete: %d changes, want %d", n, 3+len(names))
	}
	hasFiles(t, "P21.2: Delete", d, left...)
	for _, name := range left {
		if bytes, _ := was.Read(name); name != "meta" {
			hasBytes(t, "P21.2: Delete", d, name, bytes)
		}
	}
	hasBytes(t, "P21.2: Delete", d, "meta", meta(3, 12, "a", 11, 1, "tt", 10, 2))
	gone := func(what string, s *store.Store) {
		t.Helper()
		hasTopics(t, what, s, api.Topic{Name: "a", Parts: 1}, api.Topic{Name: "tt", Parts: 2})
		hasNone(t, what, s, "t", 0)
		hasNone(t, what, s, "t", 10)
		hasJust(t, what, s, "tt", 1, 3, 5, lasting(3, one(3), one(4))...)
		hasJust(t, what, s, "a", 0, 3, 5, lasting(3, one(3), one(4))...)
		hasCommits(t, what, s, map[offsets.Key]int{key("g", "a", 0): 0, key("g", "tt", 1): 1, key("t", "tt", 0): 9})
		if id, e := s.Delete("t"); id != 0 || e != api.ErrNone {
			t.Errorf("%s: Delete again: %d, %d, want ErrNone", what, id, e)
		}
	}
	gone("P21.2", s)
	gone("P21.1", open(t, d))
}

// TestCreateAgain: of the topic that had the name ahead nothing is left.
func TestCreateAgain(t *testing.T) {
	s, d := having(t, api.Topic{Name: "t", Parts: 2})
	puts(t, s, "t", 1, true, 0, by(4, 0, one(0)), by(4, 1, one(0)))
	commits(t, s, key("g", "t", 0), 5)
	deletes(t, s, "t", 0)
	makes(t, s, "t", 2, 1)
	for range 2 {
		hasJust(t, "P21.2: created again", s, "t", 1, 0, 0)
		hasCommits(t, "P21.2: created again", s, nil)
		if at, e := s.Append("t", 1, by(4, 2, one(0)), true); at != 0 || e != api.ErrOrder {
			t.Errorf("P21.2: created again: Append: %d, %d, want ErrOrder", at, e)
		}
		s = open(t, d)
	}
	puts(t, s, "t", 1, true, 0, by(4, 0, one(3)))
	commits(t, s, key("g", "t", 0), 6)
	s = open(t, d)
	hasJust(t, "P21.1: created again", s, "t", 1, 0, 1, by(4, 0, one(3)))
	hasCommits(t, "P21.1: created again", s, map[offsets.Key]int{key("g", "t", 0): 6})
	hasFiles(t, "P21.2", d, "meta", seg("c", 0), seg("p1.1", 0))
}

func TestIdentify(t *testing.T) {
	s, d := having(t, api.Topic{Name: "a", Parts: 3})
	for id := range 70 {
		if n := changes(d, func() { identifies(t, s, id) }); n != 3 {
			t.Errorf("P21.2: Identify: %d changes, want 3", n)
		}
		hasBytes(t, "P21.2", d, "meta", meta(id+1, 1, "a", 0, 3))
	}
	hasFiles(t, "P21.2", d, "meta")
	identifies(t, open(t, d), 70)
}

func TestIdentifyLast(t *testing.T) {
	d := newDisk(t, 1000)
	d.Append("meta", meta(topID-1, 0))
	s := open(t, d)
	identifies(t, s, topID-1)
	hasBytes(t, "P21.2", d, "meta", meta(topID, 0))
	d.Fuse(0)
	for range 2 {
		if id, e := s.Identify(); id != 0 || e != api.ErrFull {
			t.Errorf("P21.2: Identify, when all have been given: %d, %d, want ErrFull", id, e)
		}
		d.Fuse(-1)
		s = open(t, d)
	}
}

// TestMetaOnItsWay: what a meta.new had counts for nothing.
func TestMetaOnItsWay(t *testing.T) {
	for i, do := range []func(s *store.Store) (int, api.Errno){
		func(s *store.Store) (int, api.Errno) { return s.Create("u", 2) },
		func(s *store.Store) (int, api.Errno) { return s.Delete("t") },
		func(s *store.Store) (int, api.Errno) { return s.Identify() },
	} {
		s, d := having(t, api.Topic{Name: "t", Parts: 1})
		d.Append("meta.new", "anything")
		n := changes(d, func() {
			if _, e := do(s); e != api.OK {
				t.Errorf("P21.2: call %d: %d", i, e)
			}
		})
		if n != 4 {
			t.Errorf("P21.2: call %d: %d changes, want 4", i, n)
		}
		hasFiles(t, "P21.2", d, "meta")
		hasBytes(t, "P21.2", d, "meta", []string{meta(0, 2, "t", 0, 1, "u", 1, 2), meta(0, 1), meta(1, 1, "t", 0, 1)}[i])
	}
}

// TestCreateEnds has a Create by each change that the disk lets go: the topic is there as soon as the meta file is written.
func TestCreateEnds(t *testing.T) {
	for fuse := range 5 {
		s, d := having(t, api.Topic{Name: "a", Parts: 1})
		d.Fuse(fuse)
		id, e := s.Create("t", 2)
		if want := api.ErrDown; fuse < 4 && (id != 0 || e != want) || fuse == 4 && (id != 1 || e != api.OK) {
			t.Errorf("P21.2: Create with a fuse of %d: %d, %d", fuse, id, e)
		}
		down := d.Copy()
		down.Crash([]int{1000})
		d.Fuse(-1)
		hasEnded(t, fmt.Sprint("P21.2: Create, a fuse of ", fuse), s, fuse >= 3)
		hasEnded(t, fmt.Sprint("P21.6: Create, a fuse of ", fuse), open(t, down), fuse >= 3)
	}
}

// hasEnded asks for all that a Create of t does, or nothing of it.
func hasEnded(t *testing.T, what string, s *store.Store, done bool) {
	t.Helper()
	if !done {
		hasTopics(t, what, s, api.Topic{Name: "a", Parts: 1})
		hasNone(t, what, s, "t", 0)
		// The id was not given.
		makes(t, s, "t", 2, 1)
	}
	hasTopics(t, what, s, api.Topic{Name: "a", Parts: 1}, api.Topic{Name: "t", Parts: 2})
	hasJust(t, what, s, "t", 1, 0, 0)
	puts(t, s, "t", 1, true, 0, one(0))
	hasJust(t, what, s, "t", 1, 0, 1, one(0))
	commits(t, s, key("g", "t", 1), 1)
	makes(t, s, "u", 2, 2)
}

// TestCreatedDown: a topic whose meta file was written by the last change that the disk let go is there, but nothing can be done with it.
func TestCreatedDown(t *testing.T) {
	s, d := fresh(t)
	d.Fuse(3)
	if id, e := s.Create("t", 1); id != 0 || e != api.ErrDown {
		t.Errorf("P21.2: Create: %d, %d, want ErrDown", id, e)
	}
	hasTopics(t, "P21.2", s, api.Topic{Name: "t", Parts: 1})
	if from, to := s.Bounds("t", 0); !s.There("t", 0) || from != 0 || to != 0 {
		t.Errorf("P21.2: %t, %d, %d", s.There("t", 0), from, to)
	}
	_, appended := s.Append("t", 0, one(0), false)
	_, read := s.Read("t", 0, 0, 10)
	for i, e := range []api.Errno{appended, read, s.Trim("t", 0, 0), s.Commit(key("g", "t", 0), 0, 0), s.Tidy("t", 0, 0, 0)} {
		if e != api.ErrDown {
			t.Errorf("P21.2: call %d: %d, want ErrDown", i, e)
		}
	}
}

// TestDeleteEnds has a Delete by each change that the disk lets go: the topic is gone as soon as the meta file is written.
func TestDeleteEnds(t *testing.T) {
	for fuse := range 15 {
		s, d := filled(t)
		d.Fuse(fuse)
		id, e := s.Delete("t")
		if want := api.ErrDown; fuse < 14 && (id != 0 || e != want) || fuse == 14 && (id != 1 || e != api.OK) {
			t.Errorf("P21.2: Delete with a fuse of %d: %d, %d", fuse, id, e)
		}
		down := d.Copy()
		down.Crash(nil)
		d.Fuse(-1)
		again := open(t, down)
		if s.There("t", 0) != (fuse < 3) || again.There("t", 0) != (fuse < 3) {
			t.Errorf("P21.2: Delete with a fuse of %d: There: %t, behind a crash %t", fuse, s.There("t", 0), again.There("t", 0))
		}
		if fuse < 3 {
			hasJust(t, "P21.2: Delete that is ended", s, "t", 10, 3, 5, lasting(3, one(3), one(4))...)
			hasJust(t, "P21.6: Delete that is ended", again, "t", 10, 3, 5, lasting(3, one(3), one(4))...)
			if at, ok := again.Commits().Get(key("g", "t", 10)); at != 10 || !ok {
				t.Errorf("P21.6: Delete that is ended: commit %d, %t", at, ok)
			}
			continue
		}
		for _, name := range down.Names() {
			if strings.HasPrefix(name, "p1.") {
				t.Errorf("P21.1: Delete with a fuse of %d: %s is there behind Open", fuse, name)
			}
		}
		// At the first error it ends: the commits are forgotten behind all files. But in a new one of that name none of it is seen.
		if at, ok := s.Commits().Get(key("g", "t", 10)); ok != (fuse < 14) || ok && at != 10 {
			t.Errorf("P21.2: Delete with a fuse of %d: commit %d, %t", fuse, at, ok)
		}
		for i, s := range []*store.Store{s, again} {
			makes(t, s, "t", 11, 12)
			hasJust(t, fmt.Sprint("P21.2: created again ", i), s, "t", 0, 0, 0)
			hasCommits(t, fmt.Sprint("P21.2: created again ", i), s, map[offsets.Key]int{key("g", "a", 0): 0, key("g", "tt", 1): 1, key("t", "tt", 0): 9})
		}
	}
}

// TestCreatedAgainDown: also where the Create is ended, none of the topic that had the name is seen.
func TestCreatedAgainDown(t *testing.T) {
	s, d := filled(t)
	d.Fuse(4)
	if _, e := s.Delete("t"); e != api.ErrDown {
		t.Errorf("P21.2: Delete: %d, want ErrDown", e)
	}
	d.Fuse(3)
	if _, e := s.Create("t", 11); e != api.ErrDown {
		t.Errorf("P21.2: Create: %d, want ErrDown", e)
	}
	d.Fuse(-1)
	hasJust(t, "P21.2: created again", s, "t", 10, 0, 0)
	hasCommits(t, "P21.2: created again", s, map[offsets.Key]int{key("g", "a", 0): 0, key("g", "tt", 1): 1, key("t", "tt", 0): 9})
}

func TestIdentifyEnds(t *testing.T) {
	for fuse := range 4 {
		s, d := fresh(t)
		identifies(t, s, 0)
		d.Fuse(fuse)
		id, e := s.Identify()
		if fuse < 3 && (id != 0 || e != api.ErrDown) || fuse == 3 && (id != 1 || e != api.OK) {
			t.Errorf("P21.2: Identify with a fuse of %d: %d, %d", fuse, id, e)
		}
		d.Fuse(-1)
		want := 1 + fuse/3
		c := d.Copy()
		c.Crash([]int{1000})
		identifies(t, open(t, c), want)
		identifies(t, s, want)
		hasBytes(t, "P21.2", d, "meta", meta(want+1, 0))
	}
}

// TestNoRoom: where the meta file has no room nothing has changed.
func TestNoRoom(t *testing.T) {
	s, d := having(t, api.Topic{Name: "t", Parts: 1})
	identifies(t, s, 0)
	d.Append("fills", strings.Repeat("x", d.Room()-d.Used()-4))
	was := meta(1, 1, "t", 0, 1)
	for i, do := range []func() (int, api.Errno){
		func() (int, api.Errno) { return s.Create("u", 2) },
		func() (int, api.Errno) { return s.Identify() },
		// What it is to have has 3 bytes alone.
		func() (int, api.Errno) {
			d.Append("fills", "xx")
			return s.Delete("t")
		},
	} {
		if id, e := do(); id != 0 || e != api.ErrFull {
			t.Errorf("P21.2: call %d without room: %d, %d, want ErrFull", i, id, e)
		}
		hasBytes(t, "P21.2: without room", d, "meta", was)
		hasFiles(t, "P21.2: without room", d, "meta", "fills")
		hasTopics(t, "P21.2: without room", s, api.Topic{Name: "t", Parts: 1})
	}
	d.Drop("fills")
	identifies(t, s, 1)
	makes(t, s, "u", 2, 1)
	deletes(t, s, "t", 0)
}

// TestTopicsAreCopies: what is done to a list that Topics answers does nothing to the store.
func TestTopicsAreCopies(t *testing.T) {
	s, _ := having(t, api.Topic{Name: "a", Parts: 1}, api.Topic{Name: "b", Parts: 2})
	l := s.Topics()
	l[0] = api.Topic{Name: "x", Parts: 9}
	hasTopics(t, "R5", s, api.Topic{Name: "a", Parts: 1}, api.Topic{Name: "b", Parts: 2})
}
