package store_test

import (
	"fmt"
	"math"
	"reflect"
	"slices"
	"strings"
	"testing"

	"flotsam/api"
	"flotsam/batch"
	"flotsam/disk"
	"flotsam/offsets"
	"flotsam/plog"
	"flotsam/store"
	"flotsam/varint"
)

// usual is the limit of most tests: a segment is full with two batches of 30 bytes.
const usual = 50

// topID is the greatest of a topic, and of a producer's next one.
const topID = 1 << 30

func newDisk(t *testing.T, room int) *disk.Disk {
	t.Helper()
	d, e := disk.New(room)
	if d == nil || e != api.OK {
		t.Fatalf("disk.New(%d): %d", room, e)
	}
	return d
}

func open(t *testing.T, d *disk.Disk) *store.Store {
	t.Helper()
	s, e := store.Open(d, usual)
	if s == nil || e != api.OK {
		t.Fatalf("P21.1: Open: %v, %d", s, e)
	}
	return s
}

// fresh is a store on an empty disk.
func fresh(t *testing.T) (*store.Store, *disk.Disk) {
	t.Helper()
	d := newDisk(t, 1000000)
	return open(t, d), d
}

// having is one with these topics, in that order, so that the first one's id is 0.
func having(t *testing.T, l ...api.Topic) (*store.Store, *disk.Disk) {
	t.Helper()
	s, d := fresh(t)
	for i, topic := range l {
		makes(t, s, topic.Name, topic.Parts, i)
	}
	return s, d
}

func makes(t *testing.T, s *store.Store, name string, parts int, want int) {
	t.Helper()
	if id, e := s.Create(name, parts); id != want || e != api.OK {
		t.Fatalf("P21.2: Create of %q, %d: %d, %d, want %d", name, parts, id, e, want)
	}
}

func deletes(t *testing.T, s *store.Store, name string, want int) {
	t.Helper()
	if id, e := s.Delete(name); id != want || e != api.OK {
		t.Fatalf("P21.2: Delete of %q: %d, %d, want %d", name, id, e, want)
	}
}

func identifies(t *testing.T, s *store.Store, want int) {
	t.Helper()
	if id, e := s.Identify(); id != want || e != api.OK {
		t.Fatalf("P21.2: Identify: %d, %d, want %d", id, e, want)
	}
}

// puts appends batches to a partition, that must be taken one behind the other from a base on.
func puts(t *testing.T, s *store.Store, name string, index int, sync bool, base int, l ...api.Batch) {
	t.Helper()
	for _, b := range l {
		if at, e := s.Append(name, index, b, sync); at != base || e != api.OK {
			t.Fatalf("P21.3: Append of %s: %d, %d, want %d", short(b), at, e, base)
		}
		base += b.Span
	}
}

func commits(t *testing.T, s *store.Store, k offsets.Key, at int) {
	t.Helper()
	if e := s.Commit(k, at, 7); e != api.OK {
		t.Fatalf("P21.4: Commit of %+v, %d: %d", k, at, e)
	}
}

func key(group string, topic string, index int) offsets.Key {
	return offsets.Key{Group: group, Part: api.Part{Topic: topic, Index: index}}
}

// small is a batch of 14 bytes, one of 30, as long as the Base and the time are below 64.
func small(span int) api.Batch {
	return api.Batch{Span: span, Producer: -1, Epoch: -1, Seq: -1}
}

func one(time int) api.Batch {
	b := small(1)
	b.Records = []api.Record{{Time: time, Bare: true, Value: "ten bytes."}}
	return b
}

// keyed is a batch of a record of each key, that has the bytes of a segment.
func keyed(keys ...string) api.Batch {
	b := small(len(keys))
	for i, k := range keys {
		b.Records = append(b.Records, api.Record{At: i, Key: k, Value: "a value of so many bytes that a segment is full of it"})
	}
	return b
}

// by is a batch as it is, but of a producer.
func by(producer int, seq int, b api.Batch) api.Batch {
	b.Producer, b.Epoch, b.Seq = producer, 0, seq
	return b
}

// placed is a batch as it is, but with a Base.
func placed(base int, b api.Batch) api.Batch {
	b.Base = base
	return b
}

// lasting are batches with the Bases that they get, one behind the other from a base on.
func lasting(base int, l ...api.Batch) []api.Batch {
	var all []api.Batch
	for _, b := range l {
		all = append(all, placed(base, b))
		base += b.Span
	}
	return all
}

// coded is the bytes of some batches, one behind the other.
func coded(t *testing.T, l ...api.Batch) string {
	t.Helper()
	var s strings.Builder
	for _, b := range l {
		code, e := batch.Encode(b)
		if e != api.OK {
			t.Fatalf("batch.Encode of %s: %d", short(b), e)
		}
		s.WriteString(code)
	}
	return s.String()
}

// same tells whether batches are, with lists that are nil or empty as the same.
func same(a, b []api.Batch) bool {
	return slices.EqualFunc(a, b, func(a, b api.Batch) bool { return reflect.DeepEqual(evened(a), evened(b)) })
}

func evened(b api.Batch) api.Batch {
	l := []api.Record{}
	for _, r := range b.Records {
		r.Headers = append([]api.Header{}, r.Headers...)
		l = append(l, r)
	}
	b.Records = l
	return b
}

// short is something, cut off where it is long.
func short(v any) string {
	s := fmt.Sprintf("%+v", v)
	return s[:min(len(s), 1000)]
}

// hasJust asks a partition for its start, its end, and all batches from its start on.
func hasJust(t *testing.T, what string, s *store.Store, name string, index int, start int, end int, want ...api.Batch) {
	t.Helper()
	if !s.There(name, index) {
		t.Errorf("%s: %q, %d is not there", what, name, index)
	}
	if from, to := s.Bounds(name, index); from != start || to != end {
		t.Errorf("%s: Bounds of %q, %d: %d, %d, want %d, %d", what, name, index, from, to, start, end)
	}
	if got, e := s.Read(name, index, start, math.MaxInt); !same(got, want) || e != api.OK {
		t.Errorf("%s: Read of %q, %d: %s, %d, want %s", what, name, index, short(got), e, short(want))
	}
}

// hasNone asks whether nothing tells of a partition.
func hasNone(t *testing.T, what string, s *store.Store, name string, index int) {
	t.Helper()
	if s.There(name, index) {
		t.Errorf("%s: %q, %d is there", what, name, index)
	}
	if from, to := s.Bounds(name, index); from != 0 || to != 0 {
		t.Errorf("%s: Bounds of %q, %d: %d, %d, want 0, 0", what, name, index, from, to)
	}
	if at, e := s.Append(name, index, one(0), true); at != 0 || e != api.ErrNone {
		t.Errorf("%s: Append to %q, %d: %d, %d, want ErrNone", what, name, index, at, e)
	}
	if at, e := s.Append(name, index, small(0), true); at != 0 || e != api.ErrNone {
		t.Errorf("%s: Append of a wrong batch to %q, %d: %d, %d, want ErrNone", what, name, index, at, e)
	}
	for _, from := range []int{-1, 0} {
		if l, e := s.Read(name, index, from, 100); len(l) != 0 || e != api.ErrNone {
			t.Errorf("%s: Read of %q, %d: %v, %d, want ErrNone", what, name, index, l, e)
		}
		if e := s.Trim(name, index, from); e != api.ErrNone {
			t.Errorf("%s: Trim of %q, %d: %d, want ErrNone", what, name, index, e)
		}
		if e := s.Tidy(name, index, from, 0); e != api.ErrNone {
			t.Errorf("%s: Tidy of %q, %d: %d, want ErrNone", what, name, index, e)
		}
		if e := s.Commit(key("g", name, index), from, 0); e != api.ErrNone {
			t.Errorf("%s: Commit of %q, %d: %d, want ErrNone", what, name, index, e)
		}
	}
}

func hasTopics(t *testing.T, what string, s *store.Store, want ...api.Topic) {
	t.Helper()
	if l := s.Topics(); !slices.Equal(l, want) {
		t.Errorf("%s: Topics: %v, want %v", what, l, want)
	}
}

// hasCommits asks for all commits, and no more.
func hasCommits(t *testing.T, what string, s *store.Store, want map[offsets.Key]int) {
	t.Helper()
	got := map[offsets.Key]int{}
	table := s.Commits()
	for _, k := range table.Keys() {
		got[k], _ = table.Get(k)
	}
	if !reflect.DeepEqual(got, want) && len(got)+len(want) > 0 {
		t.Errorf("%s: Commits: %v, want %v", what, got, want)
	}
}

// hasFiles asks for the names of all files.
func hasFiles(t *testing.T, what string, d *disk.Disk, want ...string) {
	t.Helper()
	slices.Sort(want)
	if l := d.Names(); !slices.Equal(l, want) {
		t.Errorf("%s: files %q, want %q", what, l, want)
	}
}

func hasBytes(t *testing.T, what string, d *disk.Disk, name string, want string) {
	t.Helper()
	if s, e := d.Read(name); s != want || e != api.OK {
		t.Errorf("%s: %s: %x, %d, want %x", what, name, s, e, want)
	}
}

// changes counts by a fuse how many changes of the disk something makes.
func changes(d *disk.Disk, do func()) int {
	const many = 100000
	d.Fuse(many)
	do()
	n := 0
	for d.Up() {
		d.Append("counts", "")
		n++
	}
	d.Fuse(-1)
	d.Drop("counts")
	return many - n
}

func seg(prefix string, base int) string { return fmt.Sprintf("%s-%013d", prefix, base) }

// meta is what the meta file is to have: the next producer's id, the next topic's, and of each topic its name, its id, its parts.
func meta(producer int, next int, l ...any) string {
	s := varint.Put(producer) + varint.Put(next) + varint.Put(len(l)/3)
	for i := 0; i < len(l); i += 3 {
		s += varint.Text(l[i].(string)) + varint.Put(l[i+1].(int)) + varint.Put(l[i+2].(int))
	}
	return s
}

// eight is a place as the file of a start has it.
func eight(n int) string {
	s, _ := varint.Fixed(n, 8)
	return s
}

func TestNil(t *testing.T) {
	var s *store.Store
	if n, e := s.Create("t", 1); n != 0 || e != api.ErrArg {
		t.Errorf("P21.1: nil: Create: %d, %d", n, e)
	}
	if n, e := s.Delete("t"); n != 0 || e != api.ErrArg {
		t.Errorf("P21.1: nil: Delete: %d, %d", n, e)
	}
	if n, e := s.Identify(); n != 0 || e != api.ErrArg {
		t.Errorf("P21.1: nil: Identify: %d, %d", n, e)
	}
	if n, e := s.Append("t", 0, one(0), true); n != 0 || e != api.ErrArg {
		t.Errorf("P21.1: nil: Append: %d, %d", n, e)
	}
	if l, e := s.Read("t", 0, 0, 10); len(l) != 0 || e != api.ErrArg {
		t.Errorf("P21.1: nil: Read: %v, %d", l, e)
	}
	for i, e := range []api.Errno{s.Trim("t", 0, 0), s.Commit(key("g", "t", 0), 1, 1), s.Tidy("t", 0, 0, 0)} {
		if e != api.ErrArg {
			t.Errorf("P21.1: nil: call %d: %d, want ErrArg", i, e)
		}
	}
	if from, to := s.Bounds("t", 0); from != 0 || to != 0 {
		t.Errorf("P21.1: nil: Bounds: %d, %d", from, to)
	}
	if s.There("t", 0) || len(s.Topics()) != 0 || s.Commits() != nil {
		t.Errorf("P21.1: nil: %t, %v, %v", s.There("t", 0), s.Topics(), s.Commits())
	}
}

// TestNotMadeByOpen has a store of which nothing is promised but that no call panics (R1).
func TestNotMadeByOpen(t *testing.T) {
	s := new(store.Store)
	s.Create("t", 1)
	s.Identify()
	s.Append("t", 0, one(0), true)
	s.Read("t", 0, 0, 10)
	s.Trim("t", 0, 0)
	s.Bounds("t", 0)
	s.Commit(key("g", "t", 0), 1, 1)
	s.Tidy("t", 0, 0, 0)
	s.Delete("t")
	s.There("t", 0)
	s.Topics()
	s.Commits()
}

func TestExample(t *testing.T) {
	s, d := having(t, api.Topic{Name: "t", Parts: 1})
	puts(t, s, "t", 0, true, 0, one(5))
	d.Crash(nil)
	hasJust(t, "example 1", open(t, d), "t", 0, 0, 1, one(5))
}

func TestOpenArguments(t *testing.T) {
	d := newDisk(t, 1000)
	for limit, want := range map[int]api.Errno{math.MinInt: api.ErrArg, -1: api.ErrArg, 0: api.ErrArg, 49: api.ErrArg, 50: api.OK, 51: api.OK, 1000000: api.OK, 1000001: api.ErrArg, math.MaxInt: api.ErrArg} {
		s, e := store.Open(d, limit)
		if e != want || (s == nil) != (want != api.OK) {
			t.Errorf("P21.1: Open with a limit of %d: %v, %d, want %d", limit, s, e, want)
		}
		if s, e := store.Open(nil, limit); s != nil || e != api.ErrArg {
			t.Errorf("P21.1: Open of nil: %v, %d, want nil, ErrArg", s, e)
		}
	}
	d.Fuse(0)
	for limit, want := range map[int]api.Errno{49: api.ErrArg, 50: api.ErrDown, 1000001: api.ErrArg} {
		if s, e := store.Open(d, limit); s != nil || e != want {
			t.Errorf("P21.1: Open with a limit of %d of a disk that is down: %v, %d, want nil, %d", limit, s, e, want)
		}
	}
}

// TestLimit asks how full segments get, of a partition and of the commits.
func TestLimit(t *testing.T) {
	d := newDisk(t, 1000000)
	s, e := store.Open(d, 90)
	if e != api.OK {
		t.Fatalf("P21.1: Open: %d", e)
	}
	makes(t, s, "t", 1, 0)
	puts(t, s, "t", 0, false, 0, one(0), one(0), one(0), one(0))
	for at := range 10 {
		commits(t, s, key("g", "t", 0), at)
	}
	// A commit has 26 bytes.
	hasFiles(t, "P21.1", d, "meta", seg("p0.0", 0), seg("p0.0", 3), seg("c", 0), seg("c", 4), seg("c", 8))
}

func TestOpenEmpty(t *testing.T) {
	d := newDisk(t, 1000)
	var s *store.Store
	if n := changes(d, func() { s = open(t, d) }); n != 0 {
		t.Errorf("P21.1: Open of an empty disk: %d changes", n)
	}
	hasFiles(t, "P21.1", d)
	hasTopics(t, "P21.1", s)
	hasCommits(t, "P21.1", s, nil)
	hasNone(t, "P21.1", s, "t", 0)
	hasNone(t, "P21.1", s, "", 0)
	identifies(t, s, 0)
}

// TestOpenAgain takes all up that a store had, without a crash.
func TestOpenAgain(t *testing.T) {
	s, d := having(t, api.Topic{Name: "b", Parts: 2}, api.Topic{Name: "x", Parts: 1}, api.Topic{Name: "a", Parts: 1})
	identifies(t, s, 0)
	deletes(t, s, "x", 1)
	identifies(t, s, 1)
	puts(t, s, "b", 1, false, 0, one(0), one(1), one(2))
	puts(t, s, "a", 0, false, 0, one(3))
	if e := s.Trim("b", 1, 1); e != api.OK {
		t.Fatalf("P21.3: Trim: %d", e)
	}
	commits(t, s, key("g", "a", 0), 5)
	commits(t, s, key("g", "b", 1), 6)
	commits(t, s, key("g", "a", 0), 4)
	was := d.Copy()
	for range 2 {
		if n := changes(d, func() { s = open(t, d) }); n != 0 {
			t.Errorf("P21.1: Open of what is whole: %d changes", n)
		}
		hasTopics(t, "P21.1", s, api.Topic{Name: "a", Parts: 1}, api.Topic{Name: "b", Parts: 2})
		hasJust(t, "P21.1", s, "a", 0, 0, 1, one(3))
		hasJust(t, "P21.1", s, "b", 0, 0, 0)
		hasJust(t, "P21.1", s, "b", 1, 1, 3, lasting(1, one(1), one(2))...)
		hasCommits(t, "P21.1", s, map[offsets.Key]int{key("g", "a", 0): 4, key("g", "b", 1): 6})
	}
	for _, name := range was.Names() {
		bytes, _ := was.Read(name)
		hasBytes(t, "P21.1: Open again", d, name, bytes)
	}
	identifies(t, s, 2)
	makes(t, s, "x", 1, 3)
}

func TestReadsMeta(t *testing.T) {
	for text, want := range map[string][]api.Topic{
		meta(0, 0):                                     nil,
		meta(topID, topID):                             nil,
		meta(5, 1, "t", 0, 1):                          {{Name: "t", Parts: 1}},
		meta(0, 9, "a", 8, 16, "b", 0, 2):              {{Name: "a", Parts: 16}, {Name: "b", Parts: 2}},
		meta(1, topID, "t", topID-1, 3):                {{Name: "t", Parts: 3}},
		meta(64, 1, strings.Repeat("\xff", 100), 0, 1): {{Name: strings.Repeat("\xff", 100), Parts: 1}},
	} {
		d := newDisk(t, 100000)
		d.Append("meta", text)
		s := open(t, d)
		hasTopics(t, "P21.1", s, want...)
		hasBytes(t, "P21.1", d, "meta", text)
		next, _, _ := varint.Get(text, 0)
		if next < topID {
			identifies(t, s, next)
		} else if id, e := s.Identify(); id != 0 || e != api.ErrFull {
			t.Errorf("P21.2: Identify, when all have been given: %d, %d, want ErrFull", id, e)
		}
		for _, topic := range want {
			hasJust(t, "P21.1", s, topic.Name, topic.Parts-1, 0, 0)
			hasNone(t, "P21.1", s, topic.Name, topic.Parts)
		}
	}
}

func TestWrongMeta(t *testing.T) {
	right := meta(5, 3, "a", 0, 2, "b", 2, 1)
	wrong := []string{
		"", "\x00", "\x80", "\x80\x00" + meta(0, 0)[1:], strings.Repeat("\x80", 10) + meta(0, 0),
		meta(-1, 0), meta(topID+1, 0), meta(math.MaxInt, 0), meta(math.MinInt, 0),
		meta(0, -1), meta(0, topID+1), meta(0, 0)[1:], meta(0, 1, "t", 1, 1), meta(0, 1, "t", 0, 0), meta(0, 1, "t", 0, 17),
		meta(0, 2, "t", 0, 1, "t", 1, 1), meta(0, 2, "b", 0, 1, "a", 1, 1), meta(0, 2, "a", 0, 1, "b", 0, 1),
		meta(0, 1, "", 0, 1), meta(0, 1, strings.Repeat("a", 101), 0, 1),
		right + "\x00", right + right,
	}
	for n := range len(right) {
		wrong = append(wrong, right[:n])
	}
	for _, text := range wrong {
		d := newDisk(t, 100000)
		d.Append("meta", text)
		d.Append("meta.new", "x")
		d.Append("p9.0.new", "x")
		n := changes(d, func() {
			if s, e := store.Open(d, usual); s != nil || e != api.ErrForm {
				t.Errorf("P21.1: Open with a meta file of %x: %v, %d, want nil, ErrForm", text, s, e)
			}
		})
		if n != 0 {
			t.Errorf("P21.1: Open with a meta file of %x: %d changes", text, n)
		}
	}
}

// TestOpenSweeps: what was on its way goes, and what begins with p and is of no partition's log.
func TestOpenSweeps(t *testing.T) {
	stay := []string{
		"meta", "metanew", "meta.new2", "x", "q0.0.start", "P0.0.new", "c.newest", "c-1", "-", ".",
		seg("p0.0", 0), "p0.0.start", seg("p0.1", 3), seg("p12.0", 0), seg("p12.10", 0), "p12.10.start", seg("c", 0),
	}
	go1 := []string{
		"meta.new", "c.new", "c.swap", "p0.0.new", "p0.1.swap", "p12.10.swap",
		"p", "p0", "p0.0", "p0.0-", "p0.0-000000000000", "p0.0-00000000000000", "p0.0-000000000000x", "p0.0--000000000000", "p0.0-+000000000000",
		"p0.0.", "p0.0.starts", "p0.0.Start", "p0.0.start.new", "p0.0.newx", "p0.00.start", "p00.0.start", "p+0.0.start", "p0.0start", "p-0.0.start", "p0.-0.start",
		seg("p0.2", 0), "p0.2.start", "p0.2.new", seg("p1.0", 0), "p1.0.start", "p2.0.swap", seg("p12.11", 0), seg("p12.1", 0)[:5], "p12.16.start", "p120.0.start", "p1.2.0.start",
		seg("p0", 0), "p.start", "pp0.0.start", "p 0.0.start", "p0.0 .start", "p0.0\x00.start",
	}
	d := newDisk(t, 100000)
	for _, name := range append(slices.Clone(stay), go1...) {
		switch {
		case name == "meta":
			d.Append(name, meta(0, 13, "a", 12, 11, "b", 0, 2))
		case name == "p0.0.start":
			d.Append(name, eight(0))
		case name == "p12.10.start":
			d.Append(name, eight(0))
		case len(name) > 13:
			d.Append(name, "")
		default:
			d.Append(name, "x")
		}
		d.Sync(name)
	}
	was := d.Copy()
	if n := changes(d, func() { open(t, d) }); n != len(go1) {
		t.Errorf("P21.1: Open: %d changes, want %d", n, len(go1))
	}
	hasFiles(t, "P21.1", d, stay...)
	for _, name := range stay {
		bytes, _ := was.Read(name)
		hasBytes(t, "P21.1", d, name, bytes)
	}
	// Each change may be the last one that goes.
	for n := range len(go1) {
		c := was.Copy()
		c.Fuse(n)
		if s, e := store.Open(c, usual); s != nil || e != api.ErrDown {
			t.Errorf("P21.1: Open with a fuse of %d: %v, %d, want nil, ErrDown", n, s, e)
		}
		c.Crash(nil)
		if l := c.Names(); slices.Contains(l, "meta.new") != (n == 0) || !slices.Contains(l, "c.swap") {
			t.Errorf("P21.1: Open with a fuse of %d: left %q", n, l)
		}
		open(t, c)
		for _, name := range go1 {
			if slices.Contains(c.Names(), name) {
				t.Errorf("P21.1: behind a fuse of %d: %s is there", n, name)
			}
		}
	}
}

// TestOpenTellsTheFirstError: logs are opened in the order of the topics' names, not of their ids, and the commits' one is the last.
func TestOpenTellsTheFirstError(t *testing.T) {
	for i, c := range []struct {
		wrong map[string]string
		want  api.Errno
	}{
		{map[string]string{}, api.OK},
		{map[string]string{"p1.0.start": "x"}, api.ErrForm},
		{map[string]string{"p0.1.start": "x"}, api.ErrForm},
		{map[string]string{"c.start": "x"}, api.ErrForm},
		{map[string]string{"p1.0-9999999999999": ""}, api.ErrArg},
		{map[string]string{"p0.0-9999999999999": ""}, api.ErrArg},
		{map[string]string{"c-9999999999999": ""}, api.ErrArg},
		{map[string]string{"p1.0-9999999999999": "", "p0.0.start": "x", "c.start": "x"}, api.ErrArg},
		{map[string]string{"p1.0.start": "x", "p0.0-9999999999999": "", "c-9999999999999": ""}, api.ErrForm},
		{map[string]string{"p1.1.start": "x", "p0.0-9999999999999": ""}, api.ErrForm},
		{map[string]string{"p1.0-9999999999999": "", "p1.1.start": "x"}, api.ErrArg},
		{map[string]string{"p0.1-9999999999999": "", "c.start": "x"}, api.ErrArg},
		{map[string]string{"p0.1.start": "x", "c-9999999999999": ""}, api.ErrForm},
	} {
		d := newDisk(t, 100000)
		d.Append("meta", meta(0, 2, "a", 1, 2, "b", 0, 2))
		for name, bytes := range c.wrong {
			d.Append(name, bytes)
		}
		if s, e := store.Open(d, usual); e != c.want || (s == nil) != (e != api.OK) {
			t.Errorf("P21.1: case %d: Open: %v, %d, want %d", i, s, e, c.want)
		}
	}
}

// TestOpenDropsAhead: the files of no partition's log have gone, when a log's error is told.
func TestOpenDropsAhead(t *testing.T) {
	d := newDisk(t, 100000)
	d.Append("meta", meta(0, 1, "a", 0, 1))
	d.Append("p0.0.start", "x")
	d.Append("p1.0.start", "x")
	d.Append("meta.new", "x")
	if s, e := store.Open(d, usual); s != nil || e != api.ErrForm {
		t.Errorf("P21.1: Open: %v, %d, want nil, ErrForm", s, e)
	}
	hasFiles(t, "P21.1", d, "meta", "p0.0.start")
}

// TestOpenCutsLogs has files of which the last batch is not whole.
func TestOpenCutsLogs(t *testing.T) {
	d := newDisk(t, 100000)
	d.Append("meta", meta(0, 1, "a", 0, 2))
	d.Append(seg("p0.1", 0), coded(t, lasting(0, one(0), one(1))...)[:59])
	s := open(t, d)
	hasJust(t, "P21.1", s, "a", 0, 0, 0)
	hasJust(t, "P21.1", s, "a", 1, 0, 1, one(0))
	hasBytes(t, "P21.1", d, seg("p0.1", 0), coded(t, one(0)))
}

// TestEvery asks by an index of what width the logs are opened: by one that plog takes, of 200, nothing else is seen.
func TestEvery(t *testing.T) {
	s, d := having(t, api.Topic{Name: "t", Parts: 1})
	for at := range 40 {
		puts(t, s, "t", 0, false, at, one(at))
	}
	l, e := plog.Open(d.Copy(), plog.Config{Prefix: "p0.0", Limit: usual, Every: 200})
	if e != api.OK {
		t.Fatalf("plog.Open: %d", e)
	}
	for from := range 41 {
		for _, most := range []int{-1, 0, 29, 30, 100, 10000} {
			want, _ := l.Read(from, most)
			if got, e := s.Read("t", 0, from, most); !same(got, want) || e != api.OK {
				t.Errorf("P21.3: Read(%d, %d): %+v, %d, want %+v", from, most, got, e, want)
			}
		}
	}
}
