package segment_test

import (
	"math"
	"reflect"
	"slices"
	"strings"
	"testing"

	"flotsam/api"
	"flotsam/batch"
	"flotsam/disk"
	"flotsam/segment"
)

func newDisk(t *testing.T, room int) *disk.Disk {
	t.Helper()
	d, e := disk.New(room)
	if d == nil || e != api.OK {
		t.Fatalf("disk.New(%d): %d", room, e)
	}
	return d
}

func open(t *testing.T, d *disk.Disk, base int, every int) *segment.Segment {
	t.Helper()
	s, e := segment.Open(d, "a", base, every)
	if s == nil || e != api.OK {
		t.Fatalf("P10.1: Open: %v, %d", s, e)
	}
	return s
}

// with is a segment of base 0 on a disk of its own, to which that was appended.
func with(t *testing.T, l ...api.Batch) (*segment.Segment, *disk.Disk) {
	t.Helper()
	d := newDisk(t, api.MaxDisk)
	s := open(t, d, 0, 30)
	for _, b := range l {
		if e := s.Append(b); e != api.OK {
			t.Fatalf("P10.2: Append of %+v: %d", b, e)
		}
	}
	return s, d
}

// one is a batch of no producer, with a record of each of the times, and of nothing else.
func one(base int, span int, times ...int) api.Batch {
	b := api.Batch{Base: base, Span: span, Producer: -1, Epoch: -1, Seq: -1}
	for i, time := range times {
		b.Records = append(b.Records, api.Record{At: i, Time: time})
	}
	return b
}

// full is a batch that has something in all fields.
func full(base int) api.Batch {
	return api.Batch{Base: base, Span: 3, Producer: 5, Epoch: 6, Seq: 7, Records: []api.Record{
		{At: 0, Time: 9, Key: "k", Value: "v", Headers: []api.Header{{Key: "h", Value: "1"}}},
		{At: 2, Time: 8, Bare: true, Value: "w", Headers: []api.Header{{Key: "i"}, {Key: "j", Value: "2"}}},
	}}
}

// coded is the bytes of some batches, one behind the other.
func coded(t *testing.T, l ...api.Batch) string {
	t.Helper()
	var s strings.Builder
	for _, b := range l {
		code, e := batch.Encode(b)
		if e != api.OK {
			t.Fatalf("batch.Encode of %+v: %d", b, e)
		}
		s.WriteString(code)
	}
	return s.String()
}

// same tells whether batches are, with lists that are nil or empty as the same.
func same(a, b []api.Batch) bool {
	return slices.EqualFunc(a, b, func(a, b api.Batch) bool { return reflect.DeepEqual(evened(a), evened(b)) })
}

func evened(b api.Batch) api.Batch {
	l := []api.Record{}
	for _, r := range b.Records {
		r.Headers = append([]api.Header{}, r.Headers...)
		l = append(l, r)
	}
	b.Records = l
	return b
}

// hasJust asks a segment of base 0 for all that it tells of itself, and the disk for its file.
func hasJust(t *testing.T, name string, s *segment.Segment, d *disk.Disk, want ...api.Batch) {
	t.Helper()
	code := coded(t, want...)
	end := s.Base()
	if len(want) > 0 {
		end = want[len(want)-1].Base + want[len(want)-1].Span
	}
	if l := s.Read(0, math.MaxInt); !same(l, want) {
		t.Errorf("%s: Read: %+v, want %+v", name, l, want)
	}
	if s.End() != end || s.Size() != len(code) {
		t.Errorf("%s: End, Size: %d, %d, want %d, %d", name, s.End(), s.Size(), end, len(code))
	}
	if bytes, _ := d.Read("a"); d.Up() && bytes != code {
		t.Errorf("%s: the file is %x, want %x", name, bytes, code)
	}
}

func TestOpenOfNothing(t *testing.T) {
	for _, base := range []int{0, 1, 77, 1<<40 - 1, 1 << 40} {
		for _, every := range []int{1, 30, 1000000} {
			for _, name := range []string{"a", "log-0000000000000", strings.Repeat("n", 40), "\x00\xff"} {
				d := newDisk(t, 100)
				s, e := segment.Open(d, name, base, every)
				if s == nil || e != api.OK {
					t.Fatalf("P10.1: Open of %q, %d, %d: %v, %d", name, base, every, s, e)
				}
				if s.Base() != base || s.End() != base || s.Size() != 0 || len(s.Read(0, 100)) != 0 {
					t.Errorf("P10.1: %q: %d, %d, %d, %v", name, s.Base(), s.End(), s.Size(), s.Read(0, 100))
				}
				if at, ok := s.After(0); at != 0 || ok {
					t.Errorf("P10.3: After of nothing: %d, %t", at, ok)
				}
				if len(d.Names()) != 0 {
					t.Errorf("P10.1: Open makes files: %q", d.Names())
				}
			}
		}
	}
}

func TestOpenRefuses(t *testing.T) {
	good, down := newDisk(t, 100), newDisk(t, 100)
	good.Append("a", "abc")
	down.Fuse(0)
	for _, d := range []*disk.Disk{good, down} {
		for _, c := range []struct {
			d     *disk.Disk
			name  string
			base  int
			every int
		}{
			{nil, "a", 0, 1}, {d, "", 0, 1}, {d, strings.Repeat("n", 41), 0, 1},
			{d, "a", -1, 1}, {d, "a", math.MinInt, 1}, {d, "a", 1<<40 + 1, 1}, {d, "a", math.MaxInt, 1},
			{d, "a", 0, 0}, {d, "a", 0, -1}, {d, "a", 0, math.MinInt}, {d, "a", 0, 1000001}, {d, "a", 0, math.MaxInt},
			{nil, "", -1, 0},
		} {
			if s, e := segment.Open(c.d, c.name, c.base, c.every); s != nil || e != api.ErrArg {
				t.Errorf("P10.1: Open(%v, %q, %d, %d): %v, %d, want nil, ErrArg", c.d, c.name, c.base, c.every, s, e)
			}
		}
	}
	if bytes, e := good.Read("a"); bytes != "abc" || e != api.OK {
		t.Errorf("P10.1: Open that refused has changed the file: %q, %d", bytes, e)
	}
	if s, e := segment.Open(down, "a", 0, 1); s != nil || e != api.ErrDown {
		t.Errorf("P10.1: Open on a disk that is down: %v, %d, want nil, ErrDown", s, e)
	}
}

// TestOpenOfBytes has a file of some bytes: what of them is taken, and that all else is cut off.
func TestOpenOfBytes(t *testing.T) {
	far := one(1<<40, 50)
	for _, c := range []struct {
		name  string
		base  int
		bytes string
		want  []api.Batch
	}{
		{"no bytes", 0, "", nil},
		{"no batch", 0, "nothing that is one", nil},
		{"a byte", 0, "\x00", nil},
		{"one", 0, coded(t, full(0)), []api.Batch{full(0)}},
		{"one behind a gap", 0, coded(t, full(9)), []api.Batch{full(9)}},
		{"one at the base", 7, coded(t, full(7)), []api.Batch{full(7)}},
		{"one ahead of the base", 8, coded(t, full(7)), nil},
		{"one ahead of the base, one at it", 8, coded(t, one(7, 1), one(8, 1)), nil},
		{"two", 0, coded(t, one(0, 2, 5), one(2, 1)), []api.Batch{one(0, 2, 5), one(2, 1)}},
		{"two with a gap", 0, coded(t, one(0, 2, 5), one(9, 1)), []api.Batch{one(0, 2, 5), one(9, 1)}},
		{"two, the second one within the first one", 0, coded(t, one(0, 2, 5), one(1, 1)), []api.Batch{one(0, 2, 5)}},
		{"one twice", 0, coded(t, full(0), full(0)), []api.Batch{full(0)}},
		{"one that does not follow between", 0, coded(t, one(0, 2), one(1, 50), one(60, 1)), []api.Batch{one(0, 2)}},
		{"one ahead of both", 0, coded(t, one(5, 1), one(7, 1), one(0, 1)), []api.Batch{one(5, 1), one(7, 1)}},
		{"the last ones", 1 << 40, coded(t, far, far), []api.Batch{far}},
		{"one and half of another one", 0, coded(t, full(0)) + coded(t, full(3))[:20], []api.Batch{full(0)}},
		{"one and a byte", 0, coded(t, full(0)) + "\x00", []api.Batch{full(0)}},
		{"a byte ahead", 0, "\x00" + coded(t, full(0)), nil},
		{"a byte between", 0, coded(t, full(0)) + "\x00" + coded(t, full(3)), []api.Batch{full(0)}},
	} {
		d := newDisk(t, 10000)
		d.Append("other", c.bytes)
		if c.bytes != "" {
			d.Append("a", c.bytes)
		}
		s := open(t, d, c.base, 1)
		if s.Base() != c.base {
			t.Errorf("P10.3: %s: Base: %d, want %d", c.name, s.Base(), c.base)
		}
		hasJust(t, "P10.1: "+c.name, s, d, c.want...)
		if bytes, _ := d.Read("other"); bytes != c.bytes {
			t.Errorf("P10.1: %s: another file is changed: %x", c.name, bytes)
		}
	}
}

// TestOpenChangesNoMoreThanItMust counts by a fuse: one Cut, where something is left, else nothing.
func TestOpenChangesNoMoreThanItMust(t *testing.T) {
	for bytes, changes := range map[string]int{"": 0, coded(t, full(0)): 0, coded(t, full(0)) + "x": 1, "x": 1, coded(t, full(0), full(0)): 1} {
		d := newDisk(t, 1000)
		if bytes != "" {
			d.Append("a", bytes)
		}
		d.Fuse(changes + 1)
		open(t, d, 0, 1)
		if !d.Up() || d.Append("b", "") != api.OK || d.Up() {
			t.Errorf("P10.1: Open of %x makes not just %d changes", bytes, changes)
		}
	}
}

func TestOpenTakesUpAgain(t *testing.T) {
	l := []api.Batch{full(0), one(3, 5, 1, 2, 3), one(10, 1), full(20)}
	_, d := with(t, l...)
	s := open(t, d, 0, 1)
	hasJust(t, "P10.1", s, d, l...)
	if e := s.Append(full(23)); e != api.OK {
		t.Errorf("P10.2: Append behind Open: %d", e)
	}
	hasJust(t, "P10.2", s, d, append(l, full(23))...)
}

func TestAppend(t *testing.T) {
	s, d := with(t)
	var l []api.Batch
	for _, b := range []api.Batch{one(0, 1), full(1), one(4, 50, 3, 2, 1), one(54, 1), one(1000, 2), one(1<<40, 50)} {
		if e := s.Append(b); e != api.OK {
			t.Fatalf("P10.2: Append of %+v: %d", b, e)
		}
		l = append(l, b)
		hasJust(t, "P10.2", s, d, l...)
	}
	// There is no place behind its end for a Base that may be.
	if e := s.Append(one(1<<40, 1)); e != api.ErrArg {
		t.Errorf("P10.2: Append below the end: %d, want ErrArg", e)
	}
}

func TestAppendRefuses(t *testing.T) {
	s, d := with(t, one(0, 5, 1), full(5))
	for name, b := range map[string]api.Batch{
		"one that is empty":          {},
		"a Span of 0":                one(8, 0),
		"a Span of 51":               one(8, 51),
		"a Base above 2^40":          one(1<<40+1, 1),
		"a Base below 0":             one(-1, 1),
		"a time that may not be":     one(8, 1, -1),
		"a Producer alone":           {Base: 8, Span: 1, Epoch: -1, Seq: -1},
		"one just below the end":     one(7, 1),
		"one at the last one's Base": full(5),
		"one at the base":            one(0, 1),
	} {
		if e := s.Append(b); e != api.ErrArg {
			t.Errorf("P10.2: Append of %s: %d, want ErrArg", name, e)
		}
		hasJust(t, "P10.2: behind "+name, s, d, one(0, 5, 1), full(5))
	}
	s = open(t, newDisk(t, 1000), 100, 30)
	for _, b := range []api.Batch{one(99, 1), one(0, 1), one(98, 10)} {
		if e := s.Append(b); e != api.ErrArg {
			t.Errorf("P10.2: Append ahead of the base: %d, want ErrArg", e)
		}
	}
	if e := s.Append(one(100, 1)); e != api.OK {
		t.Errorf("P10.2: Append at the base: %d", e)
	}
}

// TestErrorsOfTheDisk: they come behind ErrArg, and with one of them nothing has changed.
func TestErrorsOfTheDisk(t *testing.T) {
	size := len(coded(t, full(0)))
	d := newDisk(t, 2*size)
	s := open(t, d, 0, 1)
	s.Append(full(0))
	if e := s.Append(one(3, 50, make([]int, 50)...)); e != api.ErrFull {
		t.Errorf("P10.2: Append without room: %d, want ErrFull", e)
	}
	if e := s.Append(one(2, 50, make([]int, 50)...)); e != api.ErrArg {
		t.Errorf("P10.2: Append below the end, without room: %d, want ErrArg", e)
	}
	hasJust(t, "P10.2: behind ErrFull", s, d, full(0))
	if e := s.Append(full(3)); e != api.OK {
		t.Errorf("P10.2: Append with just enough room: %d", e)
	}
	d.Fuse(0)
	for _, c := range []struct {
		b    api.Batch
		want api.Errno
	}{{one(6, 1), api.ErrDown}, {one(5, 1), api.ErrArg}, {api.Batch{}, api.ErrArg}} {
		if e := s.Append(c.b); e != c.want {
			t.Errorf("P10.2: Append of %+v on a disk that is down: %d, want %d", c.b, e, c.want)
		}
	}
	if e := s.Sync(); e != api.ErrDown {
		t.Errorf("P10.2: Sync on a disk that is down: %d, want ErrDown", e)
	}
	// A segment has its batches, whether the disk is down or not.
	hasJust(t, "P10.3: down", s, d, full(0), full(3))
	if at, ok := s.After(9); at != 0 || !ok {
		t.Errorf("P10.3: After on a disk that is down: %d, %t", at, ok)
	}
	d.Fuse(-1)
	hasJust(t, "P10.2: up again", s, d, full(0), full(3))
	if s.Append(one(6, 1)) != api.ErrFull || s.Sync() != api.OK {
		t.Error("P10.2: behind a disk that was down")
	}
}

// TestChanges counts by a fuse: each Append and each Sync is one change of the disk, no more.
func TestChanges(t *testing.T) {
	s, d := with(t)
	d.Fuse(3)
	if s.Append(full(0)) != api.OK || s.Sync() != api.OK || !d.Up() || s.Append(full(3)) != api.OK || d.Up() {
		t.Error("P10.2: Append and Sync are not one change each")
	}
	hasJust(t, "P10.2", s, d, full(0), full(3))
}

func TestSync(t *testing.T) {
	s, d := with(t)
	if e := s.Sync(); e != api.OK || len(d.Names()) != 0 {
		t.Errorf("P10.2: Sync without a file: %d, %q", e, d.Names())
	}
	s.Append(full(0))
	if c := d.Copy(); c.Crash(nil) != 1 {
		t.Error("P10.2: what is appended does not wait")
	}
	d.Append("other", "waits")
	if e := s.Sync(); e != api.OK {
		t.Errorf("P10.2: Sync: %d", e)
	}
	if c := d.Copy(); c.Crash(nil) != 1 || c.Used() != s.Size() {
		t.Error("P10.2: Sync makes not just its own file safe")
	}
}

func TestNil(t *testing.T) {
	var s *segment.Segment
	if s.Append(full(0)) != api.ErrArg || s.Append(api.Batch{}) != api.ErrArg || s.Sync() != api.ErrArg {
		t.Errorf("P10.2: Append and Sync of nil: %d, %d", s.Append(full(0)), s.Sync())
	}
	at, ok := s.After(0)
	if l := s.Read(0, 100); len(l) != 0 || at != 0 || ok || s.Base() != 0 || s.End() != 0 || s.Size() != 0 {
		t.Errorf("P10.3: nil: %v, %d, %t, %d, %d, %d", l, at, ok, s.Base(), s.End(), s.Size())
	}
}

// TestNotMadeByOpen has a segment that nobody promised anything of: but no call panics (R1).
func TestNotMadeByOpen(t *testing.T) {
	var s segment.Segment
	s.Append(full(0))
	s.Sync()
	s.Read(0, 100)
	s.After(0)
	s.Base()
	s.End()
	s.Size()
}

func TestRead(t *testing.T) {
	l := []api.Batch{one(10, 5, 1), one(15, 1, 2), one(20, 2), full(30)}
	s, _ := with(t, l...)
	for from, first := range map[int]int{
		math.MinInt: 0, -1: 0, 0: 0, 10: 0, 14: 0, 15: 1, 16: 2, 19: 2, 20: 2, 21: 2, 22: 3, 30: 3, 32: 3, 33: 4, 34: 4, 1 << 40: 4, math.MaxInt: 4,
	} {
		if got := s.Read(from, math.MaxInt); !same(got, l[first:]) {
			t.Errorf("P10.3: Read(%d): %+v, want those from the %d-th one on", from, got, first)
		}
		for n := first; n < len(l); n++ {
			just := len(coded(t, l[first:n+1]...))
			if got := s.Read(from, just); !same(got, l[first:n+1]) {
				t.Errorf("P10.3: Read(%d, %d): %+v, want %d", from, just, got, n+1-first)
			}
			if got, want := s.Read(from, just-1), max(n-first, 1); !same(got, l[first:first+want]) {
				t.Errorf("P10.3: Read(%d, %d): %+v, want %d", from, just-1, got, want)
			}
		}
		for _, most := range []int{0, -1, 1, math.MinInt} {
			if got := s.Read(from, most); !same(got, l[first:min(first+1, len(l))]) {
				t.Errorf("P10.3: Read(%d, %d): %+v, want the first one alone", from, most, got)
			}
		}
	}
}

// TestReadStopsAtTheFirstThatIsTooLong: a shorter one behind it is not taken in its place.
func TestReadStopsAtTheFirstThatIsTooLong(t *testing.T) {
	l := []api.Batch{one(0, 1), one(1, 50, make([]int, 50)...), one(51, 1)}
	s, _ := with(t, l...)
	if got := s.Read(0, len(coded(t, l[0], l[2]))); !same(got, l[:1]) {
		t.Errorf("P10.3: Read: %+v, want the first one alone", got)
	}
}

func TestAfter(t *testing.T) {
	s, _ := with(t, one(10, 3), one(13, 2, 5, 3), one(15, 1, 4), one(16, 3, 1, 7, 2), one(19, 1), one(20, 1, 7), one(21, 1, 6), one(30, 1, 1<<40), one(31, 1, 0))
	for time, want := range map[int]int{
		math.MinInt: 13, -1: 13, 0: 13, 3: 13, 4: 13, 5: 13, 6: 16, 7: 16, 8: 30, 1 << 40: 30,
	} {
		if at, ok := s.After(time); at != want || !ok {
			t.Errorf("P10.3: After(%d): %d, %t, want %d", time, at, ok, want)
		}
	}
	for _, time := range []int{1<<40 + 1, math.MaxInt} {
		if at, ok := s.After(time); at != 0 || ok {
			t.Errorf("P10.3: After(%d): %d, %t, want none", time, at, ok)
		}
	}
	s, _ = with(t, one(0, 3), one(5, 1))
	if at, ok := s.After(math.MinInt); at != 0 || ok {
		t.Errorf("P10.3: After of batches without records: %d, %t, want none", at, ok)
	}
	s, _ = with(t, one(0, 3, 0))
	if at, ok := s.After(0); at != 0 || !ok {
		t.Errorf("P10.3: After(0) of a record of the time 0: %d, %t", at, ok)
	}
}

func TestExample(t *testing.T) {
	s, d := with(t, full(0))
	s.Sync()
	s.Append(full(3))
	d.Crash([]int{len(coded(t, full(3))) / 2})
	hasJust(t, "P10.4", open(t, d, 0, 30), d, full(0))
}

// TestCrashAnywhere keeps each number of bytes of what waits: behind Open just those batches are there that are whole.
func TestCrashAnywhere(t *testing.T) {
	l := []api.Batch{one(0, 1), full(1), one(9, 1, 8), full(20), one(23, 1)}
	for synced := range len(l) + 1 {
		s, d := with(t, l[:synced]...)
		s.Sync()
		for _, b := range l[synced:] {
			s.Append(b)
		}
		safe := len(coded(t, l[:synced]...))
		for keep := -1; keep <= s.Size()-safe+1; keep++ {
			c := d.Copy()
			c.Crash([]int{keep})
			whole := synced
			for whole < len(l) && len(coded(t, l[:whole+1]...)) <= safe+max(keep, 0) {
				whole++
			}
			again := open(t, c, 0, 30)
			hasJust(t, "P10.4", again, c, l[:whole]...)
			if e := again.Append(one(50, 1)); e != api.OK {
				t.Errorf("P10.4: Append behind a crash: %d", e)
			}
			hasJust(t, "P10.4", again, c, append(slices.Clone(l[:whole]), one(50, 1))...)
		}
	}
}

// spoil overwrites all lists of some batches, and their spare room.
func spoil(l []api.Batch) {
	l = l[:cap(l)]
	for i := range l {
		r := l[i].Records[:cap(l[i].Records)]
		for j := range r {
			h := r[j].Headers[:cap(r[j].Headers)]
			for k := range h {
				h[k] = api.Header{Key: "spoilt"}
			}
			r[j] = api.Record{Key: "spoilt"}
		}
		l[i] = api.Batch{Base: -7}
	}
}

func TestMemory(t *testing.T) {
	b := full(0)
	s, d := with(t, b)
	if !same([]api.Batch{b}, []api.Batch{full(0)}) {
		t.Errorf("R5: the batch that was handed in is now %+v", b)
	}
	spoil([]api.Batch{b})
	hasJust(t, "R5: the batch that was handed in is kept", s, d, full(0))
	s.Append(full(3))
	first, other := s.Read(0, 1000), s.Read(0, 1000)
	spoil(first[:1:1])
	if !same(first[1:], []api.Batch{full(3)}) {
		t.Errorf("R5: two batches of one answer share lists: %+v", first)
	}
	spoil(first)
	if !same(other, []api.Batch{full(0), full(3)}) {
		t.Errorf("R5: two answers share lists: %+v", other)
	}
	hasJust(t, "R5: what is kept is handed out", s, d, full(0), full(3))
	again := open(t, d, 0, 30)
	spoil(again.Read(0, 1000))
	hasJust(t, "R5: what was taken up again is handed out", again, d, full(0), full(3))
}
