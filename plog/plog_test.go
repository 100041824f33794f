package plog_test

import (
	"fmt"
	"math"
	"reflect"
	"slices"
	"strings"
	"testing"

	"flotsam/api"
	"flotsam/batch"
	"flotsam/disk"
	"flotsam/plog"
	"flotsam/varint"
)

// usual is the config of most tests: a segment is full with two batches of 30 bytes.
var usual = plog.Config{Prefix: "p", Limit: 50, Every: 20}

func newDisk(t *testing.T, room int) *disk.Disk {
	t.Helper()
	d, e := disk.New(room)
	if d == nil || e != api.OK {
		t.Fatalf("disk.New(%d): %d", room, e)
	}
	return d
}

func open(t *testing.T, d *disk.Disk, c plog.Config) *plog.Log {
	t.Helper()
	l, e := plog.Open(d, c)
	if l == nil || e != api.OK {
		t.Fatalf("P11.1: Open: %v, %d", l, e)
	}
	return l
}

// one is a batch of 30 bytes, as long as its Base and the time are below 64.
func one(base int, span int, time int) api.Batch {
	b := api.Batch{Base: base, Span: span, Producer: -1, Epoch: -1, Seq: -1}
	b.Records = []api.Record{{Time: time, Bare: true, Value: "ten bytes."}}
	return b
}

// small is a batch of 14 bytes.
func small(base int, span int) api.Batch {
	return api.Batch{Base: base, Span: span, Producer: -1, Epoch: -1, Seq: -1}
}

// full is a batch that has something in all fields.
func full(base int) api.Batch {
	return api.Batch{Base: base, Span: 3, Producer: 5, Epoch: 6, Seq: 7, Records: []api.Record{
		{At: 0, Time: 9, Key: "k", Value: "v", Headers: []api.Header{{Key: "h", Value: "1"}}},
		{At: 2, Time: 8, Bare: true, Value: "w", Headers: []api.Header{{Key: "i"}, {Key: "j", Value: "2"}}},
	}}
}

// coded is the bytes of some batches, one behind the other.
func coded(t *testing.T, l ...api.Batch) string {
	t.Helper()
	var s strings.Builder
	for _, b := range l {
		code, e := batch.Encode(b)
		if e != api.OK {
			t.Fatalf("batch.Encode of %+v: %d", b, e)
		}
		s.WriteString(code)
	}
	return s.String()
}

// eight is a place as the file of the start has it.
func eight(n int) string {
	s, _ := varint.Fixed(n, 8)
	return s
}

// same tells whether batches are, with lists that are nil or empty as the same.
func same(a, b []api.Batch) bool {
	return slices.EqualFunc(a, b, func(a, b api.Batch) bool { return reflect.DeepEqual(evened(a), evened(b)) })
}

func evened(b api.Batch) api.Batch {
	l := []api.Record{}
	for _, r := range b.Records {
		r.Headers = append([]api.Header{}, r.Headers...)
		l = append(l, r)
	}
	b.Records = l
	return b
}

func name(base int) string { return fmt.Sprintf("p-%013d", base) }

// put appends batches; they must be taken at their Bases.
func put(t *testing.T, l *plog.Log, batches ...api.Batch) {
	t.Helper()
	for _, b := range batches {
		if at, e := l.Append(b, false); at != b.Base || e != api.OK {
			t.Fatalf("P11.2: Append of %+v: %d, %d", b, at, e)
		}
	}
}

// six is a log of three segments of two batches each, from 0, 4 and 8 on: each has 2 places, and its Base for its time.
func six(t *testing.T, room int) (*plog.Log, *disk.Disk) {
	t.Helper()
	d := newDisk(t, room)
	l := open(t, d, usual)
	for base := 0; base < 12; base += 2 {
		put(t, l, one(base, 2, base))
	}
	return l, d
}

// hasJust asks a log for all that it tells of itself: its start and end, and its segments' batches.
func hasJust(t *testing.T, name string, l *plog.Log, start int, end int, want ...[]api.Batch) {
	t.Helper()
	if l.Start() != start || l.End() != end {
		t.Errorf("%s: Start, End: %d, %d, want %d, %d", name, l.Start(), l.End(), start, end)
	}
	size := 0
	for i, w := range want {
		got, ok := l.Segment(i)
		if !ok || !same(got, w) {
			t.Errorf("%s: Segment(%d): %+v, %t, want %+v", name, i, got, ok, w)
		}
		size += len(coded(t, w...))
	}
	if got, ok := l.Segment(len(want)); ok || len(got) != 0 {
		t.Errorf("%s: there is a segment behind %d: %+v", name, len(want), got)
	}
	if l.Size() != size {
		t.Errorf("%s: Size: %d, want %d", name, l.Size(), size)
	}
}

// files are those of a disk, each with its bytes.
func files(d *disk.Disk) map[string]string {
	all := map[string]string{}
	for _, name := range d.Names() {
		all[name], _ = d.Read(name)
	}
	return all
}

func hasFiles(t *testing.T, name string, d *disk.Disk, want map[string]string) {
	t.Helper()
	if got := files(d); !reflect.DeepEqual(got, want) {
		t.Errorf("%s: files: %q, want %q", name, got, want)
	}
}

// changes counts by a fuse how many changes of the disk something makes.
func changes(t *testing.T, d *disk.Disk, do func()) int {
	t.Helper()
	const many = 1000
	d.Fuse(many)
	do()
	n := 0
	for d.Up() {
		d.Append("counts", "")
		n++
	}
	d.Fuse(-1)
	d.Drop("counts")
	return many - n
}

func TestOpenRefuses(t *testing.T) {
	good, down := newDisk(t, 100), newDisk(t, 100)
	good.Append("p.new", "abc")
	down.Fuse(0)
	for _, d := range []*disk.Disk{good, down} {
		for _, c := range []struct {
			d *disk.Disk
			c plog.Config
		}{
			{nil, usual}, {nil, plog.Config{}}, {d, plog.Config{}},
			{d, plog.Config{Prefix: "", Limit: 50, Every: 1}}, {d, plog.Config{Prefix: strings.Repeat("p", 21), Limit: 50, Every: 1}},
			{d, plog.Config{Prefix: "p", Limit: 49, Every: 1}}, {d, plog.Config{Prefix: "p", Limit: 1000001, Every: 1}},
			{d, plog.Config{Prefix: "p", Limit: math.MinInt, Every: 1}}, {d, plog.Config{Prefix: "p", Limit: math.MaxInt, Every: 1}},
			{d, plog.Config{Prefix: "p", Limit: 50, Every: 0}}, {d, plog.Config{Prefix: "p", Limit: 50, Every: 1000001}},
			{d, plog.Config{Prefix: "p", Limit: 50, Every: math.MinInt}}, {d, plog.Config{Prefix: "p", Limit: 50, Every: math.MaxInt}},
		} {
			if l, e := plog.Open(c.d, c.c); l != nil || e != api.ErrArg {
				t.Errorf("P11.1: Open(%v, %+v): %v, %d, want nil, ErrArg", c.d, c.c, l, e)
			}
		}
	}
	hasFiles(t, "P11.1: Open that refused", good, map[string]string{"p.new": "abc"})
	if l, e := plog.Open(down, usual); l != nil || e != api.ErrDown {
		t.Errorf("P11.1: Open on a disk that is down: %v, %d, want nil, ErrDown", l, e)
	}
}

func TestOpenOfNothing(t *testing.T) {
	for _, c := range []plog.Config{
		usual, {Prefix: "p", Limit: 50, Every: 1}, {Prefix: strings.Repeat("p", 20), Limit: 1000000, Every: 1000000}, {Prefix: "\x00\xff/", Limit: 51, Every: 2},
	} {
		d := newDisk(t, 100)
		l := open(t, d, c)
		hasJust(t, "P11.1", l, 0, 0)
		if n := changes(t, d, func() { open(t, d, c) }); n != 0 || len(d.Names()) != 0 {
			t.Errorf("P11.1: Open of nothing: %d changes, %q", n, d.Names())
		}
		if b, e := l.Read(0, 100); len(b) != 0 || e != api.OK {
			t.Errorf("P11.3: Read(0): %v, %d", b, e)
		}
		for _, from := range []int{-1, 1, math.MinInt, math.MaxInt} {
			if b, e := l.Read(from, 100); len(b) != 0 || e != api.ErrRange {
				t.Errorf("P11.3: Read(%d): %v, %d, want ErrRange", from, b, e)
			}
		}
		if at, ok := l.After(0); at != 0 || ok {
			t.Errorf("P11.3: After of nothing: %d, %t", at, ok)
		}
		if n, e := l.Retain(0); n != 0 || e != api.OK || l.Sync() != api.OK || len(d.Names()) != 0 {
			t.Errorf("P11.4: Retain: %d, %d, %q", n, e, d.Names())
		}
		d.Fuse(0)
		if e := l.Sync(); e != api.OK {
			t.Errorf("P11.2: Sync of a log without a segment on a disk that is down: %d, want OK", e)
		}
	}
}

func TestOpenOfStart(t *testing.T) {
	for _, c := range []struct {
		bytes string
		start int
		e     api.Errno
	}{
		{eight(0), 0, api.OK}, {eight(1), 1, api.OK}, {eight(258), 258, api.OK}, {eight(1 << 40), 1 << 40, api.OK},
		{eight(1<<40 + 1), 0, api.ErrForm}, {eight(math.MaxInt), 0, api.ErrForm}, {"\x80\x00\x00\x00\x00\x00\x00\x00", 0, api.ErrForm},
		{"", 0, api.ErrForm}, {eight(0)[:7], 0, api.ErrForm}, {eight(0) + "\x00", 0, api.ErrForm}, {eight(5) + eight(5), 0, api.ErrForm},
	} {
		d := newDisk(t, 100)
		d.Append("p.start", c.bytes)
		d.Append("p.new", "new")
		l, e := plog.Open(d, usual)
		if e != c.e || (l == nil) != (e != api.OK) || l.Start() != c.start || l.End() != c.start {
			t.Errorf("P11.1: Open with the start %x: %d, %d, %d, want %d, %d", c.bytes, e, l.Start(), l.End(), c.e, c.start)
		}
		want := map[string]string{"p.start": c.bytes}
		if c.e != api.OK {
			// The start is read ahead of all that is dropped.
			want["p.new"] = "new"
		}
		hasFiles(t, "P11.1", d, want)
	}
	d := newDisk(t, 100)
	d.Append("p.start", eight(7))
	l := open(t, d, usual)
	put(t, l, small(7, 1))
	hasFiles(t, "P11.2: the first segment of a log that starts at 7", d, map[string]string{"p.start": eight(7), name(7): coded(t, small(7, 1))})
	for from, e := range map[int]api.Errno{6: api.ErrRange, 7: api.OK, 8: api.OK, 9: api.ErrRange} {
		if _, got := l.Read(from, 10); got != e {
			t.Errorf("P11.3: Read(%d): %d, want %d", from, got, e)
		}
	}
}

func TestOpenSweeps(t *testing.T) {
	others := map[string]string{"p": "1", "q.new": "2", "p.news": "3", "pp.swap": "4", "p.": "5", "new": "6", ".swap": "7"}
	for _, c := range [][]string{{}, {"p.new"}, {"p.swap"}, {"p.new", "p.swap"}} {
		d := newDisk(t, 1000)
		for name, bytes := range others {
			d.Append(name, bytes)
		}
		for _, name := range c {
			d.Append(name, "on its way")
		}
		if n := changes(t, d, func() { hasJust(t, "P11.1", open(t, d, usual), 0, 0) }); n != len(c) {
			t.Errorf("P11.1: Open with %q: %d changes", c, n)
		}
		hasFiles(t, "P11.1: what is not the log's stays", d, others)
	}
	d := newDisk(t, 100)
	d.Append("p.new", "a")
	d.Append("p.swap", "b")
	d.Fuse(1)
	if l, e := plog.Open(d, usual); l != nil || e != api.ErrDown {
		t.Errorf("P11.1: Open with a fuse of 1 and two files to drop: %v, %d, want nil, ErrDown", l, e)
	}
	d.Fuse(-1)
	hasFiles(t, "P11.1: .new is dropped ahead of .swap", d, map[string]string{"p.swap": "b"})
}

// TestOpenIsNotMisledByADiskThatGoesDown: such a disk tells no names, but the log has segments.
func TestOpenIsNotMisledByADiskThatGoesDown(t *testing.T) {
	for _, way := range []string{"p.new", "p.swap"} {
		_, d := six(t, 1000)
		d.Append(way, "x")
		d.Fuse(1)
		if l, e := plog.Open(d, usual); l != nil || e != api.ErrDown {
			t.Errorf("P11.1: Open on a disk that goes down by the drop of %s: %v, %d, want nil, ErrDown", way, l, e)
		}
		d.Fuse(-1)
		if l := open(t, d, usual); l.End() != 12 {
			t.Errorf("P11.1: End behind that: %d", l.End())
		}
	}
}

func TestOpenOfNames(t *testing.T) {
	d := newDisk(t, 1000)
	code := coded(t, small(3, 1))
	for _, name := range []string{
		"p-", "p-3", "p-000000000003", "p-00000000000003", "p-00000000000x3", "p-+000000000003", "p--000000000003", "p-000000000_003",
		"p-0000000000003 ", "0000000000003", "q-0000000000003", "p0000000000003", "p_0000000000003", "-0000000000003", "pp-0000000000003", "P-0000000000003", "p-p-0000000000003",
		"p-0000000000003.new", "p-0x00000000003", "p-000000000000\xb2",
	} {
		d.Append(name, code)
	}
	all := files(d)
	if n := changes(t, d, func() { hasJust(t, "P11.1: names of other files", open(t, d, usual), 0, 0) }); n != 0 {
		t.Errorf("P11.1: %d changes", n)
	}
	hasFiles(t, "P11.1: names of other files", d, all)
	d.Append("p-0000000000003", code)
	hasJust(t, "P11.1", open(t, d, usual), 0, 4, []api.Batch{small(3, 1)})
	odd := plog.Config{Prefix: "p-p", Limit: 50, Every: 1}
	hasJust(t, "P11.1: another log", open(t, d, odd), 0, 4, []api.Batch{small(3, 1)})
}

func TestOpenOfSegments(t *testing.T) {
	far := small(1<<40, 50)
	for _, c := range []struct {
		what  string
		files map[int]string
		e     api.Errno
		end   int
		want  [][]api.Batch
	}{
		{"one", map[int]string{0: coded(t, full(0))}, api.OK, 3, [][]api.Batch{{full(0)}}},
		{"one without a byte", map[int]string{5: ""}, api.OK, 5, [][]api.Batch{{}}},
		{"one that begins behind its base", map[int]string{5: coded(t, full(9))}, api.OK, 12, [][]api.Batch{{full(9)}}},
		{"two", map[int]string{0: coded(t, full(0)), 3: coded(t, full(3), small(6, 1))}, api.OK, 7, [][]api.Batch{{full(0)}, {full(3), small(6, 1)}}},
		{"two with a gap", map[int]string{0: coded(t, full(0)), 30: coded(t, full(31))}, api.OK, 34, [][]api.Batch{{full(0)}, {full(31)}}},
		{"two, the base of one within the other", map[int]string{0: coded(t, full(0)), 2: coded(t, full(3))}, api.ErrForm, 0, nil},
		{"three, the last base within", map[int]string{0: coded(t, small(0, 1)), 1: coded(t, small(1, 5)), 5: ""}, api.ErrForm, 0, nil},
		{"an empty one between", map[int]string{0: coded(t, full(0)), 3: "", 9: coded(t, full(9))}, api.OK, 12, [][]api.Batch{{full(0)}, {}, {full(9)}}},
		{"an empty one behind", map[int]string{0: coded(t, full(0)), 3: ""}, api.OK, 3, [][]api.Batch{{full(0)}, {}}},
		{"a torn one behind", map[int]string{0: coded(t, full(0)), 3: coded(t, full(3), full(6))[:60]}, api.OK, 6, [][]api.Batch{{full(0)}, {full(3)}}},
		{"a torn one ahead", map[int]string{0: coded(t, full(0)) + "x", 3: coded(t, full(3))}, api.OK, 6, [][]api.Batch{{full(0)}, {full(3)}}},
		{"bases as numbers", map[int]string{9: coded(t, small(9, 1)), 10: coded(t, small(10, 1)), 1000: coded(t, small(1000, 1))}, api.OK, 1001, [][]api.Batch{{small(9, 1)}, {small(10, 1)}, {small(1000, 1)}}},
		{"the last base", map[int]string{1 << 40: coded(t, far)}, api.OK, 1<<40 + 50, [][]api.Batch{{far}}},
		{"a base that is too great", map[int]string{0: coded(t, full(0)), 1<<40 + 1: ""}, api.ErrArg, 0, nil},
		{"a base that is too great, within another one", map[int]string{1 << 40: coded(t, far), 1<<40 + 1: ""}, api.ErrArg, 0, nil},
	} {
		d := newDisk(t, 10000)
		for base, bytes := range c.files {
			d.Append(name(base), bytes)
		}
		l, e := plog.Open(d, usual)
		if e != c.e || (l == nil) != (e != api.OK) {
			t.Errorf("P11.1: %s: Open: %v, %d, want %d", c.what, l, e, c.e)
			continue
		}
		if l == nil {
			continue
		}
		hasJust(t, "P11.1: "+c.what, l, 0, c.end, c.want...)
		if l.Size() != d.Used() {
			t.Errorf("P11.1: %s: what is torn is not cut off", c.what)
		}
	}
}

// TestOpenOpensAheadOfLooking: of a segment that begins too soon the torn end is cut off nevertheless, and what is behind it stays.
func TestOpenOpensAheadOfLooking(t *testing.T) {
	d := newDisk(t, 1000)
	d.Append(name(0), coded(t, full(0)))
	d.Append(name(2), coded(t, full(2))+"torn")
	d.Append(name(9), "torn")
	d.Append("p.swap", "")
	if l, e := plog.Open(d, usual); l != nil || e != api.ErrForm {
		t.Errorf("P11.1: Open: %v, %d, want nil, ErrForm", l, e)
	}
	hasFiles(t, "P11.1: what is done is done", d, map[string]string{name(0): coded(t, full(0)), name(2): coded(t, full(2)), name(9): "torn"})
}

func TestOpenDropsWhatIsAheadOfTheStart(t *testing.T) {
	for _, c := range []struct {
		start int
		left  int
		e     api.Errno
	}{{0, 3, 0}, {1, 3, 0}, {3, 3, 0}, {4, 2, 0}, {7, 2, 0}, {8, 1, 0}, {11, 1, 0}, {12, 1, 0}, {13, 1, api.ErrForm}, {1 << 40, 1, api.ErrForm}} {
		_, d := six(t, 1000)
		d.Append("p.start", eight(c.start))
		all := [][]api.Batch{{one(0, 2, 0), one(2, 2, 2)}, {one(4, 2, 4), one(6, 2, 6)}, {one(8, 2, 8), one(10, 2, 10)}}
		l, e := plog.Open(d, usual)
		if e != c.e || (l == nil) != (e != api.OK) {
			t.Errorf("P11.1: Open with the start %d: %v, %d, want %d", c.start, l, e, c.e)
		}
		if l != nil {
			hasJust(t, fmt.Sprint("P11.1: start ", c.start), l, c.start, 12, all[3-c.left:]...)
		}
		want := map[string]string{"p.start": eight(c.start)}
		for i := 3 - c.left; i < 3; i++ {
			want[name(4*i)] = coded(t, all[i]...)
		}
		hasFiles(t, fmt.Sprint("P11.1: start ", c.start), d, want)
	}
	_, d := six(t, 1000)
	d.Append("p.start", eight(12))
	d.Fuse(1)
	if l, e := plog.Open(d, usual); l != nil || e != api.ErrDown {
		t.Errorf("P11.1: Open that can't drop all: %v, %d, want nil, ErrDown", l, e)
	}
	d.Fuse(-1)
	if names := d.Names(); !slices.Equal(names, []string{name(4), name(8), "p.start"}) {
		t.Errorf("P11.1: they are not dropped from the first one on: %q", names)
	}
	d.Fuse(1)
	hasJust(t, "P11.1: with just as many changes as it needs", open(t, d, usual), 12, 12, []api.Batch{one(8, 2, 8), one(10, 2, 10)})
}

func TestExample(t *testing.T) {
	d := newDisk(t, 1000)
	l := open(t, d, usual)
	put(t, l, one(0, 1, 0), one(1, 1, 0), one(2, 1, 0))
	hasJust(t, "example 1", l, 0, 3, []api.Batch{one(0, 1, 0), one(1, 1, 0)}, []api.Batch{one(2, 1, 0)})
	hasFiles(t, "example 1", d, map[string]string{name(0): coded(t, one(0, 1, 0), one(1, 1, 0)), name(2): coded(t, one(2, 1, 0))})
}

func TestAppend(t *testing.T) {
	d := newDisk(t, 10000)
	l := open(t, d, plog.Config{Prefix: "p", Limit: 1000, Every: 20})
	end := 0
	for _, base := range []int{0, 5, -1, math.MinInt, math.MaxInt, 1 << 41} {
		b := full(end)
		b.Base = base
		if at, e := l.Append(b, base > 0); at != end || e != api.OK {
			t.Errorf("P11.2: Append with the Base %d: %d, %d, want %d", base, at, e, end)
		}
		end += 3
	}
	var want []api.Batch
	for base := 0; base < end; base += 3 {
		want = append(want, full(base))
	}
	hasJust(t, "P11.2", l, 0, end, want)
	for _, b := range []api.Batch{{}, {Span: 51, Producer: -1, Epoch: -1, Seq: -1}, {Span: 1, Producer: -1, Epoch: -1, Seq: 0}, {Span: 1, Producer: -1, Epoch: -1, Seq: -1, Records: []api.Record{{At: 1}}}} {
		if at, e := l.Append(b, true); at != 0 || e != api.ErrArg {
			t.Errorf("P11.2: Append of %+v: %d, %d, want 0, ErrArg", b, at, e)
		}
	}
	d.Fuse(0)
	if at, e := l.Append(api.Batch{}, false); at != 0 || e != api.ErrArg {
		t.Errorf("P11.2: Append of a batch that may not be on a disk that is down: %d, %d, want ErrArg", at, e)
	}
	if at, e := l.Append(full(0), false); at != 0 || e != api.ErrDown {
		t.Errorf("P11.2: Append on a disk that is down: %d, %d, want ErrDown", at, e)
	}
	d.Fuse(-1)
	hasJust(t, "P11.2: with an error", l, 0, end, want)
	hasJust(t, "P11.2: taken up again", open(t, d, plog.Config{Prefix: "p", Limit: 1000, Every: 1}), 0, end, want)
}

// TestAppendUpToTheLastPlace: the batch with the greatest Base may be, the one behind it may not.
func TestAppendUpToTheLastPlace(t *testing.T) {
	d := newDisk(t, 1000)
	d.Append("p.start", eight(1<<40-7))
	l := open(t, d, usual)
	put(t, l, small(1<<40-7, 7), small(1<<40, 50))
	if at, e := l.Append(small(0, 1), false); at != 0 || e != api.ErrArg {
		t.Errorf("P11.2: Append behind the last place: %d, %d, want 0, ErrArg", at, e)
	}
	hasJust(t, "P11.2", l, 1<<40-7, 1<<40+50, []api.Batch{small(1<<40-7, 7), small(1<<40, 50)})
}

// TestLimit has batches of 14 bytes: a segment ends with that by which it reaches the limit.
func TestLimit(t *testing.T) {
	for limit, each := range map[int]int{50: 4, 55: 4, 56: 4, 57: 5, 70: 5, 71: 6} {
		d := newDisk(t, 10000)
		l := open(t, d, plog.Config{Prefix: "p", Limit: limit, Every: 1})
		var want [][]api.Batch
		for base := range 20 {
			put(t, l, small(base, 1))
			if base%each == 0 {
				want = append(want, nil)
			}
			want[len(want)-1] = append(want[len(want)-1], small(base, 1))
			hasJust(t, fmt.Sprint("P11.2: limit ", limit), l, 0, base+1, want...)
		}
		hasJust(t, fmt.Sprint("P11.1: limit ", limit), open(t, d, plog.Config{Prefix: "p", Limit: 1000, Every: 1}), 0, 20, want...)
	}
}

// TestChangesOfAppend: one for the batch, one with sync, one for the segment ahead of a new one.
func TestChangesOfAppend(t *testing.T) {
	d := newDisk(t, 10000)
	l := open(t, d, usual)
	for i, c := range []struct {
		sync bool
		want int
	}{{false, 1}, {true, 2}, {false, 2}, {false, 1}, {true, 3}, {true, 2}, {true, 3}, {false, 1}, {false, 2}} {
		if n := changes(t, d, func() { l.Append(one(0, 1, 0), c.sync) }); n != c.want {
			t.Errorf("P11.2: Append %d: %d changes, want %d", i, n, c.want)
		}
	}
	if n := changes(t, d, func() { l.Sync() }); n != 1 {
		t.Errorf("P11.2: Sync: %d changes", n)
	}
}

func TestSync(t *testing.T) {
	d := newDisk(t, 10000)
	l := open(t, d, usual)
	put(t, l, one(0, 1, 0))
	if d.Copy().Crash(nil) != 1 {
		t.Error("P11.2: Append without sync syncs")
	}
	if at, e := l.Append(one(0, 1, 0), true); at != 1 || e != api.OK || d.Copy().Crash(nil) != 0 {
		t.Errorf("P11.2: Append with sync: %d, %d", at, e)
	}
	put(t, l, one(2, 1, 0), one(3, 1, 0))
	if l.Sync() != api.OK || d.Copy().Crash(nil) != 0 {
		t.Error("P11.2: Sync syncs not the last segment")
	}
	put(t, l, one(4, 1, 0), one(5, 1, 0), one(6, 1, 0))
	if d.Copy().Crash(nil) != 1 {
		t.Error("P11.2: a segment is not synced ahead of the next one")
	}
	d.Crash(nil)
	hasJust(t, "P11.6", open(t, d, usual), 0, 6, []api.Batch{one(0, 1, 0), one(1, 1, 0)}, []api.Batch{one(2, 1, 0), one(3, 1, 0)}, []api.Batch{one(4, 1, 0), one(5, 1, 0)}, nil)
}

// TestAppendWithoutRoom: the new segment is there, though its first batch is not, nor its file.
func TestAppendWithoutRoom(t *testing.T) {
	d := newDisk(t, 75)
	l := open(t, d, usual)
	put(t, l, one(0, 1, 0), one(1, 1, 0))
	for range 2 {
		if at, e := l.Append(one(0, 1, 0), true); at != 0 || e != api.ErrFull {
			t.Errorf("P11.2: Append without room: %d, %d, want 0, ErrFull", at, e)
		}
		hasJust(t, "P11.2: behind ErrFull", l, 0, 2, []api.Batch{one(0, 1, 0), one(1, 1, 0)}, nil)
		hasFiles(t, "P11.2: behind ErrFull", d, map[string]string{name(0): coded(t, one(0, 1, 0), one(1, 1, 0))})
	}
	if b, e := l.Read(1, 100); !same(b, []api.Batch{one(1, 1, 0)}) || e != api.OK {
		t.Errorf("P11.3: Read: %+v, %d", b, e)
	}
	if n := changes(t, d, func() { put(t, l, small(2, 1)) }); n != 1 {
		t.Errorf("P11.2: Append that goes on with the segment that is there: %d changes", n)
	}
	hasJust(t, "P11.2", l, 0, 3, []api.Batch{one(0, 1, 0), one(1, 1, 0)}, []api.Batch{small(2, 1)})
	d = newDisk(t, 10)
	l = open(t, d, usual)
	if at, e := l.Append(small(0, 1), false); at != 0 || e != api.ErrFull || len(d.Names()) != 0 {
		t.Errorf("P11.2: Append of the first batch without room: %d, %d, %q", at, e, d.Names())
	}
	hasJust(t, "P11.2: the first segment behind ErrFull", l, 0, 0, nil)
}

// TestAppendWhenTheDiskGoesDown at each place: no new segment is there, if the disk is down by the Sync of the last one.
func TestAppendWhenTheDiskGoesDown(t *testing.T) {
	for fuse, want := range [][][]api.Batch{
		{{one(0, 1, 0), one(1, 1, 0)}},
		{{one(0, 1, 0), one(1, 1, 0)}},
		{{one(0, 1, 0), one(1, 1, 0)}, {one(2, 1, 0)}},
	} {
		d := newDisk(t, 1000)
		l := open(t, d, usual)
		put(t, l, one(0, 1, 0), one(1, 1, 0))
		d.Fuse(fuse)
		at, e := l.Append(one(0, 1, 0), true)
		if at != 0 || e != api.ErrDown {
			t.Errorf("P11.2: Append with a fuse of %d: %d, %d, want 0, ErrDown", fuse, at, e)
		}
		d.Fuse(-1)
		end := 1 + len(want)
		hasJust(t, fmt.Sprint("P11.2: behind a fuse of ", fuse), l, 0, end, want...)
		put(t, l, one(end, 1, 0))
		all := []api.Batch{one(2, 1, 0), one(3, 1, 0)}
		hasJust(t, "P11.2: and up again", l, 0, end+1, want[0], all[:end-1])
	}
	d := newDisk(t, 1000)
	l := open(t, d, usual)
	d.Fuse(0)
	if at, e := l.Append(one(0, 1, 0), false); at != 0 || e != api.ErrDown {
		t.Errorf("P11.2: the first Append on a disk that is down: %d, %d", at, e)
	}
	hasJust(t, "P11.2: the first Append on a disk that is down", l, 0, 0)
}
