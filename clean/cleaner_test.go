package clean_test

import (
	"fmt"
	"math"
	"math/rand"
	"slices"
	"testing"

	"flotsam/api"
	"flotsam/clean"
	"flotsam/disk"
	"flotsam/plog"
)

// parted is a log with a segment of each of the lists of batches; their Bases must be those that the log gives them.
func parted(t *testing.T, room int, segments ...[]api.Batch) (*plog.Log, *disk.Disk) {
	t.Helper()
	d, e := disk.New(room)
	if e != api.OK {
		t.Fatalf("disk.New(%d): %d", room, e)
	}
	for _, l := range segments {
		add(t, d, l...)
	}
	return open(t, d), d
}

// add puts batches into a segment of their own, behind all that the disk's log has.
func add(t *testing.T, d *disk.Disk, l ...api.Batch) {
	t.Helper()
	full := 50
	for _, b := range l {
		log, e := plog.Open(d, plog.Config{Prefix: "p", Limit: full, Every: 20})
		if e != api.OK {
			t.Fatalf("plog.Open: %d", e)
		}
		if at, e := log.Append(b, true); at != b.Base || e != api.OK {
			t.Fatalf("plog.Append of %+v: %d, %d", b, at, e)
		}
		full = 1000000
	}
}

func open(t *testing.T, d *disk.Disk) *plog.Log {
	t.Helper()
	l, e := plog.Open(d, plog.Config{Prefix: "p", Limit: 50, Every: 20})
	if l == nil || e != api.OK {
		t.Fatalf("plog.Open: %v, %d", l, e)
	}
	return l
}

func cleaner(t *testing.T, l *plog.Log, before int) *clean.Cleaner {
	t.Helper()
	c, e := clean.New(l, before)
	if c == nil || e != api.OK {
		t.Fatalf("P12.3: New: %v, %d", c, e)
	}
	return c
}

// steps are so many that tell true, and then one that tells false.
func steps(t *testing.T, c *clean.Cleaner, want int) {
	t.Helper()
	for i := range want + 2 {
		if more, e := c.Step(); more != (i < want) || e != api.OK {
			t.Errorf("P12.3: Step %d: %t, %d, want %t", i, more, e, i < want)
		}
	}
}

// changes counts by a fuse how many changes of the disk something makes.
func changes(d *disk.Disk, do func()) int {
	const many = 1000
	d.Fuse(many)
	do()
	n := 0
	for d.Up() {
		d.Append("counts", "")
		n++
	}
	d.Fuse(-1)
	d.Drop("counts")
	return many - n
}

func segments(l *plog.Log) [][]api.Batch {
	var all [][]api.Batch
	for i := 0; ; i++ {
		b, ok := l.Segment(i)
		if !ok {
			return all
		}
		all = append(all, b)
	}
}

func hasJust(t *testing.T, name string, l *plog.Log, want ...[]api.Batch) {
	t.Helper()
	if got := segments(l); !slices.EqualFunc(got, want, same) {
		t.Errorf("%s: segments %+v, want %+v", name, got, want)
	}
}

// long alone has the bytes of a segment.
const long = "a value of so many bytes that a segment is full of it"

func v(key string) api.Record { return set(key, long) }

func TestNew(t *testing.T) {
	if c, e := clean.New(nil, 0); c != nil || e != api.ErrArg {
		t.Errorf("P12.3: New of nil: %v, %d, want nil, ErrArg", c, e)
	}
	var none *clean.Cleaner
	if more, e := none.Step(); more || e != api.ErrArg {
		t.Errorf("P12.3: Step of nil: %t, %d, want false, ErrArg", more, e)
	}
	// R1 alone says something of these: that they don't panic.
	new(clean.Cleaner).Step()
	steps(t, cleaner(t, &plog.Log{}, 0), 0)
}

func TestSteps(t *testing.T) {
	for n := range 5 {
		var l [][]api.Batch
		for i := range n {
			l = append(l, []api.Batch{of(2*i, v("a"), v("b"))})
		}
		log, d := parted(t, 10000, l...)
		c := cleaner(t, log, 0)
		// Of none but the last segment something would be left: so none is changed.
		if n := changes(d, func() { steps(t, c, max(n-1, 0)) }); n != 0 {
			t.Errorf("P12.3: steps that have nothing to do: %d changes", n)
		}
		hasJust(t, "P12.3", log, l...)
	}
}

// TestStepLeavesWhatWouldBeEmpty as it is, also where that by which it is old goes: what the document says of such a segment has no exception.
func TestStepLeavesWhatWouldBeEmpty(t *testing.T) {
	l := [][]api.Batch{{of(0, v("a"))}, {of(1, gone("a", 3), v("b"))}, {of(3, v("c"))}}
	log, _ := parted(t, 10000, l...)
	steps(t, cleaner(t, log, 4), 2)
	hasJust(t, "P12.3", log, l[0], []api.Batch{having(l[1][0], at(1, v("b")))}, l[2])
}

// TestStepByStep: each Step cleans a segment, by one Swap, if it changes and something of it is left.
func TestStepByStep(t *testing.T) {
	l := [][]api.Batch{
		{of(0, v("a"), v("b")), of(2, v("a"))},
		{of(3, v("c"), bare("x"))},
		{of(5, v("a"), v("d")), by(4, of(7, v("b")))},
		{of(8, v("b"))},
		{of(9, gone("f", 3)), of(10, gone("g", 4), bare(long))},
		{of(12, v("a"), v("a"), v("b"), gone("e", 0))},
	}
	log, d := parted(t, 10000, l...)
	c := cleaner(t, log, 4)
	hasJust(t, "P12.3: New", log, l...)
	for i, after := range [][]api.Batch{
		l[0],
		l[1],
		{having(of(5, v("a"), v("d")), at(1, v("d"))), having(by(4, of(7, v("b"))))},
		l[3],
		{of(10, gone("g", 4), bare(long))},
	} {
		want := 3
		if same(after, l[i]) {
			want = 0
		}
		n := changes(d, func() {
			if more, e := c.Step(); !more || e != api.OK {
				t.Errorf("P12.3: Step %d: %t, %d", i, more, e)
			}
		})
		if n != want {
			t.Errorf("P12.3: Step %d: %d changes, want %d", i, n, want)
		}
		l[i] = after
		hasJust(t, fmt.Sprint("P12.3: Step ", i), log, l...)
	}
	steps(t, c, 0)
	hasJust(t, "P12.3: taken up again", open(t, d), l...)
	if n := changes(d, func() { steps(t, cleaner(t, log, 4), 5) }); n != 0 {
		t.Errorf("P12.4: cleaned again: %d changes", n)
	}
}

// TestStepCleansWhatThereWas: what has come since New makes nothing old, and is not cleaned.
func TestStepCleansWhatThereWas(t *testing.T) {
	log, _ := parted(t, 10000, []api.Batch{of(0, v("a"), v("b"))}, []api.Batch{of(2, v("a"))})
	c := cleaner(t, log, 0)
	for _, b := range []api.Batch{of(3, v("b"), v("c")), of(5, v("c"))} {
		if at, e := log.Append(b, false); at != b.Base || e != api.OK {
			t.Fatalf("plog.Append: %d, %d", at, e)
		}
	}
	steps(t, c, 1)
	hasJust(t, "P12.3", log, []api.Batch{having(of(0, v("a"), v("b")), at(1, v("b")))}, []api.Batch{of(2, v("a"))}, []api.Batch{of(3, v("b"), v("c"))}, []api.Batch{of(5, v("c"))})
	c = cleaner(t, log, 0)
	steps(t, c, 3)
	hasJust(t, "P12.3: a new cleaner", log, []api.Batch{having(of(0, v("a"), v("b")), at(1, v("b")))}, []api.Batch{of(2, v("a"))}, []api.Batch{having(of(3, v("b"), v("c")), at(0, v("b")))}, []api.Batch{of(5, v("c"))})
}

// TestStepKeepsLastBatches: of the last batch of a producer also the empty rest stays; but not, if one of them comes in the last segment.
func TestStepKeepsLastBatches(t *testing.T) {
	log, _ := parted(t, 10000,
		[]api.Batch{by(1, of(0, v("a"))), by(2, of(1, v("a"))), of(2, v("b")), by(3, of(3, v("a")))},
		[]api.Batch{by(2, of(4, v("a")))},
	)
	steps(t, cleaner(t, log, 0), 1)
	hasJust(t, "P12.3", log, []api.Batch{having(by(1, of(0, v("a")))), of(2, v("b")), having(by(3, of(3, v("a"))))}, []api.Batch{by(2, of(4, v("a")))})
}

// TestStepBehindTheStart: what ends ahead of the log's start is not looked at, and nothing is left of it where a segment is swapped.
func TestStepBehindTheStart(t *testing.T) {
	l := [][]api.Batch{
		{of(0, v("a")), of(1, v("b"), v("c")), of(3, v("d"))},
		{of(4, v("a"))},
		{of(5, v("d"))},
	}
	for start, want := range map[int][]api.Batch{
		0: {of(1, v("b"), v("c"))},
		1: {of(1, v("b"), v("c"))},
		2: {of(1, v("b"), v("c"))},
		// Nothing would be left.
		3: l[0],
	} {
		log, _ := parted(t, 10000, l...)
		if e := log.Advance(start); e != api.OK {
			t.Fatalf("plog.Advance: %d", e)
		}
		steps(t, cleaner(t, log, 0), 2)
		hasJust(t, fmt.Sprint("P12.3: start ", start), log, want, l[1], l[2])
	}
	log, d := parted(t, 10000, []api.Batch{of(0, v("a")), of(1, v("b"))}, []api.Batch{of(2, v("c"))})
	log.Advance(1)
	if n := changes(d, func() { steps(t, cleaner(t, log, 0), 1) }); n != 3 {
		t.Errorf("P12.3: a segment of which only what is ahead of the start goes: %d changes, want 3", n)
	}
	hasJust(t, "P12.3: only what is ahead of the start goes", log, []api.Batch{of(1, v("b"))}, []api.Batch{of(2, v("c"))})
}

func TestStepOfAnotherStart(t *testing.T) {
	l := [][]api.Batch{{of(0, v("a"), v("b"))}, {of(2, v("a"))}, {of(3, v("c"))}}
	for _, taken := range []int{0, 1, 2} {
		log, d := parted(t, 10000, l...)
		c := cleaner(t, log, 0)
		for range taken {
			c.Step()
		}
		was := segments(log)
		if e := log.Advance(1); e != api.OK {
			t.Fatalf("plog.Advance: %d", e)
		}
		n := changes(d, func() {
			for range 2 {
				if more, e := c.Step(); more || e != api.ErrArg {
					t.Errorf("P12.3: Step behind Advance: %t, %d, want false, ErrArg", more, e)
				}
			}
		})
		if n != 0 {
			t.Errorf("P12.3: Step behind Advance: %d changes", n)
		}
		hasJust(t, "P12.3: Step behind Advance", log, was...)
	}
	// To begin where it began is no other start.
	log, _ := parted(t, 10000, l...)
	c := cleaner(t, log, 0)
	log.Advance(0)
	steps(t, c, 2)
	hasJust(t, "P12.3", log, []api.Batch{having(of(0, v("a"), v("b")), at(1, v("b")))}, l[1], l[2])
}

// TestStepWhenSegmentsGo: a segment that ends ahead of the start goes, while the start stays: all others stand one place further ahead.
func TestStepWhenSegmentsGo(t *testing.T) {
	l := [][]api.Batch{{of(0, v("a")), of(1, v("b"))}, {of(2, v("a"), v("c"))}, {of(4, v("d"), v("a"))}, {of(6, v("c"), v("d"))}}
	for taken := range 4 {
		log, _ := parted(t, 10000, l...)
		log.Advance(1)
		if e := log.Swap(0, l[0][:1]); e != api.OK {
			t.Fatalf("plog.Swap: %d", e)
		}
		c := cleaner(t, log, 0)
		for range taken {
			c.Step()
		}
		log.Advance(1)
		if b, _ := log.Segment(0); len(b) == 0 || b[0].Base != 2 {
			t.Fatalf("the first segment has not gone: %+v", b)
		}
		steps(t, c, 3-taken)
		hasJust(t, fmt.Sprint("P12.3: gone behind steps ", taken), log, l[1], []api.Batch{having(of(4, v("d"), v("a")), at(1, v("a")))}, l[3])
	}
}

func TestStepTellsErrors(t *testing.T) {
	l := [][]api.Batch{{of(0, v("a"), v("b"))}, {of(2, v("a"), v("c"))}, {of(4, v("c"))}}
	cleaned := [][]api.Batch{{having(of(0, v("a"), v("b")), at(1, v("b")))}, {having(of(2, v("a"), v("c")), at(0, v("a")))}, {of(4, v("c"))}}
	for fuse := range 4 {
		log, d := parted(t, 10000, l...)
		c := cleaner(t, log, 0)
		d.Fuse(fuse)
		for range 2 {
			if more, e := c.Step(); more || e != api.ErrDown {
				t.Errorf("P12.3: Step with a fuse of %d: %t, %d, want false, ErrDown", fuse, more, e)
			}
		}
		d.Fuse(-1)
		// What could not be swapped is the next one still.
		steps(t, c, 2)
		hasJust(t, fmt.Sprint("P12.3: behind a fuse of ", fuse), log, cleaned...)
	}
	log, d := parted(t, 10000, l...)
	d.Append("fills", string(make([]byte, 10000-d.Used())))
	c := cleaner(t, log, 0)
	if more, e := c.Step(); more || e != api.ErrFull {
		t.Errorf("P12.3: Step without room: %t, %d, want false, ErrFull", more, e)
	}
	hasJust(t, "P12.3: without room", log, l...)
	d.Drop("fills")
	steps(t, c, 2)
	hasJust(t, "P12.3: with room again", log, cleaned...)
	// A step that has nothing to do needs no disk.
	c = cleaner(t, log, 0)
	d.Fuse(0)
	steps(t, c, 2)
}

// TestCleanOfManyLogs cleans logs, whatever is in them, and asks for each segment whether that is left which Clean leaves.
func TestCleanOfManyLogs(t *testing.T) {
	for seed := range int64(400) {
		r := rand.New(rand.NewSource(seed))
		d, _ := disk.New(20000)
		log, e := plog.Open(d, plog.Config{Prefix: "p", Limit: 50 + r.Intn(100), Every: 20})
		if e != api.OK {
			t.Fatalf("plog.Open: %d", e)
		}
		for range r.Intn(30) {
			if _, e := log.Append(someBatch(r, 0), r.Intn(5) == 0); e != api.OK {
				t.Fatalf("plog.Append: %d", e)
			}
		}
		for range r.Intn(3) {
			log.Advance(log.Start() + r.Intn(min(10, log.End()-log.Start()+1)))
			time := r.Intn(25) - 2
			want, whole := cleaned(log, time)
			n := max(len(want)-1, 0)
			all, _ := log.Read(log.Start(), math.MaxInt)
			steps(t, cleaner(t, log, time), n)
			hasJust(t, "P12.3", log, want...)
			left, _ := log.Read(log.Start(), math.MaxInt)
			for _, key := range []string{"", "a", "b", "c", "dd", "e"} {
				latest(t, all, left, key)
			}
			inOrder(t, all, left)
			// What stays in a segment of which nothing would be left may be the last of its key, when that by which it was old is gone.
			if n := changes(d, func() { steps(t, cleaner(t, log, time), n) }); whole && n != 0 {
				t.Fatalf("P12.4: cleaned again: %d changes", n)
			}
			if t.Failed() {
				t.FailNow()
			}
		}
	}
}

// cleaned is what is to be left of each of a log's segments, and whether of each of them there is something.
func cleaned(l *plog.Log, before int) ([][]api.Batch, bool) {
	want, whole := segments(l), true
	all, _ := l.Read(l.Start(), math.MaxInt)
	for i := range want[:max(len(want)-1, 0)] {
		last := want[len(want)-1][0].Base
		left := slices.DeleteFunc(plainly(all, last, before), func(b api.Batch) bool {
			return !slices.ContainsFunc(want[i], func(c api.Batch) bool { return c.Base == b.Base })
		})
		if len(left) > 0 {
			want[i] = left
		} else {
			whole = false
		}
	}
	return want, whole
}

// inOrder asks whether all that is left is something of what there was, in its order.
func inOrder(t *testing.T, all []api.Batch, left []api.Batch) {
	t.Helper()
	type stands struct {
		at    int
		value string
	}
	places := func(l []api.Batch) []stands {
		var p []stands
		for _, b := range l {
			for _, r := range b.Records {
				p = append(p, stands{b.Base + r.At, r.Key + "=" + r.Value})
			}
		}
		return p
	}
	was := places(all)
	for _, p := range places(left) {
		i := slices.Index(was, p)
		if i < 0 {
			t.Fatalf("P12.4: %+v was not there, or stood in another order", p)
		}
		was = was[i+1:]
	}
}
