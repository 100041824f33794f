package index_test

import (
	"math"
	"math/rand"
	"slices"
	"testing"

	"flotsam/api"
	"flotsam/index"
)

// top is the greatest offset, place and time.
const top = 1 << 40

func open(t *testing.T, every int) *index.Index {
	t.Helper()
	x, e := index.New(every)
	if x == nil || e != api.OK {
		t.Fatalf("P9.1: New(%d): %v, %d", every, x, e)
	}
	return x
}

// with is an index to which that was added: an offset, a place and a time each.
func with(t *testing.T, every int, added ...index.Entry) *index.Index {
	t.Helper()
	x := open(t, every)
	for _, a := range added {
		if e := x.Add(a.Offset, a.Pos, a.Time); e != api.OK {
			t.Fatalf("P9.2: Add of %+v: %d", a, e)
		}
	}
	return x
}

func hasJust(t *testing.T, name string, x *index.Index, want ...index.Entry) {
	t.Helper()
	if l := x.Entries(); !slices.Equal(l, want) {
		t.Errorf("%s: Entries: %+v, want %+v", name, l, want)
	}
}

func TestNew(t *testing.T) {
	for _, every := range []int{1, 2, 200, 999999, 1000000} {
		x := open(t, every)
		if l := x.Entries(); len(l) != 0 || x.Find(top) != 0 || x.Seek(top) != 0 {
			t.Errorf("P9.1: New(%d) has something: %+v, %d, %d", every, l, x.Find(top), x.Seek(top))
		}
	}
	for _, every := range []int{0, -1, math.MinInt, 1000001, math.MaxInt} {
		if x, e := index.New(every); x != nil || e != api.ErrArg {
			t.Errorf("P9.1: New(%d): %v, %d, want nil, ErrArg", every, x, e)
		}
	}
}

func TestNil(t *testing.T) {
	var x *index.Index
	if e := x.Add(0, 0, 0); e != api.ErrArg {
		t.Errorf("P9.1: Add to nil: %d, want ErrArg", e)
	}
	for _, n := range []int{math.MinInt, 0, 7, math.MaxInt} {
		if x.Find(n) != 0 || x.Seek(n) != 0 {
			t.Errorf("P9.1: Find and Seek of %d in nil: %d, %d", n, x.Find(n), x.Seek(n))
		}
	}
	if l := x.Entries(); len(l) != 0 {
		t.Errorf("P9.1: Entries of nil: %+v", l)
	}
}

// TestNotMadeByNew has an index that nobody promised anything of: but no call panics (R1).
func TestNotMadeByNew(t *testing.T) {
	var x index.Index
	x.Find(1)
	x.Seek(1)
	x.Entries()
	x.Add(1, 1, 1)
	x.Add(2, 2, 0)
	x.Find(1)
	x.Seek(1)
	x.Entries()
}

func TestExample(t *testing.T) {
	x := with(t, 10, index.Entry{}, index.Entry{Offset: 1, Pos: 4}, index.Entry{Offset: 2, Pos: 12})
	if x.Find(1) != 0 || x.Find(2) != 12 {
		t.Errorf("P9.3: Find of 1 and 2: %d, %d, want 0, 12", x.Find(1), x.Find(2))
	}
	hasJust(t, "P9.2", x, index.Entry{}, index.Entry{Offset: 2, Pos: 12})
}

func TestFirstMayBeAnything(t *testing.T) {
	for _, n := range []int{0, 1, 77, 1<<24 + 1, 1<<32 + 1, top - 1, top} {
		for _, a := range []index.Entry{{Offset: n}, {Pos: n}, {Time: n}, {Offset: n, Pos: n, Time: n}} {
			hasJust(t, "P9.2", with(t, 1000000, a), a)
		}
	}
}

// TestRefused has a wrong Add upon an index with something, and upon one without: it is as it was behind it.
func TestRefused(t *testing.T) {
	for _, bad := range []int{-1, math.MinInt, top + 1, math.MaxInt} {
		for _, a := range []index.Entry{{Offset: bad, Pos: 20, Time: 9}, {Offset: 20, Pos: bad, Time: 9}, {Offset: 20, Pos: 20, Time: bad}, {Offset: bad, Pos: bad, Time: bad}} {
			refused(t, open(t, 1), a)
			refused(t, with(t, 1, index.Entry{Offset: 5, Pos: 6, Time: 7}), a)
		}
	}
	for _, a := range []index.Entry{{Offset: 5, Pos: 7}, {Offset: 4, Pos: 7}, {Offset: 0, Pos: top}, {Offset: 6, Pos: 6}, {Offset: 6, Pos: 5}, {Offset: top, Pos: 0}, {Offset: 5, Pos: 6}, {}} {
		refused(t, with(t, 1, index.Entry{Offset: 5, Pos: 6, Time: 7}), a)
		refused(t, with(t, 1, index.Entry{}, index.Entry{Offset: 5, Pos: 6, Time: 7}), a)
	}
	refused(t, with(t, 1, index.Entry{Offset: top, Pos: 1}), index.Entry{Offset: top, Pos: 2})
	refused(t, with(t, 1, index.Entry{Offset: 1, Pos: top}), index.Entry{Offset: 2, Pos: top})
}

func refused(t *testing.T, x *index.Index, a index.Entry) {
	t.Helper()
	before := x.Entries()
	if e := x.Add(a.Offset, a.Pos, a.Time); e != api.ErrArg {
		t.Errorf("P9.2: Add of %+v behind %+v: %d, want ErrArg", a, before, e)
	}
	hasJust(t, "P9.2: behind a wrong Add", x, before...)
}

// TestRefusedCountsForNothing: neither the offset, nor the place, nor the time of what was refused is there for what comes then.
func TestRefusedCountsForNothing(t *testing.T) {
	x := with(t, 1, index.Entry{Offset: 5, Pos: 6, Time: 7})
	refused(t, x, index.Entry{Offset: 50, Pos: 6, Time: 70})
	refused(t, x, index.Entry{Offset: 5, Pos: 60, Time: 70})
	refused(t, x, index.Entry{Offset: 50, Pos: 60, Time: -1})
	refused(t, x, index.Entry{Offset: 50, Pos: top + 1, Time: 70})
	if e := x.Add(6, 7, 0); e != api.OK {
		t.Errorf("P9.2: Add of just more: %d", e)
	}
	hasJust(t, "P9.2", x, index.Entry{Offset: 5, Pos: 6, Time: 7}, index.Entry{Offset: 6, Pos: 7, Time: 7})

	x = open(t, 1)
	refused(t, x, index.Entry{Offset: 50, Pos: top + 1, Time: 70})
	refused(t, x, index.Entry{Offset: -1, Pos: 50, Time: 70})
	if e := x.Add(0, 0, 1); e != api.OK {
		t.Errorf("P9.2: the first Add behind wrong ones: %d", e)
	}
	hasJust(t, "P9.2", x, index.Entry{Time: 1})
}

// TestWithoutEntryCounts: of what was added there need not be an entry, and it is still what was added last.
func TestWithoutEntryCounts(t *testing.T) {
	x := with(t, 100, index.Entry{Offset: 1, Pos: 10}, index.Entry{Offset: 9, Pos: 20})
	refused(t, x, index.Entry{Offset: 9, Pos: 110})
	refused(t, x, index.Entry{Offset: 5, Pos: 110})
	refused(t, x, index.Entry{Offset: 10, Pos: 20})
	refused(t, x, index.Entry{Offset: 10, Pos: 15})
	hasJust(t, "P9.2", x, index.Entry{Offset: 1, Pos: 10})
}

func TestEvery(t *testing.T) {
	// Counted from the last entry, not from what was added last; just so many bytes are enough.
	x := with(t, 10, index.Entry{Offset: 0, Pos: 3}, index.Entry{Offset: 1, Pos: 12}, index.Entry{Offset: 2, Pos: 13},
		index.Entry{Offset: 3, Pos: 14}, index.Entry{Offset: 4, Pos: 22}, index.Entry{Offset: 5, Pos: 30}, index.Entry{Offset: 6, Pos: 39}, index.Entry{Offset: 7, Pos: 40})
	hasJust(t, "P9.2", x, index.Entry{Offset: 0, Pos: 3}, index.Entry{Offset: 2, Pos: 13}, index.Entry{Offset: 5, Pos: 30}, index.Entry{Offset: 7, Pos: 40})

	x = with(t, 1, index.Entry{Offset: 0, Pos: 0}, index.Entry{Offset: 1, Pos: 1}, index.Entry{Offset: 2, Pos: 2})
	hasJust(t, "P9.2: every byte", x, index.Entry{Offset: 0, Pos: 0}, index.Entry{Offset: 1, Pos: 1}, index.Entry{Offset: 2, Pos: 2})

	x = with(t, 1000000, index.Entry{Offset: 0, Pos: 7}, index.Entry{Offset: 1, Pos: 1000006}, index.Entry{Offset: 2, Pos: 1000007}, index.Entry{Offset: 3, Pos: 2000006}, index.Entry{Offset: 4, Pos: top})
	hasJust(t, "P9.2: every million", x, index.Entry{Offset: 0, Pos: 7}, index.Entry{Offset: 2, Pos: 1000007}, index.Entry{Offset: 4, Pos: top})
}

func TestLatestTime(t *testing.T) {
	// Also of what has no entry of its own; and it never falls.
	x := with(t, 10, index.Entry{Offset: 0, Pos: 0, Time: 5}, index.Entry{Offset: 1, Pos: 4, Time: 9}, index.Entry{Offset: 2, Pos: 10, Time: 7},
		index.Entry{Offset: 3, Pos: 20, Time: 0}, index.Entry{Offset: 4, Pos: 30, Time: 10}, index.Entry{Offset: 5, Pos: 35, Time: 90})
	hasJust(t, "P9.2", x, index.Entry{Offset: 0, Pos: 0, Time: 5}, index.Entry{Offset: 2, Pos: 10, Time: 9}, index.Entry{Offset: 3, Pos: 20, Time: 9}, index.Entry{Offset: 4, Pos: 30, Time: 10})
}

func TestFind(t *testing.T) {
	x := with(t, 10, index.Entry{Offset: 5, Pos: 100}, index.Entry{Offset: 6, Pos: 105}, index.Entry{Offset: 7, Pos: 110}, index.Entry{Offset: 20, Pos: 130}, index.Entry{Offset: top, Pos: 1 << 39})
	for offset, want := range map[int]int{
		math.MinInt: 0, -1: 0, 0: 0, 4: 0, 5: 100, 6: 100, 7: 110, 8: 110, 19: 110, 20: 130, 21: 130,
		top - 1: 130, top: 1 << 39, top + 1: 1 << 39, math.MaxInt: 1 << 39,
	} {
		if pos := x.Find(offset); pos != want {
			t.Errorf("P9.3: Find(%d): %d, want %d", offset, pos, want)
		}
	}
}

func TestSeek(t *testing.T) {
	x := with(t, 10, index.Entry{Offset: 0, Pos: 100, Time: 5}, index.Entry{Offset: 1, Pos: 110, Time: 5}, index.Entry{Offset: 2, Pos: 115, Time: 30}, index.Entry{Offset: 3, Pos: 120, Time: 8}, index.Entry{Offset: 4, Pos: 130, Time: top})
	for time, want := range map[int]int{
		math.MinInt: 0, -1: 0, 0: 0, 5: 0, 6: 110, 8: 110, 30: 110, 31: 120, top: 120, top + 1: 130, math.MaxInt: 130,
	} {
		if pos := x.Seek(time); pos != want {
			t.Errorf("P9.3: Seek(%d): %d, want %d", time, pos, want)
		}
	}
}

// TestLargeNumbers has numbers side by side as great as they may be: none is taken for another one.
func TestLargeNumbers(t *testing.T) {
	x := open(t, 1)
	for i := range 100 {
		n := top - 99 + i
		if e := x.Add(n, n-1, n-2); e != api.OK {
			t.Fatalf("P9.2: Add of %d: %d", n, e)
		}
	}
	for i, e := range x.Entries() {
		n := top - 99 + i
		if e != (index.Entry{Offset: n, Pos: n - 1, Time: n - 2}) {
			t.Errorf("P9.3: entry %d: %+v", i, e)
		}
		if x.Find(n) != n-1 || x.Seek(n-1) != n-1 {
			t.Errorf("P9.3: Find(%d): %d, Seek(%d): %d, want %d", n, x.Find(n), n-1, x.Seek(n-1), n-1)
		}
	}
}

func TestAnswersAreNewMemory(t *testing.T) {
	first := index.Entry{Offset: 1, Pos: 2, Time: 3}
	x := with(t, 1, first)
	l, other := x.Entries(), x.Entries()
	for i := range l[:cap(l)] {
		l[:cap(l)][i] = index.Entry{Offset: 77, Pos: 77, Time: 77}
	}
	if !slices.Equal(other, []index.Entry{first}) {
		t.Errorf("R5: two answers share memory: %+v", other)
	}
	x.Add(5, 6, 7)
	hasJust(t, "R5", x, first, index.Entry{Offset: 5, Pos: 6, Time: 7})
	if x.Find(1) != 2 {
		t.Errorf("R5: Find: %d", x.Find(1))
	}
}

// plain is an index word by word as the document has it, with all that was added.
type plain struct {
	every   int
	added   []index.Entry
	entries []index.Entry
}

func (p *plain) add(a index.Entry) api.Errno {
	for _, n := range []int{a.Offset, a.Pos, a.Time} {
		if n < 0 || n > top {
			return api.ErrArg
		}
	}
	if n := len(p.added); n > 0 && (a.Offset <= p.added[n-1].Offset || a.Pos <= p.added[n-1].Pos) {
		return api.ErrArg
	}
	p.added = append(p.added, a)
	entry := a
	for _, x := range p.added {
		entry.Time = max(entry.Time, x.Time)
	}
	if n := len(p.entries); n == 0 || a.Pos >= p.every+p.entries[n-1].Pos {
		p.entries = append(p.entries, entry)
	}
	return api.OK
}

func (p *plain) last(fits func(index.Entry) bool) int {
	pos := 0
	for _, e := range p.entries {
		if fits(e) {
			pos = e.Pos
		}
	}
	return pos
}

// TestManySteps does the same steps, whatever comes, to an index and to one as the document has it; and what follows (P9.4) is asked of both.
func TestManySteps(t *testing.T) {
	for seed := range int64(300) {
		r := rand.New(rand.NewSource(seed))
		p := &plain{every: 1 + r.Intn(40)}
		x := open(t, p.every)
		for range 60 {
			a := index.Entry{Offset: r.Intn(5) - 1, Pos: r.Intn(30) - 1, Time: r.Intn(60) - 1}
			if n := len(p.added); n > 0 {
				a.Offset += p.added[n-1].Offset
				a.Pos += p.added[n-1].Pos
			}
			if e, want := x.Add(a.Offset, a.Pos, a.Time), p.add(a); e != want {
				t.Fatalf("P9.2: Add of %+v: %d, want %d", a, e, want)
			}
			hasJust(t, "P9.3", x, p.entries...)
		}
		for n := -2; n < 250; n++ {
			if pos, want := x.Find(n), p.last(func(e index.Entry) bool { return e.Offset <= n }); pos != want {
				t.Fatalf("P9.3: Find(%d): %d, want %d", n, pos, want)
			}
			if pos, want := x.Seek(n), p.last(func(e index.Entry) bool { return e.Time < n }); pos != want {
				t.Fatalf("P9.3: Seek(%d): %d, want %d", n, pos, want)
			}
			follows(t, x, p, n)
		}
	}
}

func follows(t *testing.T, x *index.Index, p *plain, n int) {
	t.Helper()
	last := -1
	for i, a := range p.added {
		if a.Offset <= n {
			last = i
		}
	}
	if last >= 0 && p.added[last].Pos < x.Find(n) {
		t.Fatalf("P9.4: %+v stands ahead of Find(%d): %d", p.added[last], n, x.Find(n))
	}
	first := slices.IndexFunc(p.added, func(a index.Entry) bool { return a.Time >= n })
	if first >= 0 && p.added[first].Pos < x.Seek(n) {
		t.Fatalf("P9.4: %+v stands ahead of Seek(%d): %d", p.added[first], n, x.Seek(n))
	}
}
