package plog_test

import (
	"fmt"
	"math"
	"slices"
	"testing"

	"flotsam/api"
	"flotsam/plog"
)

func TestRead(t *testing.T) {
	l, _ := six(t, 1000)
	var all []api.Batch
	for base := 0; base < 12; base += 2 {
		all = append(all, one(base, 2, base))
	}
	for from := range 13 {
		first := from / 2
		for most := -1; most < 200; most++ {
			n := min(max(most/30, 1), 6-first)
			if got, e := l.Read(from, most); !same(got, all[first:first+n]) || e != api.OK {
				t.Errorf("P11.3: Read(%d, %d): %+v, %d, want %d", from, most, got, e, n)
			}
		}
		for most, n := range map[int]int{math.MinInt: min(1, 6-first), math.MaxInt: 6 - first} {
			if got, e := l.Read(from, most); !same(got, all[first:first+n]) || e != api.OK {
				t.Errorf("P11.3: Read(%d, %d): %+v, %d, want %d", from, most, got, e, n)
			}
		}
	}
	l.Advance(3)
	for from, want := range map[int]api.Errno{math.MinInt: api.ErrRange, -1: api.ErrRange, 0: api.ErrRange, 2: api.ErrRange, 3: api.OK, 12: api.OK, 13: api.ErrRange, math.MaxInt: api.ErrRange} {
		if got, e := l.Read(from, 1000); e != want || e != api.OK && len(got) != 0 {
			t.Errorf("P11.3: Read(%d) behind Advance(3): %v, %d, want %d", from, got, e, want)
		}
	}
	if got, e := l.Read(3, 30); !same(got, all[1:2]) || e != api.OK {
		t.Errorf("P11.3: Read of the batch in which the log starts: %+v, %d", got, e)
	}
}

// TestReadStopsAtTheFirstThatIsTooLong, in a segment or at the beginning of the next one: a shorter one behind it is not taken in its place.
func TestReadStopsAtTheFirstThatIsTooLong(t *testing.T) {
	for _, l := range [][]api.Batch{
		{small(0, 1), one(1, 1, 0), small(2, 1), small(3, 1)},
		{small(0, 1), one(1, 1, 0), full(2), small(5, 1), small(6, 1)},
		{full(0), small(3, 1), one(4, 1, 0), small(5, 1)},
	} {
		d := newDisk(t, 1000)
		log := open(t, d, usual)
		put(t, log, l...)
		for first := range l {
			for most := range 200 {
				n := 1
				for first+n < len(l) && len(coded(t, l[first:first+n+1]...)) <= most {
					n++
				}
				if got, e := log.Read(l[first].Base, most); !same(got, l[first:first+n]) || e != api.OK {
					t.Errorf("P11.3: Read(%d, %d): %+v, %d, want %d", l[first].Base, most, got, e, n)
				}
			}
		}
	}
}

// TestReadOverGaps reads over segments without batches, and over places that are in none.
func TestReadOverGaps(t *testing.T) {
	d := newDisk(t, 1000)
	for base, bytes := range map[int]string{2: "", 5: coded(t, small(6, 1)), 8: "", 20: coded(t, small(25, 2)), 30: ""} {
		d.Append(name(base), bytes)
	}
	l := open(t, d, usual)
	hasJust(t, "P11.1", l, 0, 30, nil, []api.Batch{small(6, 1)}, nil, []api.Batch{small(25, 2)}, nil)
	for from, want := range map[int][]api.Batch{0: {small(6, 1), small(25, 2)}, 6: {small(6, 1), small(25, 2)}, 7: {small(25, 2)}, 26: {small(25, 2)}, 27: {}, 30: {}} {
		if got, e := l.Read(from, 28); !same(got, want) || e != api.OK {
			t.Errorf("P11.3: Read(%d): %+v, %d, want %+v", from, got, e, want)
		}
		if got, e := l.Read(from, 27); !same(got, want[:min(1, len(want))]) || e != api.OK {
			t.Errorf("P11.3: Read(%d, 27): %+v, %d", from, got, e)
		}
	}
	for i, want := range [][]api.Batch{{}, {small(6, 1)}, {}, {small(25, 2)}, {}} {
		if got, ok := l.Segment(i); !ok || !same(got, want) {
			t.Errorf("P11.3: Segment(%d): %+v, %t", i, got, ok)
		}
	}
}

func TestSegment(t *testing.T) {
	l, _ := six(t, 1000)
	l.Advance(6)
	for i, want := range [][]api.Batch{{one(4, 2, 4), one(6, 2, 6)}, {one(8, 2, 8), one(10, 2, 10)}} {
		if got, ok := l.Segment(i); !ok || !same(got, want) {
			t.Errorf("P11.3: Segment(%d): %+v, %t, want %+v, also what is ahead of the start", i, got, ok, want)
		}
	}
	for _, i := range []int{2, 3, -1, math.MinInt, math.MaxInt} {
		if got, ok := l.Segment(i); ok || len(got) != 0 {
			t.Errorf("P11.3: Segment(%d): %+v, %t, want none", i, got, ok)
		}
	}
}

func TestAfter(t *testing.T) {
	d := newDisk(t, 1000)
	l := open(t, d, usual)
	put(t, l, one(0, 2, 7), one(2, 2, 3), one(4, 2, 9), one(6, 2, 5), one(8, 2, 20), small(10, 1))
	for start, want := range map[int]map[int]int{
		0: {math.MinInt: 0, 0: 0, 7: 0, 8: 4, 9: 4, 10: 8, 20: 8, 21: -1, math.MaxInt: -1},
		1: {0: 1, 7: 1, 8: 4, 10: 8, 21: -1},
		// The first segment is there still, with what is ahead of the start.
		3: {0: 3, 7: 3, 8: 4},
		4: {0: 4, 9: 4, 10: 8},
		5: {0: 5, 9: 5, 10: 8, 21: -1},
		// The last segment is there, though all of it is ahead of the start.
		11: {0: 11, 20: 11, 21: -1},
	} {
		c := open(t, d.Copy(), usual)
		if e := c.Advance(start); e != api.OK {
			t.Fatalf("P11.4: Advance(%d): %d", start, e)
		}
		for time, base := range want {
			at, ok := c.After(time)
			if at != max(base, 0) || ok != (base >= 0) {
				t.Errorf("P11.3: After(%d) of a log that starts at %d: %d, %t, want %d", time, start, at, ok, base)
			}
		}
	}
}

func TestAdvance(t *testing.T) {
	all := [][]api.Batch{{one(0, 2, 0), one(2, 2, 2)}, {one(4, 2, 4), one(6, 2, 6)}, {one(8, 2, 8), one(10, 2, 10)}}
	for to, left := range map[int]int{0: 3, 1: 3, 3: 3, 4: 2, 5: 2, 7: 2, 8: 1, 9: 1, 11: 1, 12: 1} {
		l, d := six(t, 1000)
		n := changes(t, d, func() {
			if e := l.Advance(to); e != api.OK {
				t.Errorf("P11.4: Advance(%d): %d", to, e)
			}
		})
		if want := 4 + 3 - left; n != want {
			t.Errorf("P11.4: Advance(%d): %d changes, want %d", to, n, want)
		}
		hasJust(t, fmt.Sprint("P11.4: Advance to ", to), l, to, 12, all[3-left:]...)
		want := map[string]string{"p.start": eight(to)}
		for i := 3 - left; i < 3; i++ {
			want[name(4*i)] = coded(t, all[i]...)
		}
		hasFiles(t, fmt.Sprint("P11.4: Advance to ", to), d, want)
		if d.Copy().Crash(nil) != 0 {
			t.Error("P11.4: Advance leaves something that waits")
		}
		for _, wrong := range []int{to - 1, -1, 13, math.MinInt, math.MaxInt} {
			if e := l.Advance(wrong); e != api.ErrRange {
				t.Errorf("P11.4: Advance(%d) of %d to 12: %d, want ErrRange", wrong, to, e)
			}
		}
		d.Crash(nil)
		hasJust(t, "P11.6", open(t, d, usual), to, 12, all[3-left:]...)
	}
}

// TestAdvanceAgain: to the place where the log begins already it goes all the same, and what is on its way from an error is dropped.
func TestAdvanceAgain(t *testing.T) {
	d := newDisk(t, 1000)
	l := open(t, d, usual)
	for want, way := range map[int]bool{3: false, 4: true} {
		if way {
			d.Append("p.new", "something else")
		}
		if n := changes(t, d, func() { l.Advance(0) }); n != want {
			t.Errorf("P11.4: Advance of an empty log: %d changes, want %d", n, want)
		}
		hasFiles(t, "P11.4: Advance of an empty log", d, map[string]string{"p.start": eight(0)})
	}
	d.Fuse(0)
	if e := l.Advance(1); e != api.ErrRange {
		t.Errorf("P11.4: Advance to a wrong place on a disk that is down: %d, want ErrRange", e)
	}
	if e := l.Advance(0); e != api.ErrDown {
		t.Errorf("P11.4: Advance on a disk that is down: %d, want ErrDown", e)
	}
}

// TestAdvanceWhenTheDiskGoesDown at each place: the start is the new one as soon as its file is, segments go one by one.
func TestAdvanceWhenTheDiskGoesDown(t *testing.T) {
	for fuse, c := range []struct {
		start int
		left  int
		names []string
	}{
		{0, 3, []string{name(0), name(4), name(8)}},
		{0, 3, []string{name(0), name(4), name(8)}},
		{0, 3, []string{name(0), name(4), name(8), "p.new"}},
		{0, 3, []string{name(0), name(4), name(8), "p.new"}},
		{9, 3, []string{name(0), name(4), name(8), "p.start"}},
		{9, 2, []string{name(4), name(8), "p.start"}},
	} {
		l, d := six(t, 1000)
		d.Fuse(fuse)
		if e := l.Advance(9); e != api.ErrDown {
			t.Errorf("P11.4: Advance with a fuse of %d: %d, want ErrDown", fuse, e)
		}
		d.Fuse(-1)
		_, there := l.Segment(c.left - 1)
		if _, more := l.Segment(c.left); l.Start() != c.start || !there || more {
			t.Errorf("P11.4: behind a fuse of %d: start %d, want %d with %d segments", fuse, l.Start(), c.start, c.left)
		}
		if names := d.Names(); !slices.Equal(names, c.names) {
			t.Errorf("P11.4: behind a fuse of %d: %q, want %q", fuse, names, c.names)
		}
		if got, e := l.Read(c.start, 1000); e != api.OK || got[0].Base != max(c.start-1, 0) {
			t.Errorf("P11.3: Read behind a fuse of %d: %+v, %d", fuse, got, e)
		}
		if e := l.Advance(9); e != api.OK {
			t.Errorf("P11.4: Advance, up again: %d", e)
		}
		hasJust(t, "P11.4: up again", l, 9, 12, []api.Batch{one(8, 2, 8), one(10, 2, 10)})
		if names := d.Names(); !slices.Equal(names, []string{name(8), "p.start"}) {
			t.Errorf("P11.4: up again: %q", names)
		}
	}
}

func TestAdvanceWithoutRoom(t *testing.T) {
	l, d := six(t, 187)
	if e := l.Advance(9); e != api.ErrFull {
		t.Errorf("P11.4: Advance without room: %d, want ErrFull", e)
	}
	if l.Start() != 0 || len(d.Names()) != 3 || d.Copy().Crash(nil) != 0 {
		t.Errorf("P11.4: Advance without room: start %d, %q; or the last segment is not synced first", l.Start(), d.Names())
	}
	l, _ = six(t, 188)
	if e := l.Advance(9); e != api.OK || l.Start() != 9 {
		t.Errorf("P11.4: Advance with just enough room: %d", e)
	}
}

func TestRetain(t *testing.T) {
	all := [][]api.Batch{{one(0, 2, 0), one(2, 2, 2)}, {one(4, 2, 4), one(6, 2, 6)}, {one(8, 2, 8), one(10, 2, 10)}}
	for most, went := range map[int]int{0: 2, 1: 2, 59: 2, 60: 2, 61: 2, 119: 2, 120: 1, 179: 1, 180: 0, 181: 0, math.MaxInt: 0} {
		l, d := six(t, 1000)
		d.Append("other", "stays")
		count := changes(t, d, func() {
			if n, e := l.Retain(most); n != went || e != api.OK {
				t.Errorf("P11.4: Retain(%d): %d, %d, want %d", most, n, e, went)
			}
		})
		if count != 5*went {
			t.Errorf("P11.4: Retain(%d): %d changes, want %d", most, count, 5*went)
		}
		hasJust(t, fmt.Sprint("P11.4: Retain ", most), l, 4*went, 12, all[went:]...)
		if n, e := l.Retain(most); n != 0 || e != api.OK {
			t.Errorf("P11.4: Retain(%d) again: %d, %d", most, n, e)
		}
		d.Crash(nil)
		if went > 0 {
			hasJust(t, "P11.6", open(t, d, usual), 4*went, 12, all[went:]...)
		}
	}
	l, d := six(t, 1000)
	d.Fuse(0)
	for _, most := range []int{-1, math.MinInt} {
		if n, e := l.Retain(most); n != 0 || e != api.ErrArg {
			t.Errorf("P11.4: Retain(%d): %d, %d, want 0, ErrArg", most, n, e)
		}
	}
	if n, e := l.Retain(0); n != 0 || e != api.ErrDown {
		t.Errorf("P11.4: Retain on a disk that is down: %d, %d", n, e)
	}
	if n, e := l.Retain(180); n != 0 || e != api.OK {
		t.Errorf("P11.4: Retain that has nothing to do on a disk that is down: %d, %d", n, e)
	}
	// One segment has gone, when the disk goes down.
	d.Fuse(7)
	if n, e := l.Retain(0); n != 0 || e != api.ErrDown {
		t.Errorf("P11.4: Retain that comes to an error: %d, %d, want 0, ErrDown", n, e)
	}
	d.Fuse(-1)
	hasJust(t, "P11.4: behind the error", l, 4, 12, all[1:]...)
}

// TestRetainBehindTheStart has segments ahead of the start, since they could not be dropped: all of these go at once.
func TestRetainBehindTheStart(t *testing.T) {
	l, d := six(t, 1000)
	d.Fuse(4)
	if e := l.Advance(9); e != api.ErrDown || l.Start() != 9 || l.Size() != 180 {
		t.Fatalf("P11.4: Advance: %d, %d, %d", e, l.Start(), l.Size())
	}
	d.Fuse(-1)
	if n, e := l.Retain(150); n != 2 || e != api.OK {
		t.Errorf("P11.4: Retain: %d, %d, want 2", n, e)
	}
	hasJust(t, "P11.4", l, 9, 12, []api.Batch{one(8, 2, 8), one(10, 2, 10)})
	if bytes, _ := d.Read("p.start"); bytes != eight(9) {
		t.Errorf("P11.4: the start is %x", bytes)
	}
}

// TestRetainWithinTheFirst: the start is within the first segment, and goes to the second one.
func TestRetainWithinTheFirst(t *testing.T) {
	l, _ := six(t, 1000)
	l.Advance(3)
	if n, e := l.Retain(179); n != 1 || e != api.OK {
		t.Errorf("P11.4: Retain: %d, %d, want 1", n, e)
	}
	hasJust(t, "P11.4", l, 4, 12, []api.Batch{one(4, 2, 4), one(6, 2, 6)}, []api.Batch{one(8, 2, 8), one(10, 2, 10)})
}

func TestSwap(t *testing.T) {
	rest := [][]api.Batch{{one(4, 2, 4), one(6, 2, 6)}, {one(8, 2, 8), one(10, 2, 10)}}
	for _, b := range [][]api.Batch{
		{one(0, 2, 0)}, {one(2, 2, 2)}, {one(0, 2, 0), one(2, 2, 2)}, {small(0, 4)}, {small(3, 1)}, {small(0, 1), small(3, 1)}, {full(1)},
		{small(0, 1), small(1, 1), small(2, 1), small(3, 1)},
	} {
		l, d := six(t, 1000)
		n := changes(t, d, func() {
			if e := l.Swap(0, b); e != api.OK {
				t.Errorf("P11.5: Swap of %+v: %d", b, e)
			}
		})
		if n != 3 {
			t.Errorf("P11.5: Swap: %d changes, want 3", n)
		}
		hasJust(t, "P11.5: Swap", l, 0, 12, append([][]api.Batch{b}, rest...)...)
		hasFiles(t, "P11.5: Swap", d, map[string]string{name(0): coded(t, b...), name(4): coded(t, rest[0]...), name(8): coded(t, rest[1]...)})
		if d.Copy().Crash(nil) != 1 {
			t.Error("P11.5: Swap leaves not just the last segment as it was, or what it swapped waits")
		}
		hasJust(t, "P11.1: behind Swap", open(t, d, usual), 0, 12, append([][]api.Batch{b}, rest...)...)
	}
	l, d := six(t, 1000)
	d.Append("p.swap", "something else")
	if n := changes(t, d, func() { l.Swap(1, []api.Batch{small(7, 1)}) }); n != 4 {
		t.Errorf("P11.5: Swap with something on its way: %d changes, want 4", n)
	}
	hasJust(t, "P11.5: Swap with something on its way", l, 0, 12, []api.Batch{one(0, 2, 0), one(2, 2, 2)}, []api.Batch{small(7, 1)}, rest[1])
}

// TestChangesOfSwap: three, also where the last segment but one is to end sooner.
func TestChangesOfSwap(t *testing.T) {
	l, d := six(t, 1000)
	for _, b := range []api.Batch{small(7, 1), small(6, 1), small(4, 1)} {
		n := changes(t, d, func() {
			if e := l.Swap(1, []api.Batch{b}); e != api.OK {
				t.Errorf("P11.5: Swap: %d", e)
			}
		})
		if n != 3 {
			t.Errorf("P11.5: Swap to end at %d: %d changes, want 3", b.Base+1, n)
		}
	}
}

func TestSwapRefuses(t *testing.T) {
	all := [][]api.Batch{{one(0, 2, 0), one(2, 2, 2)}, {one(4, 2, 4), one(6, 2, 6)}, {one(8, 2, 8), one(10, 2, 10)}}
	l, d := six(t, 1000)
	d.Append("p.swap", "stays")
	for _, fuse := range []int{-1, 0} {
		d.Fuse(fuse)
		for _, c := range []struct {
			i int
			b []api.Batch
		}{
			{-1, all[0]}, {2, all[2]}, {3, all[2]}, {math.MinInt, all[0]}, {math.MaxInt, all[0]},
			{0, nil}, {1, []api.Batch{}}, {1, all[0]}, {0, all[1]}, {0, []api.Batch{small(0, 5)}}, {0, []api.Batch{small(0, 1), small(3, 2)}},
			{1, []api.Batch{small(3, 1)}}, {1, []api.Batch{small(3, 1), small(4, 1)}}, {1, []api.Batch{small(5, 2), small(6, 1)}}, {1, []api.Batch{small(5, 1), small(4, 1)}}, {1, []api.Batch{small(5, 1), small(5, 1)}},
			{1, []api.Batch{{}}}, {1, []api.Batch{small(4, 1), {Base: 5, Span: 1, Producer: -1}}}, {1, []api.Batch{small(4, 0)}}, {0, []api.Batch{small(-1, 1)}},
			{1, []api.Batch{{Base: 4, Span: 1, Producer: -1, Epoch: -1, Seq: -1, Records: []api.Record{{At: 1}}}}},
		} {
			if e := l.Swap(c.i, c.b); e != api.ErrArg {
				t.Errorf("P11.5: Swap(%d, %+v): %d, want ErrArg", c.i, c.b, e)
			}
		}
	}
	if e := l.Swap(0, all[0]); e != api.ErrDown {
		t.Errorf("P11.5: Swap on a disk that is down: %d, want ErrDown", e)
	}
	d.Fuse(-1)
	hasJust(t, "P11.5: refused", l, 0, 12, all...)
	if bytes, _ := d.Read("p.swap"); bytes != "stays" {
		t.Errorf("P11.5: refused, but .swap is %q", bytes)
	}
	one := open(t, newDisk(t, 1000), usual)
	put(t, one, small(0, 1))
	if e := one.Swap(0, []api.Batch{small(0, 1)}); e != api.ErrArg {
		t.Errorf("P11.5: Swap of the only segment: %d, want ErrArg", e)
	}
	l, _ = six(t, 180+43)
	if e := l.Swap(0, []api.Batch{one3(0), small(1, 1)}); e != api.ErrFull {
		t.Errorf("P11.5: Swap without room: %d, want ErrFull", e)
	}
	hasJust(t, "P11.5: without room", l, 0, 12, all...)
	l, _ = six(t, 180+44)
	if e := l.Swap(0, []api.Batch{one3(0), small(1, 1)}); e != api.OK {
		t.Errorf("P11.5: Swap with just enough room: %d", e)
	}
}

func one3(base int) api.Batch { return one(base, 1, 3) }

// TestSwapWhenTheDiskGoesDown at each place: the file is the one or the other, whole.
func TestSwapWhenTheDiskGoesDown(t *testing.T) {
	old, swapped := []api.Batch{one(0, 2, 0), one(2, 2, 2)}, []api.Batch{one(2, 2, 2)}
	rest := [][]api.Batch{{one(4, 2, 4), one(6, 2, 6)}, {one(8, 2, 8), one(10, 2, 10)}}
	for fuse, want := range [][]api.Batch{old, old, old, swapped} {
		l, d := six(t, 1000)
		d.Fuse(fuse)
		// With a fuse of 3 it is renamed, but it can't be opened anew.
		if e := l.Swap(0, swapped); e != api.ErrDown {
			t.Errorf("P11.5: Swap with a fuse of %d: %d, want ErrDown", fuse, e)
		}
		d.Fuse(-1)
		hasJust(t, fmt.Sprint("P11.5: a log whose segment was not opened anew, fuse ", fuse), l, 0, 12, append([][]api.Batch{old}, rest...)...)
		if bytes, _ := d.Read(name(0)); bytes != coded(t, want...) {
			t.Errorf("P11.5: behind a fuse of %d the file is %x", fuse, bytes)
		}
		if e := l.Swap(0, swapped); e != api.OK {
			t.Errorf("P11.5: Swap, up again: %d", e)
		}
		hasJust(t, "P11.5: up again", l, 0, 12, append([][]api.Batch{swapped}, rest...)...)
		if len(d.Names()) != 3 {
			t.Errorf("P11.5: up again: %q", d.Names())
		}
	}
}

// TestSwapAheadOfTheStart: a segment that ends ahead of the start by a swap goes, when the log is let begin, or opened.
func TestSwapAheadOfTheStart(t *testing.T) {
	rest := [][]api.Batch{{one(4, 2, 4), one(6, 2, 6)}, {one(8, 2, 8), one(10, 2, 10)}}
	l, d := six(t, 1000)
	l.Advance(3)
	if e := l.Swap(0, []api.Batch{one(0, 2, 0)}); e != api.OK {
		t.Fatalf("P11.5: Swap: %d", e)
	}
	hasJust(t, "P11.5", l, 3, 12, append([][]api.Batch{{one(0, 2, 0)}}, rest...)...)
	hasJust(t, "P11.1", open(t, d.Copy(), usual), 3, 12, rest...)
	if e := l.Advance(3); e != api.OK {
		t.Errorf("P11.4: Advance: %d", e)
	}
	hasJust(t, "P11.4", l, 3, 12, rest...)
}

// TestEndStaysWhenTheLastSegmentHasNoFile: the one ahead of it is swapped to end sooner; but the log does not end sooner behind a crash.
func TestEndStaysWhenTheLastSegmentHasNoFile(t *testing.T) {
	for _, start := range []int{0, 1, 3} {
		d := newDisk(t, 100)
		l := open(t, d, usual)
		put(t, l, one(0, 2, 0), one(2, 2, 2))
		l.Advance(start)
		if _, e := l.Append(full(0), false); e != api.ErrFull {
			t.Fatalf("P11.2: Append without room: %d", e)
		}
		if e := l.Swap(0, []api.Batch{small(0, 4)}); e != api.OK || len(d.Names()) != 2 {
			t.Errorf("P11.5: Swap up to the same end: %d, %q", e, d.Names())
		}
		if e := l.Swap(0, []api.Batch{small(0, 2)}); e != api.OK {
			t.Errorf("P11.5: Swap: %d", e)
		}
		d.Crash(nil)
		if l := open(t, d, usual); l.Start() != start || l.End() != 4 {
			t.Errorf("P11.6: start %d, end %d behind a crash, want %d and 4", l.Start(), l.End(), start)
		}
	}
}

func TestNil(t *testing.T) {
	var none *plog.Log
	// R1 alone says something of a log that Open did not make: that nothing of it panics.
	for _, l := range []*plog.Log{none, {}} {
		at, e := l.Append(small(0, 1), true)
		if at != 0 || e != api.ErrArg || l.Swap(0, []api.Batch{small(0, 1)}) != api.ErrArg || l.Advance(0) != api.ErrArg {
			t.Errorf("R1: %v: Append: %d, %d", l, at, e)
		}
		l.Sync()
		l.Retain(0)
		if b, _ := l.Read(0, 1); len(b) != 0 {
			t.Errorf("R1: Read: %v", b)
		}
		time, after := l.After(0)
		b, there := l.Segment(0)
		if time != 0 || after || len(b) != 0 || there || l.Start() != 0 || l.End() != 0 || l.Size() != 0 {
			t.Errorf("R1: %v: %d, %t, %v, %t, %d, %d, %d", l, time, after, b, there, l.Start(), l.End(), l.Size())
		}
	}
	if none.Sync() != api.ErrArg {
		t.Error("R1: Sync of nil")
	}
}

// spoil overwrites all lists of some batches, and their spare room.
func spoil(l []api.Batch) {
	l = l[:cap(l)]
	for i := range l {
		r := l[i].Records[:cap(l[i].Records)]
		for j := range r {
			h := r[j].Headers[:cap(r[j].Headers)]
			for k := range h {
				h[k] = api.Header{Key: "spoilt"}
			}
			r[j] = api.Record{Key: "spoilt"}
		}
		l[i] = api.Batch{Base: -7}
	}
}

func TestMemory(t *testing.T) {
	d := newDisk(t, 1000)
	l := open(t, d, usual)
	for range 5 {
		b := []api.Batch{full(-3)}
		l.Append(b[0], false)
		if !same(b, []api.Batch{full(-3)}) {
			t.Errorf("R5: the batch that was handed in is now %+v", b)
		}
		spoil(b)
	}
	b := []api.Batch{full(0), full(3)}
	l.Swap(0, b)
	if !same(b, []api.Batch{full(0), full(3)}) {
		t.Errorf("R5: the batches that were handed in are now %+v", b)
	}
	spoil(b)
	want := [][]api.Batch{{full(0), full(3)}, {full(6), full(9)}, {full(12)}}
	hasJust(t, "R5: what was handed in is kept", l, 0, 15, want...)
	first, _ := l.Read(0, 1000)
	other, _ := l.Read(0, 1000)
	spoil(first[:2:2])
	if !same(first[2:], []api.Batch{full(6), full(9), full(12)}) {
		t.Errorf("R5: two batches of one answer share lists: %+v", first)
	}
	spoil(first)
	if !same(other, slices.Concat(want...)) {
		t.Errorf("R5: two answers share lists: %+v", other)
	}
	segment, _ := l.Segment(1)
	spoil(segment)
	hasJust(t, "R5: what is kept is handed out", l, 0, 15, want...)
}
