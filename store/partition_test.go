package store_test

import (
	"fmt"
	"math"
	"slices"
	"strings"
	"testing"

	"flotsam/api"
	"flotsam/disk"
	"flotsam/plog"
	"flotsam/store"
)

// ofT is a store with a topic t of two partitions.
func ofT(t *testing.T) (*store.Store, *disk.Disk) {
	t.Helper()
	return having(t, api.Topic{Name: "t", Parts: 2})
}

func told(t *testing.T, what string, s *store.Store, b api.Batch, sync bool, at int, e api.Errno) {
	t.Helper()
	if got, error := s.Append("t", 0, b, sync); got != at || error != e {
		t.Errorf("%s: Append of %s, %t: %d, %d, want %d, %d", what, short(b), sync, got, error, at, e)
	}
}

func TestAppend(t *testing.T) {
	s, d := ofT(t)
	b := one(5)
	b.Base = 999
	b.Records[0].Headers = []api.Header{{Key: "h", Value: "1"}}
	puts(t, s, "t", 0, false, 0, small(50), b, by(7, 0, small(3)))
	puts(t, s, "t", 1, true, 0, small(1))
	want := lasting(0, small(50), b, by(7, 0, small(3)))
	hasJust(t, "P21.3", s, "t", 0, 0, 54, want...)
	hasJust(t, "P21.3", s, "t", 1, 0, 1, small(1))
	hasFiles(t, "P21.3", d, "meta", seg("p0.0", 0), seg("p0.1", 0))
	hasBytes(t, "P21.3", d, seg("p0.0", 0), coded(t, want...))
	// What is handed in is not kept, what is answered is not the store's.
	b.Records[0].Value, b.Records[0].Headers[0].Value = "x", "x"
	l, _ := s.Read("t", 0, 0, 1000)
	l[1].Records[0].Headers[0].Value = "x"
	l[1].Records[0].Time = 9
	l[0].Span = 1
	b = one(5)
	b.Records[0].Headers = []api.Header{{Key: "h", Value: "1"}}
	hasJust(t, "R5", s, "t", 0, 0, 54, lasting(0, small(50), b, by(7, 0, small(3)))...)
}

// TestAppendSyncs: with sync, and with it alone, the batch stays behind a crash, and all that is ahead of it.
func TestAppendSyncs(t *testing.T) {
	s, d := ofT(t)
	if n := changes(d, func() { puts(t, s, "t", 0, false, 0, one(0)) }); n != 1 {
		t.Errorf("P21.3: Append: %d changes, want 1", n)
	}
	if n := changes(d, func() { puts(t, s, "t", 1, true, 0, one(0)) }); n != 2 {
		t.Errorf("P21.3: Append with sync: %d changes, want 2", n)
	}
	c := d.Copy()
	c.Crash(nil)
	again := open(t, c)
	hasJust(t, "P21.6: not synced", again, "t", 0, 0, 0)
	hasJust(t, "P21.6: synced", again, "t", 1, 0, 1, one(0))
	puts(t, s, "t", 0, true, 1, one(1))
	puts(t, s, "t", 0, false, 2, one(2))
	d.Crash([]int{29})
	hasJust(t, "P21.6: synced later", open(t, d), "t", 0, 0, 2, lasting(0, one(0), one(1))...)
}

func TestAppendRefuses(t *testing.T) {
	s, d := ofT(t)
	puts(t, s, "t", 0, false, 0, by(3, 0, small(2)))
	wrong := []api.Batch{{}, small(0), small(51), small(-1), by(-2, 0, small(1)), by(3, -1, small(1)), by(topID+1, 0, small(1))}
	late := one(1)
	late.Records[0].At = 1
	timeless := one(-1)
	wrong = append(wrong, late, timeless, great(t, 50001), great(t, 60008))
	// Ahead of what idem says of it.
	gap := great(t, 50001)
	gap.Producer, gap.Epoch, gap.Seq = 3, 0, 9
	wrong = append(wrong, gap, by(3, 2, small(0)), by(9, 1, small(0)))
	d.Fuse(0)
	for _, b := range wrong {
		told(t, "P21.3: may not be", s, b, true, 0, api.ErrArg)
	}
	d.Fuse(-1)
	hasJust(t, "P21.3: may not be", s, "t", 0, 0, 2, by(3, 0, small(2)))
	// The Base that it comes with counts for nothing.
	for i, base := range []int{math.MinInt, -1, 1<<40 + 1, math.MaxInt} {
		told(t, "P21.3: a Base", s, placed(base, one(0)), false, 2+i, api.OK)
	}
	told(t, "P21.3: of 50000 bytes", s, great(t, 50000), false, 6, api.OK)
	told(t, "P21.3: of 49999 bytes", s, great(t, 49999), false, 56, api.OK)
}

// great is a batch of so many bytes.
func great(t *testing.T, size int) api.Batch {
	t.Helper()
	b := small(50)
	for at := range 50 {
		b.Records = append(b.Records, api.Record{At: at, Key: strings.Repeat("k", 1000)})
	}
	for i := 0; ; i++ {
		more := size - len(coded(t, b))
		if more == 0 {
			return b
		}
		if more < 0 {
			n := min(-more, 800)
			b.Records[i].Key = b.Records[i].Key[n:]
			continue
		}
		n := min(more, 1000)
		// A value of 64 bytes or more has one byte more of its length.
		if n > 64 {
			n--
		}
		b.Records[i].Value = strings.Repeat("v", n)
	}
}

func TestGreat(t *testing.T) {
	for _, n := range []int{49999, 50000, 50001, 60008} {
		if got := len(coded(t, great(t, n))); got != n {
			t.Errorf("great(%d) has %d bytes", n, got)
		}
	}
}

// TestGreatAtItsEnd: the size of a batch is that with the Base that it gets.
func TestGreatAtItsEnd(t *testing.T) {
	s, _ := ofT(t)
	for base := range 64 {
		told(t, "P21.3", s, small(1), false, base, api.OK)
	}
	told(t, "P21.3: of 50001 bytes at its end", s, great(t, 50000), false, 0, api.ErrArg)
	told(t, "P21.3: of 50000 bytes at its end", s, great(t, 49999), false, 64, api.OK)
}

func TestProducers(t *testing.T) {
	s, _ := ofT(t)
	epoch := func(n int, b api.Batch) api.Batch { b.Epoch = n; return b }
	for _, c := range []struct {
		b  api.Batch
		at int
		e  api.Errno
	}{
		{by(7, 1, small(2)), 0, api.ErrOrder},
		{by(7, 0, small(2)), 0, api.OK}, {by(7, 0, small(2)), 0, api.OK}, {small(3), 2, api.OK}, {small(3), 5, api.OK},
		{by(7, 2, small(1)), 8, api.OK}, {by(7, 0, small(2)), 0, api.OK}, {by(7, 2, small(1)), 8, api.OK},
		{by(7, 4, small(1)), 0, api.ErrOrder}, {by(7, 2, small(2)), 0, api.ErrOrder},
		{epoch(2, by(7, 1, small(1))), 0, api.ErrOrder}, {epoch(2, by(7, 0, small(1))), 9, api.OK}, {by(7, 3, small(1)), 0, api.ErrFenced},
		{by(8, 0, small(1)), 10, api.OK}, {epoch(2, by(7, 0, small(1))), 9, api.OK},
	} {
		told(t, "P21.3: idem", s, c.b, false, c.at, c.e)
	}
	hasJust(t, "P21.3: idem", s, "t", 0, 0, 11, lasting(0, by(7, 0, small(2)), small(3), small(3), by(7, 2, small(1)), epoch(2, by(7, 0, small(1))), by(8, 0, small(1)))...)
	// Each partition hears for itself.
	puts(t, s, "t", 1, false, 0, by(7, 0, small(1)))
}

// TestToldAgain: of the last five of a producer each is told again with its place, without anything that is done; also behind Open.
func TestToldAgain(t *testing.T) {
	s, d := ofT(t)
	for i := range 7 {
		puts(t, s, "t", 0, true, i, by(4, i, one(i)))
	}
	all := func(what string, s *store.Store, d *disk.Disk) {
		t.Helper()
		for i := range 7 {
			at, e := i, api.OK
			if i < 2 {
				at, e = 0, api.ErrOrder
			}
			told(t, what, s, by(4, i, one(i)), false, at, e)
			// Only its numbers count.
			told(t, what, s, by(4, i, small(1)), false, at, e)
		}
	}
	d.Fuse(0)
	all("P21.3: told again", s, d)
	for i := 2; i < 7; i++ {
		told(t, "P21.3: told again with sync", s, by(4, i, one(i)), true, i, api.OK)
	}
	d.Fuse(-1)
	d.Crash(nil)
	s = open(t, d)
	d.Fuse(0)
	all("P21.1: told again", s, d)
	d.Fuse(-1)
	hasJust(t, "P21.3: told again", s, "t", 0, 0, 7, lasting(0, by(4, 0, one(0)), by(4, 1, one(1)), by(4, 2, one(2)), by(4, 3, one(3)), by(4, 4, one(4)), by(4, 5, one(5)), by(4, 6, one(6)))...)
	puts(t, s, "t", 0, true, 7, by(4, 7, one(7)))
}

// TestToldAgainWithSync: one that was answered OK with sync stays behind a crash, also where it had been put there without.
func TestToldAgainWithSync(t *testing.T) {
	s, d := ofT(t)
	puts(t, s, "t", 0, false, 0, by(4, 0, one(0)), small(1))
	n := changes(d, func() {
		for range 3 {
			told(t, "P21.6: told again with sync", s, by(4, 0, one(0)), true, 0, api.OK)
		}
	})
	if n != 1 {
		t.Errorf("P21.6: told again with sync: %d changes, want a single sync", n)
	}
	c := d.Copy()
	c.Crash(nil)
	hasJust(t, "P21.6: told again with sync", open(t, c), "t", 0, 0, 2, lasting(0, by(4, 0, one(0)), small(1))...)
	// All of the log is to be there, not that batch alone.
	puts(t, s, "t", 0, false, 2, small(1))
	d.Fuse(0)
	told(t, "P21.6: told again with sync, of a disk that is down", s, by(4, 0, one(0)), true, 0, api.ErrDown)
	told(t, "P21.3: told again without", s, by(4, 0, one(0)), false, 0, api.OK)
	d.Fuse(-1)
	told(t, "P21.6: told again with sync", s, by(4, 0, one(0)), true, 0, api.OK)
	d.Crash(nil)
	hasJust(t, "P21.6: told again with sync", open(t, d), "t", 0, 0, 3, lasting(0, by(4, 0, one(0)), small(1), small(1))...)
}

// TestToldAgainBehindOpen: what waited on the disk, when it was opened without a crash, waits still.
func TestToldAgainBehindOpen(t *testing.T) {
	s, d := ofT(t)
	puts(t, s, "t", 0, false, 0, by(4, 0, one(0)))
	s = open(t, d)
	told(t, "P21.6: told again with sync", s, by(4, 0, one(0)), true, 0, api.OK)
	d.Crash(nil)
	hasJust(t, "P21.6: told again with sync", open(t, d), "t", 0, 0, 1, by(4, 0, one(0)))
}

// TestToldAgainWhenAllIsSafe: where nothing waits nothing is done, also with sync.
func TestToldAgainWhenAllIsSafe(t *testing.T) {
	for i, do := range []func(s *store.Store) api.Errno{
		func(s *store.Store) api.Errno { _, e := s.Append("t", 0, small(1), true); return e },
		func(s *store.Store) api.Errno { return s.Trim("t", 0, 1) },
		func(s *store.Store) api.Errno { return s.Tidy("t", 0, 60, 0) },
		func(s *store.Store) api.Errno { return s.Tidy("t", 0, 1000, 0) },
	} {
		s, d := ofT(t)
		puts(t, s, "t", 0, false, 0, one(0), one(0), by(4, 0, one(0)), one(0))
		if e := do(s); e != api.OK {
			t.Fatalf("P21.3: case %d: %d", i, e)
		}
		d.Fuse(0)
		told(t, "P21.3: told again with sync, when all is safe", s, by(4, 0, one(0)), true, 2, api.OK)
		d.Fuse(-1)
		d.Crash(nil)
		if _, end := open(t, d).Bounds("t", 0); end < 4 {
			t.Errorf("P21.6: case %d: an end of %d", i, end)
		}
	}
	// What did not go on leaves it waiting.
	s, d := ofT(t)
	puts(t, s, "t", 0, false, 0, one(0), by(4, 0, one(0)))
	s.Trim("t", 0, 9)
	s.Tidy("t", 0, -1, 0)
	d.Fuse(0)
	s.Trim("t", 0, 1)
	told(t, "P21.6: told again with sync", s, by(4, 0, one(0)), true, 0, api.ErrDown)
}

// TestNotSynced: a batch that could not be synced is in the log nevertheless, and counts as sent.
func TestNotSynced(t *testing.T) {
	for fuse, want := range []int{0, 1} {
		s, d := ofT(t)
		d.Fuse(fuse)
		told(t, "P21.3: a disk that goes down", s, by(4, 0, one(0)), true, 0, api.ErrDown)
		hasJust(t, fmt.Sprint("P21.3: a fuse of ", fuse), s, "t", 0, 0, want, []api.Batch{by(4, 0, one(0))}[:want]...)
		d.Fuse(-1)
		told(t, "P21.3: the next one", s, by(4, 1, one(1)), false, want, []api.Errno{api.ErrOrder, api.OK}[want])
		told(t, "P21.3: again", s, by(4, 0, one(0)), true, 0, api.OK)
		d.Crash(nil)
		left := lasting(0, by(4, 0, one(0)), by(4, 1, one(1)))[:1+want]
		hasJust(t, fmt.Sprint("P21.6: a fuse of ", fuse), open(t, d), "t", 0, 0, len(left), left...)
	}
}

// TestNotAppended: of a batch that has no room, or that a disk does not take that is down, nothing is noted.
func TestNotAppended(t *testing.T) {
	s, d := ofT(t)
	puts(t, s, "t", 0, false, 0, by(4, 0, one(0)))
	d.Append("fills", strings.Repeat("x", d.Room()-d.Used()-29))
	for _, sync := range []bool{false, true} {
		told(t, "P21.3: no room", s, by(4, 1, one(0)), sync, 0, api.ErrFull)
	}
	d.Fuse(0)
	for _, sync := range []bool{false, true} {
		told(t, "P21.3: down", s, by(4, 1, one(0)), sync, 0, api.ErrDown)
	}
	d.Fuse(-1)
	hasJust(t, "P21.3: no room", s, "t", 0, 0, 1, by(4, 0, one(0)))
	told(t, "P21.3: no room", s, by(4, 2, small(1)), false, 0, api.ErrOrder)
	told(t, "P21.3: room enough", s, by(4, 1, small(1)), false, 1, api.OK)
	told(t, "P21.3: told again", s, by(4, 1, one(0)), false, 1, api.OK)
}

func TestRead(t *testing.T) {
	s, d := ofT(t)
	var all []api.Batch
	for base := range 6 {
		puts(t, s, "t", 0, false, base, one(base))
		all = append(all, placed(base, one(base)))
	}
	d.Fuse(0)
	for from := range 7 {
		for most := -1; most < 200; most++ {
			n := min(max(most/30, 1), 6-from)
			if l, e := s.Read("t", 0, from, most); !same(l, all[from:from+n]) || e != api.OK {
				t.Errorf("P21.3: Read(%d, %d): %+v, %d, want %d", from, most, l, e, n)
			}
		}
	}
	for _, from := range []int{math.MinInt, -1, 7, math.MaxInt} {
		if l, e := s.Read("t", 0, from, 100); len(l) != 0 || e != api.ErrRange {
			t.Errorf("P21.3: Read(%d): %v, %d, want ErrRange", from, l, e)
		}
	}
}

func TestTrim(t *testing.T) {
	s, d := ofT(t)
	puts(t, s, "t", 0, false, 0, one(0), one(1), one(2), small(2), one(5))
	for _, to := range []int{math.MinInt, -1, 7, math.MaxInt} {
		if e := s.Trim("t", 0, to); e != api.ErrRange {
			t.Errorf("P21.3: Trim(%d): %d, want ErrRange", to, e)
		}
	}
	for _, c := range []struct {
		to    int
		first int
	}{{0, 0}, {1, 1}, {1, 1}, {4, 3}, {5, 4}, {6, 5}} {
		if e := s.Trim("t", 0, c.to); e != api.OK {
			t.Errorf("P21.3: Trim(%d): %d", c.to, e)
		}
		want := lasting(0, one(0), one(1), one(2), small(2), one(5))[c.first:]
		hasJust(t, "P21.3: Trim", s, "t", 0, c.to, 6, want...)
		hasBytes(t, "P21.3: Trim", d, "p0.0.start", eight(c.to))
		if e := s.Trim("t", 0, c.to-1); e != api.ErrRange {
			t.Errorf("P21.3: Trim(%d) behind Trim(%d): %d, want ErrRange", c.to-1, c.to, e)
		}
		down := d.Copy()
		down.Crash(nil)
		hasJust(t, "P22.4: Trim", open(t, down), "t", 0, c.to, 6, want...)
	}
	hasJust(t, "P21.3: another one", s, "t", 1, 0, 0)
	d.Fuse(0)
	if e := s.Trim("t", 0, 6); e != api.ErrDown {
		t.Errorf("P21.3: Trim of a disk that is down: %d, want ErrDown", e)
	}
}

// TestSentAheadOfTheStart: of all batches of a log it is told what producers have sent, also of those that the start has passed.
func TestSentAheadOfTheStart(t *testing.T) {
	s, d := ofT(t)
	puts(t, s, "t", 0, false, 0, by(4, 0, one(0)), by(5, 0, one(1)))
	puts(t, s, "t", 0, true, 2, by(6, 0, one(2)), by(7, 0, one(3)))
	if e := s.Trim("t", 0, 4); e != api.OK {
		t.Fatalf("P21.3: Trim: %d", e)
	}
	told(t, "P21.3: ahead of the start", s, by(4, 0, one(0)), false, 0, api.OK)
	s = open(t, d)
	told(t, "P21.1: in a segment that has gone", s, by(5, 1, one(0)), false, 0, api.ErrOrder)
	told(t, "P21.1: ahead of the start", s, by(7, 0, one(0)), false, 3, api.OK)
	told(t, "P21.1: ahead of the start", s, by(6, 1, one(0)), false, 4, api.OK)
}

func TestTidyRetains(t *testing.T) {
	for most, first := range map[int]int{180: 0, 179: 2, 121: 2, 120: 2, 119: 4, 60: 4, 59: 4, 0: 4, math.MaxInt: 0} {
		s, d := ofT(t)
		puts(t, s, "t", 0, false, 0, one(0), one(1), one(2), one(3), one(4), one(5))
		puts(t, s, "t", 1, false, 0, one(0), one(1), one(2), one(3), one(4), one(5))
		if e := s.Tidy("t", 0, most, 0); e != api.OK {
			t.Errorf("P21.5: Tidy(%d): %d", most, e)
		}
		all := lasting(0, one(0), one(1), one(2), one(3), one(4), one(5))
		hasJust(t, fmt.Sprint("P21.5: Tidy of ", most), s, "t", 0, first, 6, all[first:]...)
		hasJust(t, "P21.5: another one", s, "t", 1, 0, 6, all...)
		hasJust(t, fmt.Sprint("P21.5: Tidy of ", most), open(t, d), "t", 0, first, 6, all[first:]...)
	}
	s, d := ofT(t)
	puts(t, s, "t", 0, false, 0, keyed("a"), keyed("a"), keyed("a"))
	n := changes(d, func() {
		for _, most := range []int{-1, math.MinInt} {
			if e := s.Tidy("t", 0, most, 0); e != api.ErrArg {
				t.Errorf("P21.5: Tidy(%d): %d, want ErrArg", most, e)
			}
		}
	})
	if n != 0 {
		t.Errorf("P21.5: Tidy of less than nothing: %d changes", n)
	}
}

func TestTidyCleans(t *testing.T) {
	s, d := ofT(t)
	gone := small(2)
	gone.Records = []api.Record{{Key: "d", Gone: true, Time: 8}, {At: 1, Key: "e", Value: strings.Repeat("v", 50)}}
	l := []api.Batch{keyed("a", "b"), keyed("a", "c"), gone, keyed("c", "f"), keyed("f")}
	puts(t, s, "t", 0, false, 0, l...)
	puts(t, s, "t", 1, false, 0, l...)
	left := lasting(0, l...)
	left[0].Records = left[0].Records[1:]
	left[1].Records = left[1].Records[:1]
	left[3].Records = left[3].Records[:1]
	if e := s.Tidy("t", 0, math.MaxInt, 8); e != api.OK {
		t.Errorf("P21.5: Tidy: %d", e)
	}
	hasJust(t, "P21.5: cleaned", s, "t", 0, 0, 9, left...)
	left[2].Records = left[2].Records[1:]
	if e := s.Tidy("t", 0, math.MaxInt, 9); e != api.OK {
		t.Errorf("P21.5: Tidy: %d", e)
	}
	hasJust(t, "P21.5: cleaned, and what is gone too", s, "t", 0, 0, 9, left...)
	hasJust(t, "P21.5: another one", s, "t", 1, 0, 9, lasting(0, l...)...)
	if n := changes(d, func() { s.Tidy("t", 0, math.MaxInt, 9) }); n != 0 {
		t.Errorf("P21.5: cleaned again: %d changes", n)
	}
	d.Crash(nil)
	s = open(t, d)
	if start, end := s.Bounds("t", 0); start != 0 || end < 8 {
		t.Errorf("P21.6: cleaned: %d, %d", start, end)
	}
	// First the segments go, then the others are cleaned: what has gone makes nothing old.
	s, _ = ofT(t)
	puts(t, s, "t", 0, false, 0, l...)
	if e := s.Tidy("t", 0, 300, 0); e != api.OK {
		t.Errorf("P21.5: Tidy: %d", e)
	}
	start, _ := s.Bounds("t", 0)
	left = lasting(0, l...)
	left[3].Records = left[3].Records[:1]
	hasJust(t, "P21.5: retained and cleaned", s, "t", 0, start, 9, left[start/2:]...)
	if start != 4 {
		t.Errorf("P21.5: retained: start %d, want 4", start)
	}
}

// TestTidyTellsTheFirstError has a Tidy by each change that the disk lets go.
func TestTidyTellsTheFirstError(t *testing.T) {
	l := []api.Batch{keyed("x", "y"), keyed("a", "b"), keyed("a", "c"), keyed("c", "d"), keyed("d")}
	for fuse := 0; ; fuse++ {
		s, d := ofT(t)
		puts(t, s, "t", 0, false, 0, l...)
		most := d.Used() - len(meta(0, 1, "t", 0, 2)) - 1
		d.Fuse(fuse)
		e := s.Tidy("t", 0, most, 0)
		d.Fuse(-1)
		down := d.Copy()
		down.Crash(nil)
		open(t, down)
		if e == api.OK {
			// The start: a sync, three changes, a file that goes. And three segments with three changes each, of which the last one has to be opened then.
			if fuse != 15 {
				t.Errorf("P21.5: Tidy without an error with a fuse of %d, want 15", fuse)
			}
			return
		}
		if e != api.ErrDown {
			t.Errorf("P21.5: Tidy with a fuse of %d: %d, want ErrDown", fuse, e)
		}
		start, end := s.Bounds("t", 0)
		if want := 2 * min(fuse/4, 1); start != want || end != 9 {
			t.Errorf("P21.5: Tidy with a fuse of %d: from %d to %d", fuse, start, end)
		}
		if e := s.Tidy("t", 0, most, 0); e != api.OK {
			t.Errorf("P21.5: Tidy again: %d", e)
		}
		hasLeft(t, s, "b", "a", "c", "d")
	}
}

// hasLeft asks for the keys of each batch from the start on.
func hasLeft(t *testing.T, s *store.Store, want ...string) {
	t.Helper()
	start, _ := s.Bounds("t", 0)
	l, e := s.Read("t", 0, start, math.MaxInt)
	var got []string
	for _, b := range l {
		keys := ""
		for _, r := range b.Records {
			keys += r.Key
		}
		got = append(got, keys)
	}
	if !slices.Equal(got, want) || e != api.OK {
		t.Errorf("P21.5: left %q, %d, want %q", got, e, want)
	}
}

// TestTidyKeepsWhatWasSent: behind cleaning, and Open, the last batch of each producer is told again, and its next one is new.
func TestTidyKeepsWhatWasSent(t *testing.T) {
	s, d := ofT(t)
	puts(t, s, "t", 0, true, 0, by(4, 0, keyed("a")), by(4, 1, keyed("a")), by(5, 0, keyed("a")), keyed("a"), keyed("a"))
	if e := s.Tidy("t", 0, math.MaxInt, 0); e != api.OK {
		t.Errorf("P21.5: Tidy: %d", e)
	}
	for range 2 {
		told(t, "P21.5: told again", s, by(4, 1, keyed("a")), false, 1, api.OK)
		told(t, "P21.5: told again", s, by(5, 0, keyed("a")), false, 2, api.OK)
		s = open(t, d)
	}
	told(t, "P21.5: the next one", s, by(4, 2, one(0)), false, 5, api.OK)
}

// TestPartitionsAreLogs: a partition's files are those of a log with its prefix.
func TestPartitionsAreLogs(t *testing.T) {
	s, d := having(t, api.Topic{Name: "x", Parts: 1}, api.Topic{Name: "t", Parts: 16})
	puts(t, s, "t", 15, true, 0, one(0), one(1), one(2))
	l, e := plog.Open(d, plog.Config{Prefix: "p1.15", Limit: usual, Every: 200})
	if e != api.OK || l.End() != 3 {
		t.Fatalf("P21: plog.Open: %d, an end of %d", e, l.End())
	}
	hasFiles(t, "P21", d, "meta", seg("p1.15", 0), seg("p1.15", 2))
}
