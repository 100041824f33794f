package clean

import (
	"math"
	"slices"
	"sort"

	"flotsam/api"
	"flotsam/plog"
)

// Cleaner cleans a log, step by step.
type Cleaner struct {
	log   *plog.Log
	start int
	// ends are where the segments that it cleans end, kept is what is to be left of them all.
	ends []int
	kept []api.Batch
	// next is the segment, as they were counted at first, that the next step cleans.
	next int
}

// New makes one of the segments that a log has now, but the last one.
func New(l *plog.Log, before int) (*Cleaner, api.Errno) {
	if l == nil {
		return nil, api.ErrArg
	}
	c := &Cleaner{log: l, start: l.Start(), ends: endsOf(l)}
	if n := len(c.ends); n > 0 {
		upto := c.ends[n-1]
		// A log tells all from its start on.
		all, _ := l.Read(c.start, math.MaxInt)
		c.kept = slices.DeleteFunc(Clean(all, upto, before), func(b api.Batch) bool { return b.Base >= upto })
	}
	return c, api.OK
}

// Step cleans the next segment, and tells whether there was one.
func (c *Cleaner) Step() (bool, api.Errno) {
	if c == nil || c.log.Start() != c.start {
		return false, api.ErrArg
	}
	if c.next == len(c.ends) {
		return false, api.OK
	}
	i, old := c.find()
	b := c.leftOf(old)
	if len(b) > 0 && !slices.EqualFunc(b, old, allLeft) {
		if e := c.log.Swap(i, b); e != api.OK {
			return false, e
		}
	}
	c.next++
	return true, api.OK
}

// find tells which segment of the log the next one is now, and its batches: it may stand further ahead than it did, or be gone.
func (c *Cleaner) find() (int, []api.Batch) {
	base := math.MinInt
	if c.next > 0 {
		base = c.ends[c.next-1]
	}
	for i := c.next; i >= 0; i-- {
		l, _ := c.log.Segment(i)
		if len(l) > 0 && l[0].Base >= base && l[0].Base < c.ends[c.next] {
			return i, l
		}
	}
	return 0, nil
}

// leftOf is what is to be left of some batches of the log.
func (c *Cleaner) leftOf(l []api.Batch) []api.Batch {
	var left []api.Batch
	for _, b := range l {
		i := sort.Search(len(c.kept), func(i int) bool { return c.kept[i].Base >= b.Base })
		if i < len(c.kept) && c.kept[i].Base == b.Base {
			left = append(left, c.kept[i])
		}
	}
	return left
}

// allLeft tells whether what is left of a batch is all of it.
func allLeft(left api.Batch, whole api.Batch) bool {
	return len(left.Records) == len(whole.Records)
}

// endsOf are where the segments of a log end, but the last one.
func endsOf(l *plog.Log) []int {
	var ends []int
	end := 0
	for i := 0; ; i++ {
		b, ok := l.Segment(i)
		if !ok {
			return ends[:max(len(ends)-1, 0)]
		}
		if len(b) > 0 {
			last := b[len(b)-1]
			end = last.Base + last.Span
		}
		ends = append(ends, end)
	}
}
