package state_test

import (
	"fmt"
	"testing"

	"flotsam/api"
	"flotsam/state"
	"flotsam/wire"
)

func fetching(index, from, count int) wire.Request {
	return wire.Request{Kind: wire.Fetch, Name: "t", Index: index, From: from, Count: count}
}

func trimming(index, to int) wire.Request {
	return wire.Request{Kind: wire.Trim, Name: "t", Index: index, From: to}
}

// fetches has all that is fetched of t: the start, the end, and these batches.
func fetches(t *testing.T, what string, m *state.Machine, index, from, count int, start, end int, l ...api.Batch) {
	t.Helper()
	replies(t, what, m, fetching(index, from, count), 0, wire.Reply{Start: start, End: end, Batches: l})
}

// seeks has where a time is found in the first partition of t.
func seeks(t *testing.T, what string, m *state.Machine, time int, want int) {
	t.Helper()
	replies(t, what, m, wire.Request{Kind: wire.Seek, Name: "t", From: time}, 0, wire.Reply{At: want})
}

func trims(t *testing.T, m *state.Machine, to int, e api.Errno) {
	t.Helper()
	replies(t, "P20.3: Trim", m, trimming(0, to), 0, wire.Reply{Error: e})
}

func TestNowhere(t *testing.T) {
	m := ofT(t)
	for _, kind := range []int{wire.Fetch, wire.Seek, wire.Trim} {
		for _, c := range []struct {
			name  string
			index int
		}{{"t", 2}, {"t", -1}, {"t", 1 << 41}, {"u", 0}, {"", 0}} {
			for _, from := range []int{-1, 0, 1} {
				// Ahead of a place that is none.
				refuses(t, "P20.3: not there", m, wire.Request{Kind: kind, Name: c.name, Index: c.index, From: from}, 0, api.ErrNone)
			}
		}
	}
}

func TestFetchPlaces(t *testing.T) {
	m := ofT(t)
	fetches(t, "P20.3: nothing yet", m, 0, 0, 1000, 0, 0)
	refuses(t, "P20.3: ahead of the start", m, fetching(0, -1, 1000), 0, api.ErrRange)
	refuses(t, "P20.3: above the end", m, fetching(0, 1, 1000), 0, api.ErrRange)
	l := []api.Batch{wide(3, 1, 2), wide(1, 3), wide(5), wide(2, 4, 4)}
	base := 0
	for i := range l {
		makes(t, m, 0, l[i], base)
		l[i].Base = base
		base += l[i].Span
	}
	// The first one of which the end is above the place, and all behind it.
	for from, first := range []int{0, 0, 0, 1, 2, 2, 2, 2, 2, 3, 3, 4} {
		fetches(t, fmt.Sprint("P20.3: from ", from), m, 0, from, 10000, 0, 11, l[first:]...)
	}
	for _, from := range []int{-1, 12, 13, 1 << 41} {
		refuses(t, "P20.3: a place that is none", m, fetching(0, from, 1000), 0, api.ErrRange)
	}
	fetches(t, "P20.3: another partition", m, 1, 0, 1000, 0, 0)
	// The time is nothing to it.
	for _, now := range []int{-1, 0, 1 << 41} {
		replies(t, "P20.3: whenever", m, fetching(0, 9, 1000), now, wire.Reply{End: 11, Batches: l[3:]})
	}
}

// TestFetchCount: as many as have so many bytes all together, the first one in any case.
func TestFetchCount(t *testing.T) {
	m := ofT(t)
	l := []api.Batch{one("a", "1", 0), one("b", "22", 0), one("c", "", 0), wide(1), one("d", "a longer one than the others", 0), one("e", "5", 0)}
	for i := range l {
		makes(t, m, 0, l[i], i)
		l[i].Base = i
	}
	for first := range l {
		bytes := 0
		for n := 1; first+n <= len(l); n++ {
			bytes += size(t, l[first+n-1])
			fetches(t, "P20.3: just as many bytes", m, 0, first, bytes, 0, 6, l[first:first+n]...)
			fetches(t, "P20.3: a byte more", m, 0, first, bytes+1, 0, 6, l[first:first+n]...)
			fetches(t, "P20.3: a byte less", m, 0, first, bytes-1, 0, 6, l[first:first+max(n-1, 1)]...)
		}
		for _, count := range []int{-1, 0, 1} {
			fetches(t, "P20.3: the first one in any case", m, 0, first, count, 0, 6, l[first])
		}
		fetches(t, "P20.3: as many as there are", m, 0, first, 1<<41, 0, 6, l[first:]...)
	}
}

// TestFetchMost: at most 30000 bytes, and the first one in any case.
func TestFetchMost(t *testing.T) {
	for _, more := range []int{0, 1} {
		m := ofT(t)
		l := []api.Batch{great(t, 20000), at(50, great(t, 10000-size(t, at(100, one("a", "", 0)))+more)), at(100, one("a", "", 0))}
		for _, b := range l {
			makes(t, m, 0, b, b.Base)
		}
		if bytes := size(t, l[0]) + size(t, l[1]) + size(t, l[2]); bytes != 30000+more {
			t.Fatalf("%d bytes", bytes)
		}
		for _, count := range []int{30000, 30001, 60000, 1 << 41} {
			fetches(t, "P20.3: 30000 bytes", m, 0, 0, count, 0, 101, l[:3-more]...)
		}
		fetches(t, "P20.3: 29999 bytes", m, 0, 0, 29999, 0, 101, l[:2]...)
	}
	m := ofT(t)
	l := []api.Batch{great(t, 50000), at(50, great(t, 30001)), at(100, one("a", "", 0)), at(101, one("b", "", 0))}
	for _, b := range l {
		makes(t, m, 0, b, b.Base)
	}
	for _, count := range []int{-1, 0, 50000, 60000, 1 << 41} {
		fetches(t, "P20.3: a great one first", m, 0, 0, count, 0, 102, l[0])
		fetches(t, "P20.3: a great one first", m, 0, 50, count, 0, 102, l[1])
	}
	// Behind one that has no room none comes, though there is room for it.
	m = ofT(t)
	l = []api.Batch{one("a", "", 0), at(1, great(t, 30000)), at(51, one("b", "", 0))}
	for _, b := range l {
		makes(t, m, 0, b, b.Base)
	}
	fetches(t, "P20.3: a great one between", m, 0, 0, 30000, 0, 52, l[0])
}

// TestFetchHundred: at most 100 batches.
func TestFetchHundred(t *testing.T) {
	m := ofT(t)
	var l []api.Batch
	for i := range 205 {
		b := at(i, wide(1))
		makes(t, m, 0, b, i)
		l = append(l, b)
	}
	for _, c := range []struct{ from, n int }{{0, 100}, {1, 100}, {104, 100}, {105, 100}, {106, 99}, {204, 1}, {205, 0}} {
		fetches(t, fmt.Sprint("P20.3: 100 batches, from ", c.from), m, 0, c.from, 30000, 0, 205, l[c.from:c.from+c.n]...)
	}
}

func TestFetchFilter(t *testing.T) {
	m := ofT(t)
	b := api.Batch{Span: 5, Producer: 3, Epoch: 1, Records: []api.Record{
		{Key: "ka", Value: "Foo, bar", Headers: []api.Header{{Key: "h", Value: "1"}}}, {At: 1, Key: "kb", Value: "foo"}, {At: 3, Bare: true, Value: "bar"}, {At: 4, Key: "x", Gone: true},
	}}
	c := api.Batch{Base: 5, Span: 2, Producer: -1, Epoch: -1, Seq: -1, Records: []api.Record{{At: 1, Key: "kc", Value: "BAR"}}}
	makes(t, m, 0, b, 0)
	makes(t, m, 0, c, 5)
	some := func(b api.Batch, places ...int) api.Batch {
		var l []api.Record
		for _, i := range places {
			l = append(l, b.Records[i])
		}
		b.Records = l
		return b
	}
	for _, k := range []struct {
		x    api.Expr
		b, c []int
	}{
		{api.Expr{}, []int{0, 1, 2, 3}, []int{0}},
		{api.Expr{Op: api.Word, Value: "foo"}, []int{0, 1}, nil},
		{api.Expr{Op: api.Word, Value: "bar"}, []int{0, 2}, []int{0}},
		{api.Expr{Op: api.Prefix, Value: "k"}, []int{0, 1}, []int{0}},
		{api.Expr{Op: api.Not, Kids: []api.Expr{{Op: api.Prefix, Value: "k"}}}, []int{2, 3}, nil},
		{api.Expr{Op: api.Has, Name: "h"}, []int{0}, nil},
		{api.Expr{Op: api.Is, Name: "h", Value: "2"}, nil, nil},
		{api.Expr{Op: api.And, Kids: []api.Expr{{Op: api.Word, Value: "bar"}, {Op: api.Prefix, Value: "k"}}}, []int{0}, []int{0}},
		{api.Expr{Op: api.Not, Kids: []api.Expr{{}}}, nil, nil},
	} {
		q := fetching(0, 0, 10000)
		q.Filter = k.x
		// The batches are there in any case, and are of all that they were but of these records.
		replies(t, "P20.3: a filter", m, q, 0, wire.Reply{End: 7, Batches: []api.Batch{some(b, k.b...), some(c, k.c...)}})
		// Bytes are counted of what stands there, not of what is let through.
		q.Count = size(t, b) + size(t, c) - 1
		replies(t, "P20.3: a filter, and a byte less", m, q, 0, wire.Reply{End: 7, Batches: []api.Batch{some(b, k.b...)}})
	}
	fetches(t, "P20.3: a filter leaves all as it was", m, 0, 0, 10000, 0, 7, b, c)
	q := fetching(0, 8, 0)
	q.Filter = api.Expr{Op: api.Has, Name: "h"}
	refuses(t, "P20.3: a filter above the end", m, q, 0, api.ErrRange)
}

// TestFilterOnlyFetches: a filter is nothing to what else is asked.
func TestFilterOnlyFetches(t *testing.T) {
	m := ofT(t)
	makes(t, m, 0, one("a", "1", 5), 0)
	q := wire.Request{Kind: wire.Seek, Name: "t", From: 5, Filter: api.Expr{Op: api.Not, Kids: []api.Expr{{}}}}
	replies(t, "P20.3: Seek with a filter", m, q, 0, wire.Reply{})
	q.Kind, q.Batch = wire.Produce, one("b", "2", 5)
	replies(t, "P20.3: Produce with a filter", m, q, 0, wire.Reply{At: 1})
	fetches(t, "P20.3: produced with a filter", m, 0, 1, 1000, 0, 2, at(1, one("b", "2", 5)))
}

func TestTrim(t *testing.T) {
	m := ofT(t)
	trims(t, m, 0, api.OK)
	trims(t, m, 1, api.ErrRange)
	trims(t, m, -1, api.ErrRange)
	l := []api.Batch{wide(3, 1, 2), wide(1, 3), wide(5, 9), wide(2, 4, 4)}
	base := 0
	for i := range l {
		makes(t, m, 0, l[i], base)
		l[i].Base = base
		base += l[i].Span
	}
	first := []int{0, 0, 0, 1, 2, 2, 2, 2, 2, 3, 3, 4}
	start := 0
	for _, to := range []int{0, 2, 2, 3, 5, 9, 10} {
		trims(t, m, to, api.OK)
		start = to
		for _, wrong := range []int{-1, to - 1, 12, 1 << 41} {
			trims(t, m, wrong, api.ErrRange)
			refuses(t, "P20.3: Fetch from a place that is none", m, fetching(0, wrong, 1000), 0, api.ErrRange)
		}
		for from := start; from <= 11; from++ {
			fetches(t, fmt.Sprint("P20.3: trimmed to ", to, ", from ", from), m, 0, from, 10000, start, 11, l[first[from]:]...)
		}
		ends(t, "P20.5: trimmed", m, "t", 0, 11)
		fetches(t, "P20.3: another partition", m, 1, 0, 1000, 0, 0)
	}
	// With all batches gone the end is as it was.
	trims(t, m, 11, api.OK)
	trims(t, m, 11, api.OK)
	ends(t, "P20.5: all trimmed", m, "t", 0, 11)
	fetches(t, "P20.3: all trimmed", m, 0, 11, 1000, 11, 11)
	refuses(t, "P20.3: all trimmed", m, fetching(0, 10, 1000), 0, api.ErrRange)
	refuses(t, "P20.3: all trimmed", m, fetching(0, 12, 1000), 0, api.ErrRange)
	makes(t, m, 0, one("a", "", 0), 11)
	ends(t, "P20.5: gone on", m, "t", 0, 12)
	fetches(t, "P20.3: gone on", m, 0, 11, 1000, 11, 12, at(11, one("a", "", 0)))
	trims(t, m, 10, api.ErrRange)
	trims(t, m, 12, api.OK)
	// The reply has no numbers.
	replies(t, "P20.3: Trim", m, wire.Request{Kind: wire.Trim, Name: "t", From: 12, Count: 5, Member: 6, Generation: 7}, 0, wire.Reply{})
}

func TestSeek(t *testing.T) {
	m := ofT(t)
	for _, time := range []int{-1, 0, 1, 1 << 41} {
		seeks(t, "P20.3: nothing yet", m, time, 0)
	}
	// Bases 0, 3, 4, 9, 11, 12.
	for _, b := range []api.Batch{wide(3, 5, 2), wide(1, 3), wide(5), wide(2, 9, 4), wide(1, 1<<40), wide(4, 7)} {
		m.Do(producing(0, b), 0)
	}
	ends(t, "P20.1", m, "t", 0, 16)
	for _, c := range []struct{ time, want int }{
		{-1, 0}, {0, 0}, {2, 0}, {3, 0}, {5, 0}, {6, 9}, {9, 9}, {10, 11}, {1 << 40, 11}, {1<<40 + 1, 16}, {1 << 41, 16},
	} {
		seeks(t, "P20.3: Seek", m, c.time, c.want)
	}
	// A batch that begins ahead of the start, and ends above it, is one still: the start is told.
	trims(t, m, 1, api.OK)
	seeks(t, "P20.3: within the first one", m, 5, 1)
	seeks(t, "P20.3: within the first one", m, -1, 1)
	seeks(t, "P20.3: within the first one", m, 6, 9)
	trims(t, m, 2, api.OK)
	seeks(t, "P20.3: where that record was ahead of the start", m, 5, 2)
	trims(t, m, 3, api.OK)
	seeks(t, "P20.3: behind the first one", m, 5, 9)
	seeks(t, "P20.3: behind the first one", m, 3, 3)
	trims(t, m, 5, api.OK)
	seeks(t, "P20.3: in one without records", m, 0, 9)
	trims(t, m, 10, api.OK)
	seeks(t, "P20.3: in another one", m, 9, 10)
	seeks(t, "P20.3: in another one", m, 10, 11)
	trims(t, m, 12, api.OK)
	seeks(t, "P20.3: the last one", m, 7, 12)
	seeks(t, "P20.3: the last one", m, 8, 16)
	trims(t, m, 16, api.OK)
	for _, time := range []int{-1, 0, 7, 1 << 41} {
		seeks(t, "P20.3: all trimmed", m, time, 16)
	}
	makes(t, m, 0, wide(2, 1), 16)
	seeks(t, "P20.3: gone on", m, 1, 16)
	seeks(t, "P20.3: gone on", m, 2, 18)
	// Of a record of one that has no records no time is asked, not even of -1.
	makes(t, m, 1, wide(3), 0)
	replies(t, "P20.3: without records", m, wire.Request{Kind: wire.Seek, Name: "t", Index: 1, From: -1}, 0, wire.Reply{At: 3})
}
