package broker_test

import (
	"fmt"
	"math"
	"reflect"
	"slices"
	"strings"
	"testing"

	"flotsam/api"
	"flotsam/batch"
	"flotsam/broker"
	"flotsam/disk"
	"flotsam/store"
	"flotsam/varint"
	"flotsam/wire"
)

var usual = broker.Config{Session: 100, Rebalance: 30, Limit: 50}

func newDisk(t *testing.T, room int) *disk.Disk {
	t.Helper()
	d, e := disk.New(room)
	if d == nil || e != api.OK {
		t.Fatalf("disk.New(%d): %d", room, e)
	}
	return d
}

func open(t *testing.T, d *disk.Disk) *broker.Broker {
	t.Helper()
	b, e := broker.Open(d, usual)
	if b == nil || e != api.OK {
		t.Fatalf("P22.1: Open: %v, %d", b, e)
	}
	return b
}

// ofT is a broker with a topic t of two partitions.
func ofT(t *testing.T) (*broker.Broker, *disk.Disk) {
	t.Helper()
	d := newDisk(t, api.MaxDisk)
	b := open(t, d)
	replies(t, "P22.2: Create", b, creating("t", 2), wire.Reply{})
	return b, d
}

func creating(name string, parts int) wire.Request {
	return wire.Request{Kind: wire.Create, Name: name, Count: parts}
}

func deleting(name string) wire.Request { return wire.Request{Kind: wire.Delete, Name: name} }

func producing(b api.Batch, flag bool) wire.Request {
	return wire.Request{Kind: wire.Produce, Name: "t", Batch: b, Flag: flag}
}

func fetching(from int, count int) wire.Request {
	return wire.Request{Kind: wire.Fetch, Name: "t", From: from, Count: count}
}

func seeking(time int) wire.Request { return wire.Request{Kind: wire.Seek, Name: "t", From: time} }

func trimming(to int) wire.Request { return wire.Request{Kind: wire.Trim, Name: "t", From: to} }

// committing is of nobody, who is in no group.
func committing(at int) wire.Request {
	return wire.Request{Kind: wire.Commit, Group: "g", Member: -1, Generation: -1, Name: "t", From: at}
}

var committed = wire.Request{Kind: wire.Committed, Group: "g", Name: "t"}

// small is a batch of 14 bytes, said one of a record.
func small(span int) api.Batch {
	return api.Batch{Span: span, Producer: -1, Epoch: -1, Seq: -1}
}

func said(key string, value string, time int) api.Batch {
	b := small(1)
	b.Records = []api.Record{{Key: key, Value: value, Time: time}}
	return b
}

func by(producer int, seq int, b api.Batch) api.Batch {
	b.Producer, b.Epoch, b.Seq = producer, 0, seq
	return b
}

// lasting are batches with the Bases that they get, one behind the other from a base on.
func lasting(base int, l ...api.Batch) []api.Batch {
	var all []api.Batch
	for _, b := range l {
		b.Base = base
		all = append(all, b)
		base += b.Span
	}
	return all
}

// same tells whether replies are, with lists that are nil or empty as the same.
func same(a, b wire.Reply) bool { return reflect.DeepEqual(evened(a), evened(b)) }

func evened(r wire.Reply) wire.Reply {
	r.Topics = append([]api.Topic{}, r.Topics...)
	r.Parts = append([]api.Part{}, r.Parts...)
	r.Batches = append([]api.Batch{}, r.Batches...)
	for i, b := range r.Batches {
		l := []api.Record{}
		for _, rec := range b.Records {
			rec.Headers = append([]api.Header{}, rec.Headers...)
			l = append(l, rec)
		}
		r.Batches[i].Records = l
	}
	return r
}

// short is something, cut off where it is long.
func short(v any) string {
	s := fmt.Sprintf("%+v", v)
	return s[:min(len(s), 1000)]
}

func replies(t *testing.T, what string, b *broker.Broker, q wire.Request, want wire.Reply) {
	t.Helper()
	if r := b.Do(q, 5); !same(r, want) {
		t.Errorf("%s: Do of %s: %s, want %s", what, short(q), short(r), short(want))
	}
}

func refuses(t *testing.T, what string, b *broker.Broker, q wire.Request, e api.Errno) {
	t.Helper()
	replies(t, what, b, q, wire.Reply{Error: e})
}

func fetches(t *testing.T, what string, b *broker.Broker, start int, end int, l ...api.Batch) {
	t.Helper()
	replies(t, what, b, fetching(start, 30000), wire.Reply{Start: start, End: end, Batches: l})
}

func ends(t *testing.T, what string, b *broker.Broker, name string, index int, want int) {
	t.Helper()
	if end := b.End(name, index); end != want {
		t.Errorf("%s: End of %q, %d: %d, want %d", what, name, index, end, want)
	}
}

func TestOpenErrors(t *testing.T) {
	right, wrong, down := newDisk(t, 1000), newDisk(t, 1000), newDisk(t, 1000)
	wrong.Append("meta", "x")
	down.Fuse(0)
	for i, c := range []struct {
		d    *disk.Disk
		c    broker.Config
		want api.Errno
	}{
		{right, broker.Config{1, 1, 50}, api.OK}, {right, broker.Config{100000, 100000, 1000000}, api.OK},
		{right, broker.Config{0, 1, 50}, api.ErrArg}, {right, broker.Config{100001, 1, 50}, api.ErrArg}, {right, broker.Config{-1, 1, 50}, api.ErrArg},
		{right, broker.Config{1, 0, 50}, api.ErrArg}, {right, broker.Config{1, 100001, 50}, api.ErrArg}, {right, broker.Config{1, math.MinInt, 50}, api.ErrArg},
		{right, broker.Config{1, 1, 49}, api.ErrArg}, {right, broker.Config{1, 1, 1000001}, api.ErrArg}, {right, broker.Config{}, api.ErrArg},
		{nil, broker.Config{1, 1, 50}, api.ErrArg},
		{wrong, broker.Config{1, 1, 50}, api.ErrForm}, {wrong, broker.Config{0, 1, 50}, api.ErrArg}, {wrong, broker.Config{1, 0, 50}, api.ErrArg}, {wrong, broker.Config{1, 1, 49}, api.ErrArg},
		{down, broker.Config{1, 1, 50}, api.ErrDown}, {down, broker.Config{0, 1, 50}, api.ErrArg}, {down, broker.Config{1, 0, 50}, api.ErrArg}, {down, broker.Config{1, 1, 49}, api.ErrArg},
	} {
		if b, e := broker.Open(c.d, c.c); e != c.want || (b == nil) != (e != api.OK) {
			t.Errorf("P22.1: case %d: Open: %v, %d, want %d", i, b, e, c.want)
		}
	}
	if l := right.Names(); len(l) != 0 {
		t.Errorf("P22.1: Open makes files: %q", l)
	}
}

func TestNil(t *testing.T) {
	var b *broker.Broker
	for kind := range 16 {
		refuses(t, "P22.1: nil", b, wire.Request{Kind: kind, Name: "t", Count: 1}, api.ErrArg)
	}
	b.Tick(1)
	ends(t, "P22.1: nil", b, "t", 0, -1)
	if e := b.Tidy("t", 0, 0, 0); e != api.ErrArg {
		t.Errorf("P22.1: nil: Tidy: %d, want ErrArg", e)
	}
	// Of one that Open did not make nothing is promised but that no call panics (R1).
	b = new(broker.Broker)
	for kind := range 16 {
		b.Do(wire.Request{Kind: kind, Name: "t", Count: 1, Group: "g"}, 1)
	}
	b.Tick(1)
	b.End("t", 0)
	b.Tidy("t", 0, 0, 0)
}

func TestExample(t *testing.T) {
	b, d := ofT(t)
	replies(t, "example 1", b, producing(said("k", "v", 1), true), wire.Reply{})
	d.Crash(nil)
	fetches(t, "example 1", open(t, d), 0, 1, said("k", "v", 1))
}

// TestMayNotBe has requests that wire does not encode: nothing is done of them.
func TestMayNotBe(t *testing.T) {
	b, d := ofT(t)
	long := strings.Repeat("n", 101)
	for _, q := range []wire.Request{
		{}, {Kind: -1}, {Kind: 15}, {Kind: math.MaxInt}, {Kind: wire.Create, Name: long, Count: 1}, {Kind: wire.Create, Name: "u", Count: 1, Group: long},
		{Kind: wire.Create, Name: "u", Count: 1, Index: -2}, {Kind: wire.Create, Name: "u", Count: 1, From: 1<<41 + 1}, {Kind: wire.Create, Name: "u", Count: -2},
		{Kind: wire.Identify, Member: -2}, {Kind: wire.Describe, Generation: -2}, {Kind: wire.Describe, Filter: api.Expr{Op: 9}},
		{Kind: wire.Identify, Topics: []string{long}}, {Kind: wire.Delete, Name: "t", Batch: api.Batch{Span: 51}},
		{Kind: wire.Produce, Name: "t", Batch: small(1), Count: -2}, {Kind: wire.Trim, Name: "t", Group: long},
		{Kind: wire.Join, Group: "g", Member: -1, Filter: api.Expr{Op: 9}}, {Kind: wire.Commit, Group: "g", Member: -1, Generation: -1, Name: "t", Count: -2},
		{Kind: wire.Produce, Name: "u", Batch: api.Batch{Span: 1, Producer: -1}}, {Kind: wire.Fetch, Name: "u", Filter: api.Expr{Op: api.And}},
	} {
		refuses(t, "P22.2: a request that may not be", b, q, api.ErrArg)
	}
	replies(t, "P22.2: nothing is done", b, wire.Request{Kind: wire.Identify}, wire.Reply{})
	replies(t, "P22.2: nothing is done", b, wire.Request{Kind: wire.Describe}, wire.Reply{Topics: []api.Topic{{Name: "t", Parts: 2}}})
	replies(t, "P22.2: nothing is done", b, committed, wire.Reply{At: -1})
	replies(t, "P22.2: nothing is done", b, wire.Request{Kind: wire.Join, Group: "g", Member: -1}, wire.Reply{Generation: 1})
	fetches(t, "P22.2: nothing is done", b, 0, 0)
	if l := d.Names(); !slices.Equal(l, []string{"meta"}) {
		t.Errorf("P22.2: nothing is done: files %q", l)
	}
}

func TestTopics(t *testing.T) {
	b, _ := ofT(t)
	replies(t, "P22.2: Create", b, creating("a", 16), wire.Reply{At: 1})
	replies(t, "P22.2: Describe", b, wire.Request{Kind: wire.Describe}, wire.Reply{Topics: []api.Topic{{Name: "a", Parts: 16}, {Name: "t", Parts: 2}}})
	refuses(t, "P22.2: Create", b, creating("a", 1), api.ErrThere)
	refuses(t, "P22.2: Create", b, creating("", 1), api.ErrArg)
	refuses(t, "P22.2: Create", b, creating("b", 17), api.ErrArg)
	ends(t, "P22.1", b, "a", 15, 0)
	ends(t, "P22.1", b, "a", 16, -1)
	ends(t, "P22.1", b, "a", -1, -1)
	ends(t, "P22.1", b, "b", 0, -1)
	replies(t, "P22.2: Delete", b, deleting("a"), wire.Reply{At: 1})
	refuses(t, "P22.2: Delete", b, deleting("a"), api.ErrNone)
	ends(t, "P22.1", b, "a", 15, -1)
	for id := range 3 {
		replies(t, "P22.2: Identify", b, wire.Request{Kind: wire.Identify}, wire.Reply{At: id})
	}
	replies(t, "P22.2: Create", b, creating("a", 1), wire.Reply{At: 2})
	replies(t, "P22.2: Describe", b, wire.Request{Kind: wire.Describe}, wire.Reply{Topics: []api.Topic{{Name: "a", Parts: 1}, {Name: "t", Parts: 2}}})
}

func TestNowhere(t *testing.T) {
	b, d := ofT(t)
	d.Fuse(0)
	for _, kind := range []int{wire.Produce, wire.Fetch, wire.Seek, wire.Trim, wire.Commit} {
		for _, q := range []wire.Request{{Name: "t", Index: 2}, {Name: "t", Index: -1}, {Name: "t", Index: 1 << 41}, {Name: "u"}, {}} {
			q.Kind, q.From, q.Group = kind, -1, "g"
			refuses(t, "P22.2: not there", b, q, api.ErrNone)
		}
	}
}

func TestProduce(t *testing.T) {
	b, _ := ofT(t)
	replies(t, "P22.2", b, producing(small(3), false), wire.Reply{At: 0})
	replies(t, "P22.2", b, producing(by(4, 0, said("k", "v", 1)), true), wire.Reply{At: 3})
	replies(t, "P22.2: told again", b, producing(by(4, 0, said("k", "v", 1)), false), wire.Reply{At: 3})
	refuses(t, "P22.2", b, producing(by(4, 2, small(1)), false), api.ErrOrder)
	refuses(t, "P22.2: none", b, producing(api.Batch{}, false), api.ErrArg)
	ends(t, "P22.1", b, "t", 0, 4)
	ends(t, "P22.1", b, "t", 1, 0)
	fetches(t, "P22.2", b, 0, 4, lasting(0, small(3), by(4, 0, said("k", "v", 1)))...)
}

func TestFetchFilters(t *testing.T) {
	b, _ := ofT(t)
	l := []api.Batch{said("a", "foo", 1), said("b", "bar", 2), small(2), said("c", "Foo.", 3)}
	for _, one := range l {
		b.Do(producing(one, false), 0)
	}
	q := fetching(0, 30000)
	q.Filter = api.Expr{Op: api.Word, Value: "foo"}
	want := lasting(0, l...)
	want[1].Records = nil
	for range 2 {
		replies(t, "P22.2", b, q, wire.Reply{End: 5, Batches: want})
	}
	q.Filter = api.Expr{Op: api.Not, Kids: []api.Expr{{}}}
	replies(t, "P22.2", b, q, wire.Reply{End: 5, Batches: lasting(0, small(1), small(1), small(2), small(1))})
	// What is fetched is not the broker's.
	r := b.Do(fetching(0, 30000), 0)
	r.Batches[0].Records[0].Value = "x"
	fetches(t, "R5", b, 0, 5, lasting(0, l...)...)
	refuses(t, "P22.2", b, fetching(6, 1), api.ErrRange)
	refuses(t, "P22.2", b, fetching(-1, 1), api.ErrRange)
	replies(t, "P22.2: the end", b, fetching(5, 1), wire.Reply{End: 5})
}

// TestFetchMost: at most Count bytes, 30000, and 100 batches, the first one in any case.
func TestFetchMost(t *testing.T) {
	b, _ := ofT(t)
	var l []api.Batch
	for range 250 {
		b.Do(producing(small(1), false), 0)
		l = append(l, small(1))
	}
	l = lasting(0, l...)
	sizes := make([]int, len(l))
	for i, one := range l {
		s, _ := batch.Encode(one)
		sizes[i] = len(s)
	}
	for from := 0; from < 250; from += 7 {
		for _, count := range []int{-1, 0, 13, 14, 15, 28, 500, 1385, 1400, 1500, 30000, 1 << 41} {
			n, bytes := 1, sizes[from]
			for from+n < 250 && n < 100 && bytes+sizes[from+n] <= count {
				bytes += sizes[from+n]
				n++
			}
			replies(t, "P22.2: so many bytes", b, fetching(from, count), wire.Reply{End: 250, Batches: l[from : from+n]})
		}
	}
	b, _ = ofT(t)
	wide := small(1)
	wide.Records = []api.Record{{Key: "k", Value: strings.Repeat("v", 983)}}
	l = nil
	for range 70 {
		b.Do(producing(wide, false), 0)
		l = append(l, wide)
	}
	l = lasting(0, l...)
	one, _ := batch.Encode(l[0])
	if len(one) != 1005 {
		t.Fatalf("a batch of %d bytes", len(one))
	}
	for _, count := range []int{29000, 30000, 30001, 1 << 41} {
		replies(t, "P22.2: 30000 bytes", b, fetching(0, count), wire.Reply{End: 70, Batches: l[:min(count, 30000)/1005]})
	}
	great := small(50)
	for at := range 40 {
		great.Records = append(great.Records, api.Record{At: at, Value: strings.Repeat("v", 1000)})
	}
	replies(t, "P22.2", b, producing(great, false), wire.Reply{At: 70})
	replies(t, "P22.2", b, producing(small(1), false), wire.Reply{At: 120})
	replies(t, "P22.2: the first one in any case", b, fetching(70, 10), wire.Reply{End: 121, Batches: lasting(70, great)})
}

// TestFetchJust30000 bytes, and one more.
func TestFetchJust30000(t *testing.T) {
	for last, want := range map[int]int{1000: 30, 1001: 29} {
		b, _ := ofT(t)
		for range 64 {
			b.Do(producing(small(1), false), 0)
		}
		for i := range 31 {
			one := said("k", "", 0)
			size := 1000
			if i == 29 {
				size = last
			}
			one.Base = 64
			s, _ := batch.Encode(one)
			// A value of so many bytes has one byte more of its length.
			one.Records[0].Value = strings.Repeat("v", size-len(s)-1)
			if s, _ = batch.Encode(one); len(s) != size {
				t.Fatalf("a batch of %d bytes, want %d", len(s), size)
			}
			replies(t, "P22.2", b, producing(one, false), wire.Reply{At: 64 + i})
		}
		if r := b.Do(fetching(64, 1<<41), 0); len(r.Batches) != want {
			t.Errorf("P22.2: 30000 bytes, the 30th batch with %d: %d batches, want %d", last, len(r.Batches), want)
		}
	}
}

func TestSeek(t *testing.T) {
	b, _ := ofT(t)
	replies(t, "P22.2: nothing yet", b, seeking(-1), wire.Reply{})
	// Far more than is read at once.
	var at []int
	end := 0
	for i := range 300 {
		one := said("k", strings.Repeat("v", 500), 2*i)
		if i%10 == 0 {
			one.Records = nil
		}
		one.Span = 1 + i%3
		replies(t, "P22.2", b, producing(one, false), wire.Reply{At: end})
		at = append(at, end)
		end += one.Span
	}
	where := func(start int, time int) int {
		for i := range 300 {
			if i%10 != 0 && 2*i >= time && at[i]+1+i%3 > start {
				return max(at[i], start)
			}
		}
		return end
	}
	for _, start := range []int{0, 1, 2, 3, 100, 301, 590, end - 1, end} {
		replies(t, "P22.2: Trim", b, trimming(start), wire.Reply{})
		for time := -1; time < 605; time += 1 + time/40 {
			replies(t, fmt.Sprint("P22.2: start ", start), b, seeking(time), wire.Reply{At: where(start, time)})
		}
		replies(t, fmt.Sprint("P22.2: start ", start), b, seeking(1<<41), wire.Reply{At: end})
	}
}

// TestSeekBehindTidy: what has been cleaned leaves gaps, the last one up to the end.
func TestSeekBehindTidy(t *testing.T) {
	b, _ := ofT(t)
	wide := strings.Repeat("v", 60)
	for _, one := range []api.Batch{said("a", wide, 1), said("b", wide, 9), said("a", wide, 3), said("b", wide, 2), said("a", wide, 5), said("b", wide, 5)} {
		b.Do(producing(one, false), 0)
	}
	if e := b.Tidy("t", 0, math.MaxInt, 0); e != api.OK {
		t.Fatalf("P22.1: Tidy: %d", e)
	}
	r := b.Do(fetching(0, 30000), 0)
	for time := range 12 {
		want := 6
		for _, one := range slices.Backward(r.Batches) {
			for _, rec := range one.Records {
				if rec.Time >= time {
					want = one.Base
				}
			}
		}
		replies(t, "P22.2: cleaned", b, seeking(time), wire.Reply{At: want})
	}
}

// TestSeekBehindTheLastBatch: where the last batches have been cleaned away there is none up to the end.
func TestSeekBehindTheLastBatch(t *testing.T) {
	b, d := ofT(t)
	gone := small(1)
	gone.Records = []api.Record{{Key: "a", Gone: true, Headers: []api.Header{{Key: "h", Value: strings.Repeat("v", 60)}}}}
	b.Do(producing(said("b", "", 1), false), 0)
	b.Do(producing(gone, false), 0)
	// The next one makes a new segment, but it has no room.
	d.Append("fills", strings.Repeat("x", d.Room()-d.Used()))
	refuses(t, "P22.3", b, producing(small(1), false), api.ErrFull)
	d.Drop("fills")
	if e := b.Tidy("t", 0, 1000, 1); e != api.OK {
		t.Fatalf("P22.1: Tidy: %d", e)
	}
	fetches(t, "P22.1: Tidy", b, 0, 2, said("b", "", 1))
	replies(t, "P22.2: cleaned", b, seeking(1), wire.Reply{})
	replies(t, "P22.2: cleaned", b, seeking(2), wire.Reply{At: 2})
	d.Crash(nil)
	replies(t, "P22.2: cleaned", open(t, d), seeking(2), wire.Reply{At: 2})
}

func TestTrim(t *testing.T) {
	b, d := ofT(t)
	for range 5 {
		b.Do(producing(small(2), false), 0)
	}
	refuses(t, "P22.2", b, trimming(-1), api.ErrRange)
	refuses(t, "P22.2", b, trimming(11), api.ErrRange)
	replies(t, "P22.2", b, trimming(3), wire.Reply{})
	refuses(t, "P22.2", b, trimming(2), api.ErrRange)
	refuses(t, "P22.2", b, fetching(2, 100), api.ErrRange)
	fetches(t, "P22.2", b, 3, 10, lasting(2, small(2), small(2), small(2), small(2))...)
	d.Crash(nil)
	fetches(t, "P22.4: Trim", open(t, d), 3, 10, lasting(2, small(2), small(2), small(2), small(2))...)
}

func TestTidy(t *testing.T) {
	b, d := ofT(t)
	wide := strings.Repeat("v", 60)
	for _, key := range []string{"a", "b", "a", "c"} {
		b.Do(producing(said(key, wide, 1), false), 0)
	}
	for i, c := range []struct {
		name  string
		index int
		most  int
		want  api.Errno
	}{{"u", 0, 100, api.ErrNone}, {"t", 2, -1, api.ErrNone}, {"t", 0, -1, api.ErrArg}, {"t", 0, 300, api.OK}, {"t", 1, 0, api.OK}} {
		if e := b.Tidy(c.name, c.index, c.most, 0); e != c.want {
			t.Errorf("P22.1: case %d: Tidy: %d, want %d", i, e, c.want)
		}
	}
	fetches(t, "P22.1: Tidy", b, 1, 4, lasting(1, said("b", wide, 1), said("a", wide, 1), said("c", wide, 1))...)
	b.Do(producing(said("b", wide, 1), false), 0)
	b.Do(producing(small(1), false), 0)
	more := small(1)
	more.Records = []api.Record{{Key: "b", Value: wide, Time: 1}}
	q := producing(more, false)
	q.Index = 1
	for range 3 {
		b.Do(q, 0)
	}
	if e := b.Tidy("t", 0, math.MaxInt, 0); e != api.OK {
		t.Errorf("P22.1: Tidy: %d", e)
	}
	ends(t, "P22.1: Tidy", b, "t", 0, 6)
	d.Crash(nil)
	ends(t, "P22.1: Tidy", open(t, d), "t", 0, 6)
}

// timesOf are those of all commits in the log of an empty disk's broker.
func timesOf(t *testing.T, d *disk.Disk) []int {
	t.Helper()
	var l []int
	for _, name := range d.Names() {
		if !strings.HasPrefix(name, "c-") {
			continue
		}
		s, _ := d.Read(name)
		all, _ := batch.Scan(s)
		for _, one := range all {
			l = append(l, one.Records[0].Time)
		}
	}
	return l
}

func TestCommit(t *testing.T) {
	b, d := ofT(t)
	replies(t, "P22.2: none yet", b, committed, wire.Reply{At: -1})
	const top = 1 << 40
	var want []int
	for i, c := range []struct{ now, time int }{{5, 5}, {0, 0}, {-1, 0}, {math.MinInt, 0}, {top, top}, {top + 1, top}, {math.MaxInt, top}, {7, 7}} {
		if r := b.Do(committing(i), c.now); !same(r, wire.Reply{}) {
			t.Errorf("P22.2: Commit at %d: %s", c.now, short(r))
		}
		replies(t, "P22.2", b, committed, wire.Reply{At: i})
		want = append(want, c.time)
	}
	if l := timesOf(t, d); !slices.Equal(l, want) {
		t.Errorf("P22.2: times of commits: %v, want %v", l, want)
	}
	for _, q := range []struct {
		q wire.Request
		e api.Errno
	}{
		{committing(-1), api.ErrArg}, {committing(top + 1), api.ErrArg},
		{wire.Request{Kind: wire.Commit, Member: -1, Generation: -1, Name: "t", From: 1}, api.ErrArg},
		{wire.Request{Kind: wire.Commit, Group: "g", Generation: 1, Name: "t", From: 1}, api.ErrMember},
		{wire.Request{Kind: wire.Commit, Group: "g", Generation: 1, Name: "t", From: -1}, api.ErrMember},
		{wire.Request{Kind: wire.Commit, Group: "g", Generation: 1, Name: "u", From: 1}, api.ErrNone},
	} {
		refuses(t, "P22.2", b, q.q, q.e)
	}
	if l := timesOf(t, d); !slices.Equal(l, want) {
		t.Errorf("P22.2: what is refused is on the disk: %v", l)
	}
	replies(t, "P22.2: the greatest", b, committing(top), wire.Reply{})
	d.Crash(nil)
	b = open(t, d)
	replies(t, "P22.4", b, committed, wire.Reply{At: top})
	replies(t, "P22.1: a broker without groups", b, committing(3), wire.Reply{})
}

// TestGroups: groups are gone behind Open, what they have committed is not.
func TestGroups(t *testing.T) {
	b, d := ofT(t)
	join := wire.Request{Kind: wire.Join, Group: "g", Member: -1, Topics: []string{"t"}}
	of := func(kind int) wire.Request {
		return wire.Request{Kind: kind, Group: "g", Generation: 1, Name: "t", From: 4}
	}
	replies(t, "P22.2: Join", b, join, wire.Reply{Generation: 1})
	refuses(t, "P22.2: Beat", b, of(wire.Beat), api.ErrWait)
	replies(t, "P22.2: Share", b, of(wire.Share), wire.Reply{Parts: []api.Part{{Topic: "t"}, {Topic: "t", Index: 1}}})
	replies(t, "P22.2: Beat", b, of(wire.Beat), wire.Reply{})
	replies(t, "P22.2: Commit", b, of(wire.Commit), wire.Reply{})
	refuses(t, "P22.2: Commit of nobody", b, committing(9), api.ErrMember)
	q := of(wire.Commit)
	q.Generation = 2
	refuses(t, "P22.2: Commit", b, q, api.ErrOld)
	replies(t, "P22.2: Committed", b, committed, wire.Reply{At: 4})
	join.Topics[0] = "x"
	replies(t, "R5: Share", b, of(wire.Share), wire.Reply{Parts: []api.Part{{Topic: "t"}, {Topic: "t", Index: 1}}})
	b.Tick(104)
	replies(t, "P22.1: Tick", b, of(wire.Beat), wire.Reply{})
	b.Tick(105)
	refuses(t, "P22.1: Tick", b, of(wire.Beat), api.ErrMember)
	replies(t, "P22.2: Join", b, join, wire.Reply{Member: 1, Generation: 2, Leader: 1})
	d.Crash(nil)
	b = open(t, d)
	q = of(wire.Beat)
	q.Member, q.Generation = 1, 2
	refuses(t, "P22.1: a broker without groups", b, q, api.ErrMember)
	replies(t, "P22.1: Committed", b, committed, wire.Reply{At: 4})
	replies(t, "P22.1: Join", b, join, wire.Reply{Generation: 1})
	q.Member, q.Generation = 0, 1
	q.Kind = wire.Leave
	replies(t, "P22.2: Leave", b, q, wire.Reply{})
	replies(t, "P22.2: Commit of nobody", b, committing(9), wire.Reply{})
	replies(t, "P22.2: Committed", b, committed, wire.Reply{At: 9})
	replies(t, "P22.2: Delete", b, deleting("t"), wire.Reply{})
	replies(t, "P22.2: Committed of what has gone", b, committed, wire.Reply{At: -1})
	replies(t, "P22.2: Create", b, creating("t", 1), wire.Reply{At: 1})
	replies(t, "P22.2: Committed", b, committed, wire.Reply{At: -1})
	replies(t, "P22.1: Committed", open(t, d), committed, wire.Reply{At: -1})
}

// TestThousand: of a 1001st key there is no commit, also behind Open.
func TestThousand(t *testing.T) {
	b, d := ofT(t)
	q := committing(1)
	for i := range 1000 {
		q.Group, q.Index = fmt.Sprint("g", i/2), i%2
		replies(t, "P22.2: Commit", b, q, wire.Reply{})
	}
	for range 2 {
		q.Group = "h"
		refuses(t, "P22.2: a 1001st one", b, q, api.ErrFull)
		q.Group = "g7"
		replies(t, "P22.2: one of 1000", b, q, wire.Reply{})
		b = open(t, d)
	}
}

// TestSameAsStore: the broker's disk is one of a store.
func TestSameAsStore(t *testing.T) {
	b, d := ofT(t)
	b.Do(producing(small(2), true), 0)
	b.Do(wire.Request{Kind: wire.Identify}, 0)
	s, e := store.Open(d, 50)
	if e != api.OK {
		t.Fatalf("store.Open: %d", e)
	}
	if start, end := s.Bounds("t", 0); start != 0 || end != 2 {
		t.Errorf("P22.2: on the disk from %d to %d", start, end)
	}
	bytes, _ := d.Read("meta")
	if n, _, _ := varint.Get(bytes, 0); n != 1 {
		t.Errorf("P22.2: on the disk the next producer is %d", n)
	}
}
