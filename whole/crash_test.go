package whole_test

import (
	"fmt"
	"math/rand"
	"reflect"
	"slices"
	"strings"
	"testing"

	"flotsam/api"
	"flotsam/broker"
	"flotsam/whole"
	"flotsam/wire"
)

// past is what clients know of a partition.
type past struct {
	all   []api.Batch
	start int
	end   int
	// sent are all batches that came, also those that were cleaned away; epochs are those of the producers.
	sent   []api.Batch
	epochs [2]int
	// sure is an end that no crash may lose; bounds are all places where a batch ever began or ended.
	sure   int
	bounds map[int]bool
	// thinned: batches may have gone, by which producers would be known behind a crash; half: some were cleaned, but only the disk tells so.
	thinned bool
	half    bool
}

// shown are the batches that a Fetch from the start on tells.
func (p *past) shown() []api.Batch {
	return slices.DeleteFunc(slices.Clone(p.all), func(b api.Batch) bool { return b.Base+b.Span <= p.start })
}

// clients are those of a world that crashes anywhere, with all that they know of it.
type clients struct {
	t       *testing.T
	r       *rand.Rand
	w       *whole.World
	topics  map[string]int
	parts   map[api.Part]*past
	commits map[api.Part]int   // the last one that was answered, by a Committed
	tried   map[api.Part][]int // later ones that were not
	next    int                // the next producer's id
	seen    map[string]int
}

func (c *clients) ask(q wire.Request) wire.Reply {
	c.t.Helper()
	r := asks(c.t, c.w, c.r.Intn(8), q)
	c.seen[fmt.Sprint(q.Kind, " ", r.Error)]++
	return r
}

// down tells whether an error is one that the disk tells.
func down(e api.Errno) bool { return e == api.ErrDown || e == api.ErrFull }

func (c *clients) anyName() string { return fmt.Sprint("t", c.r.Intn(3)) }

// anyPart is a partition that is there.
func (c *clients) anyPart() (api.Part, *past) {
	name := c.anyName()
	if c.topics[name] == 0 {
		return api.Part{}, nil
	}
	k := api.Part{Topic: name, Index: c.r.Intn(c.topics[name])}
	return k, c.parts[k]
}

// change creates a topic, or deletes one: with an error of the disk Describe tells whether that was done.
func (c *clients) change() {
	name := c.anyName()
	q := creating(name, 1+c.r.Intn(2))
	if c.topics[name] > 0 {
		if c.r.Intn(6) > 0 {
			return
		}
		q = wire.Request{Kind: wire.Delete, Name: name}
	}
	r := c.ask(q)
	if r.Error != api.OK && !down(r.Error) {
		c.t.Fatalf("P24.4: %s: %s", short(q), short(r))
	}
	done := r.Error == api.OK
	for _, topic := range c.ask(wire.Request{Kind: wire.Describe}).Topics {
		done = done || topic.Name == name && q.Kind == wire.Create
	}
	if down(r.Error) && q.Kind == wire.Delete {
		done = c.w.End(name, 0) < 0
	}
	if done {
		c.changed(q)
	}
}

func (c *clients) changed(q wire.Request) {
	delete(c.topics, q.Name)
	for i := range 2 {
		k := api.Part{Topic: q.Name, Index: i}
		delete(c.parts, k)
		delete(c.commits, k)
		delete(c.tried, k)
	}
	if q.Kind == wire.Delete {
		return
	}
	c.topics[q.Name] = q.Count
	for i := range q.Count {
		c.parts[api.Part{Topic: q.Name, Index: i}] = &past{bounds: map[int]bool{0: true}}
	}
}

// of is the request that asks how far the group has read.
func of(k api.Part) wire.Request {
	return wire.Request{Kind: wire.Committed, Group: "g", Name: k.Topic, Index: k.Index}
}

func (c *clients) anyBatch(p *past) (api.Batch, bool) {
	b := api.Batch{Span: 1 + c.r.Intn(3), Producer: -1, Epoch: -1, Seq: -1}
	if c.r.Intn(3) > 0 {
		b = by(c.r.Intn(2), 0, b)
		b.Epoch = p.epochs[b.Producer]
		var sent []api.Batch
		for _, a := range p.sent {
			if a.Producer == b.Producer && a.Epoch == b.Epoch {
				sent = append(sent, a)
				b.Seq = a.Seq + a.Span
			}
		}
		if n := len(sent); n > 0 && c.r.Intn(3) == 0 {
			return sent[n-1-c.r.Intn(min(n, 5))], true
		}
	}
	for at := range b.Span {
		rec := api.Record{At: at, Time: c.r.Intn(50), Key: fmt.Sprint("k", c.r.Intn(6)), Value: strings.Repeat("v", c.r.Intn(30))}
		switch c.r.Intn(6) {
		case 0:
			rec.Gone, rec.Value = true, ""
		case 1:
			rec.Bare, rec.Key = true, ""
		case 2:
			continue
		}
		b.Records = append(b.Records, rec)
	}
	return b, false
}

// produce sends a new batch, or one of a producer's last five again.
func (c *clients) produce() {
	k, p := c.anyPart()
	if p == nil {
		return
	}
	b, again := c.anyBatch(p)
	q := producing(b, k.Index, c.r.Intn(3) == 0)
	q.Name = k.Topic
	end := c.w.End(k.Topic, k.Index)
	r := c.ask(q)
	// Of a producer that is not known any more the first batch is a new one.
	again = again && !(p.thinned && b.Seq == 0 && c.w.End(k.Topic, k.Index) > end)
	switch {
	case again && r.Error == api.OK:
		c.seen["again"]++
		if r.At != b.Base || c.w.End(k.Topic, k.Index) != end {
			c.t.Fatalf("P3: what stands at %d is sent again: At %d", b.Base, r.At)
		}
	case again && down(r.Error):
		return
	case r.Error == api.ErrOrder && p.thinned:
		p.epochs[b.Producer]++
	case again || r.Error != api.OK && !down(r.Error) || r.Error == api.OK && r.At != end:
		c.t.Fatalf("P3: Produce of %s, again %t, to the end %d: %s", short(b), again, end, short(r))
	case c.w.End(k.Topic, k.Index) > end:
		if b.Seq == 0 {
			p.sent = slices.DeleteFunc(p.sent, func(a api.Batch) bool { return a.Producer == b.Producer })
		}
		p.all, p.sent = append(p.all, at(end, b)), append(p.sent, at(end, b))
		p.end = end + b.Span
		p.bounds[end], p.bounds[p.end] = true, true
	}
	if r.Error == api.OK && q.Flag {
		p.sure = max(p.sure, r.At+b.Span)
	}
}

// learn asks where a partition starts; of one that could not be opened yet that is 0.
func (c *clients) learn(k api.Part, p *past) {
	q := fetching(c.w.End(k.Topic, k.Index))
	q.Name, q.Index = k.Topic, k.Index
	if r := c.ask(q); r.Error == api.OK {
		p.start = r.Start
	}
}

func (c *clients) trim() {
	k, p := c.anyPart()
	if p == nil || c.r.Intn(4) > 0 {
		return
	}
	q := trimming(p.start + c.r.Intn(p.end-p.start+1))
	q.Name, q.Index = k.Topic, k.Index
	was := p.start
	r := c.ask(q)
	p.thinned = true
	c.learn(k, p)
	if r.Error != api.OK && !down(r.Error) || r.Error == api.OK && p.start != q.From || p.start != was && p.start != q.From {
		c.t.Fatalf("P24.4: Trim to %d: %d, the start was %d and is %d", q.From, r.Error, was, p.start)
	}
	p.sure = max(p.sure, p.start)
}

func (c *clients) tidy() {
	k, p := c.anyPart()
	if p == nil || c.r.Intn(3) > 0 {
		return
	}
	e := c.w.Tidy(k.Topic, k.Index, []int{1000000, 1000, 200}[c.r.Intn(3)], 0)
	if e != api.OK && !down(e) {
		c.t.Fatalf("P24.2: Tidy: %d", e)
	}
	c.seen[fmt.Sprint("tidy ", e)]++
	p.thinned, p.half = true, p.half || e != api.OK
	ends(c.t, "P24.2: Tidy", c.w, k.Topic, k.Index, p.end)
	c.learn(k, p)
	p.sure = max(p.sure, p.start)
	c.relearn(k, p)
}

// relearn asks which batches are left behind cleaning.
func (c *clients) relearn(k api.Part, p *past) {
	if got, ok := c.fetched(k, p.start); ok {
		c.cleaned(p.shown(), got, p.start)
		p.all = got
	}
}

// cleaned asks that of some batches none is left but as it was, without records that are old; and that no key has lost its last one.
func (c *clients) cleaned(was []api.Batch, is []api.Batch, start int) {
	left := map[int]api.Record{}
	for _, b := range is {
		for _, r := range b.Records {
			left[b.Base+r.At] = r
		}
	}
	last := map[string]int{}
	n := 0
	for _, b := range was {
		for _, r := range b.Records {
			if !r.Bare {
				last[r.Key] = b.Base + r.At
			}
		}
	}
	for _, b := range was {
		for _, r := range b.Records {
			stays, there := left[b.Base+r.At]
			if there && !reflect.DeepEqual(stays, r) {
				c.t.Fatalf("P24.2: Tidy: at %d there is %s, and was %s", b.Base+r.At, short(stays), short(r))
			}
			if there {
				n++
			}
			if !there && b.Base+b.Span > start && (r.Bare || last[r.Key] == b.Base+r.At) {
				c.t.Fatalf("P24.2: Tidy: at %d there is none, and was %s", b.Base+r.At, short(r))
			}
		}
	}
	if n != len(left) {
		c.t.Fatalf("P24.2: Tidy: there are %d records, of which %d were there", len(left), n)
	}
}

func (c *clients) commit() {
	k, p := c.anyPart()
	if p == nil {
		return
	}
	q := committing("g", -1, -1, c.r.Intn(100))
	q.Name, q.Index = k.Topic, k.Index
	r := c.ask(q)
	switch {
	case r.Error == api.OK:
		c.commits[k] = q.From
		delete(c.tried, k)
	case down(r.Error):
		c.tried[k] = append(c.tried[k], q.From)
	default:
		c.t.Fatalf("P24.4: Commit: %d", r.Error)
	}
	c.read(k, false)
}

// read asks how far the group has read: behind a crash it may be any of those that were not answered, too.
func (c *clients) read(k api.Part, crashed bool) {
	want, ok := c.commits[k]
	if !ok {
		want = -1
	}
	r := c.ask(of(k))
	if r.Error != api.OK || r.At != want && !(crashed && slices.Contains(c.tried[k], r.At)) {
		c.t.Fatalf("P2: Committed of %v: %d, %d, want %d, or of %d", k, r.At, r.Error, want, c.tried[k])
	}
	if crashed && r.At >= 0 {
		c.commits[k] = r.At
		delete(c.tried, k)
	}
}

func (c *clients) identify() {
	r := c.ask(wire.Request{Kind: wire.Identify})
	if r.Error == api.OK && r.At == c.next {
		c.next++
	} else if !down(r.Error) {
		c.t.Fatalf("P24.4: Identify: %s, want %d", short(r), c.next)
	}
}

// fetched are all batches from a place on; of a partition that could not be opened yet none are told.
func (c *clients) fetched(k api.Part, from int) ([]api.Batch, bool) {
	var all []api.Batch
	for end := c.w.End(k.Topic, k.Index); from < end; {
		q := fetching(from)
		q.Name, q.Index = k.Topic, k.Index
		r := c.ask(q)
		if r.Error == api.ErrDown {
			return nil, false
		}
		if r.Error != api.OK || r.End != end {
			c.t.Fatalf("P24.4: Fetch from %d of %v: %s", from, k, short(r))
		}
		if len(r.Batches) == 0 {
			break
		}
		all = append(all, r.Batches...)
		from = all[len(all)-1].Base + all[len(all)-1].Span
	}
	return all, true
}

// check asks for all that is known.
func (c *clients) check(what string) {
	for name, n := range c.topics {
		if c.w.End(name, n-1) < 0 || c.w.End(name, n) >= 0 {
			c.t.Fatalf("%s: there is no topic %s with %d partitions", what, name, n)
		}
	}
	for k, p := range c.parts {
		got, ok := c.fetched(k, p.start)
		if want := p.shown(); ok && !same(wire.Reply{Batches: got[:min(len(got), 99)]}, wire.Reply{Batches: want[:min(len(want), 99)]}) || ok && len(got) != len(want) {
			c.t.Fatalf("%s: %v has %s, want %s", what, k, short(got), short(want))
		}
	}
}

// crash tears the disk: each partition is as it was then, cut at some end that is not below what was answered with Flag (P2).
func (c *clients) crash() {
	var keep []int
	for range c.r.Intn(5) {
		keep = append(keep, c.r.Intn(200)-20)
	}
	for id := range 8 {
		c.w.Feed(id, asking(c.t, creating("never", 1))[:1+c.r.Intn(20)])
	}
	crashes(c.t, "anywhere", c.w, keep...)
	for k, p := range c.parts {
		end := c.w.End(k.Topic, k.Index)
		if end < p.sure || end > p.end || !p.bounds[end] && end != p.start {
			c.t.Fatalf("P2: behind a crash %v ends at %d; it ended at %d, and %d was sure", k, end, p.end, p.sure)
		}
		if end < p.end {
			c.seen["cut"]++
		}
		lost := func(b api.Batch) bool { return b.Base+b.Span > end }
		p.all, p.sent = slices.DeleteFunc(p.all, lost), slices.DeleteFunc(p.sent, lost)
		// Of what a crash has left nothing waits any more.
		p.end, p.sure = end, end
		was := p.start
		if c.learn(k, p); p.start != was {
			c.t.Fatalf("P2: behind a crash %v starts at %d, and did at %d", k, p.start, was)
		}
		c.read(k, true)
		if p.half {
			c.relearn(k, p)
			p.half = false
		}
	}
	c.check("P2: behind a crash")
}

func (c *clients) turn() {
	switch k := c.r.Intn(100); {
	case k < 5:
		c.change()
	case k < 60:
		c.produce()
	case k < 68:
		c.trim()
	case k < 76:
		c.tidy()
	case k < 86:
		c.commit()
	case k < 88:
		c.identify()
	case k < 92:
		c.w.Fuse(c.r.Intn(12))
	case k < 95:
		c.w.Fuse(-1)
	case k < 97:
		c.check("P24.4")
	default:
		c.crash()
	}
}

// TestCrashAnywhere has disks that go down within any request, are full, go on, and crash.
func TestCrashAnywhere(t *testing.T) {
	seen := map[string]int{}
	for seed := range 150 {
		r := rand.New(rand.NewSource(int64(seed)))
		config := broker.Config{Session: 100, Rebalance: 30, Limit: []int{50, 100, 400, 1000000}[r.Intn(4)]}
		room := []int{api.MaxDisk, 6000, 1500}[r.Intn(3)]
		c := &clients{t: t, r: r, w: made(t, room, config), seen: seen, topics: map[string]int{}, parts: map[api.Part]*past{}, commits: map[api.Part]int{}, tried: map[api.Part][]int{}}
		for range 400 {
			c.turn()
		}
		c.w.Fuse(-1)
		c.check("P24.4: at last")
		c.crash()
	}
	for what, least := range map[string]int{
		"1 0": 300, "1 7": 30, "2 0": 50, "2 7": 20, "4 0": 5000, "4 5": 1000, "4 7": 1000, "4 9": 20, "7 0": 200, "7 5": 20, "7 7": 50,
		"12 0": 1000, "12 7": 300, "14 0": 200, "14 7": 50, "tidy 0": 300, "tidy 5": 20, "tidy 7": 50, "again": 1000, "cut": 300,
	} {
		if seen[what] < least {
			t.Errorf("%q was seen only %d times", what, seen[what])
		}
	}
}
