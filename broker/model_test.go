package broker_test

import (
	"fmt"
	"math/rand"
	"strings"
	"testing"

	"flotsam/api"
	"flotsam/broker"
	"flotsam/disk"
	"flotsam/state"
	"flotsam/wire"
)

// pair is a broker, and the machine to which the same is done.
type pair struct {
	t     *testing.T
	r     *rand.Rand
	b     *broker.Broker
	m     *state.Machine
	now   int
	known []api.Batch // that were produced
	seen  map[string]int
}

func (p *pair) one(l ...string) string { return l[p.r.Intn(len(l))] }

func (p *pair) anyBatch() api.Batch {
	if len(p.known) > 0 && p.r.Intn(4) == 0 {
		return p.known[max(len(p.known)-1-p.r.Intn(12), 0)]
	}
	b := small(p.r.Intn(40) / 8)
	if p.r.Intn(2) == 0 {
		b = by(p.r.Intn(2), 0, b)
		for _, k := range p.known {
			if k.Producer == b.Producer {
				b.Epoch, b.Seq = k.Epoch, k.Seq+k.Span
			}
		}
		if p.r.Intn(10) == 0 {
			b.Epoch, b.Seq = max(b.Epoch+p.r.Intn(3)-1, 0), 0
		}
	}
	for at := range b.Span {
		if p.r.Intn(3) == 0 {
			continue
		}
		rec := api.Record{At: at, Time: p.now + p.r.Intn(9), Key: p.one("a", "b", "ab"), Value: p.one("", "foo", "Foo bar", strings.Repeat("x", p.r.Intn(1000)))}
		if p.r.Intn(3) == 0 {
			rec.Headers = []api.Header{{Key: "h", Value: p.one("1", "2")}}
		}
		b.Records = append(b.Records, rec)
	}
	return b
}

func (p *pair) anyFilter() api.Expr {
	l := []api.Expr{{}, {Op: api.Has, Name: "h"}, {Op: api.Is, Name: "h", Value: "1"}, {Op: api.Prefix, Value: "a"}, {Op: api.Word, Value: "foo"}}
	x := l[p.r.Intn(len(l))]
	switch p.r.Intn(5) {
	case 0:
		return api.Expr{Op: api.Not, Kids: []api.Expr{x}}
	case 1:
		return api.Expr{Op: api.Or, Kids: []api.Expr{x, l[p.r.Intn(len(l))]}}
	case 2:
		return api.Expr{Op: api.And, Kids: []api.Expr{x, l[p.r.Intn(len(l))]}}
	}
	return x
}

// anyPlace is mostly one from the start to the end of a partition.
func (p *pair) anyPlace(name string, index int) int {
	end := max(p.m.End(name, index), 0)
	start := p.m.Do(wire.Request{Kind: wire.Seek, Name: name, Index: index, From: -1}, 0).At
	if p.r.Intn(6) == 0 {
		return p.r.Intn(end+4) - 1
	}
	return start + p.r.Intn(max(end-start, 0)+1)
}

func (p *pair) anyRequest() wire.Request {
	kinds := []int{1, 1, 2, 3, 4, 4, 4, 4, 4, 4, 4, 4, 4, 5, 5, 5, 5, 6, 6, 6, 7, 8, 8, 8, 9, 9, 9, 10, 10, 11, 12, 12, 12, 13, 13, 14, p.r.Intn(17)}
	q := wire.Request{Kind: kinds[p.r.Intn(len(kinds))], Name: p.one("t", "t", "t", "u", "v"), Index: p.r.Intn(3), Flag: p.r.Intn(2) == 0, Group: p.one("g", "h", "")}
	q.Count = 1 + p.r.Intn(3)
	if q.Kind == wire.Delete && p.r.Intn(15) > 0 {
		q.Name = "x"
	}
	q.From = p.anyPlace(q.Name, q.Index)
	switch q.Kind {
	case wire.Create:
		q.Count = []int{1, 2, 3, 16, 0, 17, -1}[p.r.Intn(7)]
	case wire.Produce:
		q.Batch = p.anyBatch()
	case wire.Fetch:
		q.Count = p.r.Intn(3000)
		if p.r.Intn(3) == 0 {
			q.Count = 1<<p.r.Intn(42) - 1
		}
		q.Filter = p.anyFilter()
	case wire.Seek:
		q.From = p.now + p.r.Intn(20) - 15
	case wire.Trim:
		if q.From > 20 && p.r.Intn(4) > 0 {
			q.From = 0
		}
	default:
		p.ofGroup(&q)
	}
	return q
}

func (p *pair) ofGroup(q *wire.Request) {
	q.Member, q.Generation = p.r.Intn(6)-1, p.r.Intn(6)
	// What the machine has told of the group last is mostly right still.
	if p.r.Intn(4) > 0 {
		q.Member, q.Generation = p.seen[q.Group+" member"], p.seen[q.Group+" generation"]
	}
	if p.r.Intn(8) == 0 {
		q.Member, q.Generation = -1, -1
	}
	if q.Kind == wire.Join {
		if p.r.Intn(2) == 0 {
			q.Member = -1
		}
		q.Topics = [][]string{nil, {"t"}, {"t", "u"}, {"u", "t"}}[p.r.Intn(4)]
	}
	if p.r.Intn(50) == 0 {
		q.From = 1<<40 + p.r.Intn(2)
	}
}

func (p *pair) step() {
	q := p.anyRequest()
	now := p.now
	switch p.r.Intn(60) {
	case 0:
		now = -1
	case 1:
		now = 1<<40 + 1
	}
	want := p.m.Do(q, now)
	if r := p.b.Do(q, now); !same(r, want) {
		p.t.Fatalf("P22.2: Do of %s at %d: %s, want %s", short(q), now, short(r), short(want))
	}
	p.seen[fmt.Sprint(q.Kind, " ", want.Error)]++
	switch {
	case q.Kind == wire.Join && want.Error == api.OK:
		p.seen[q.Group+" member"], p.seen[q.Group+" generation"] = want.Member, want.Generation
	case q.Kind == wire.Produce && want.Error == api.OK:
		p.known = append(p.known, q.Batch)
	}
	if p.r.Intn(10) == 0 {
		p.now += p.r.Intn(8)
		p.m.Tick(p.now)
		p.b.Tick(p.now)
	}
	for _, name := range []string{"t", "u", "v", "x", ""} {
		for index := -1; index < 4; index++ {
			ends(p.t, "P22.2", p.b, name, index, p.m.End(name, index))
		}
	}
}

// TestModel does anything to a broker on an empty disk, and to a machine: the replies and the ends are the same.
func TestModel(t *testing.T) {
	seen := map[string]int{}
	for seed := range 40 {
		r := rand.New(rand.NewSource(int64(seed)))
		c := broker.Config{Session: 10 + r.Intn(60), Rebalance: 1 + r.Intn(30), Limit: []int{50, 200, 3000, 1000000}[r.Intn(4)]}
		d, _ := disk.New(api.MaxDisk)
		b, e := broker.Open(d, c)
		if e != api.OK {
			t.Fatalf("P22.1: Open: %d", e)
		}
		m, _ := state.New(c.Session, c.Rebalance)
		p := &pair{t: t, r: r, b: b, m: m, seen: seen}
		for range 1200 {
			p.step()
		}
	}
	for kind, errors := range [][]api.Errno{
		wire.Create: {api.OK, api.ErrArg, api.ErrThere}, wire.Delete: {api.OK, api.ErrNone}, wire.Describe: {api.OK}, wire.Identify: {api.OK},
		wire.Produce: {api.OK, api.ErrArg, api.ErrNone, api.ErrFenced, api.ErrOrder}, wire.Fetch: {api.OK, api.ErrNone, api.ErrRange},
		wire.Seek: {api.OK, api.ErrNone}, wire.Trim: {api.OK, api.ErrNone, api.ErrRange}, wire.Join: {api.OK, api.ErrArg, api.ErrMember},
		wire.Share: {api.OK, api.ErrArg, api.ErrOld, api.ErrMember, api.ErrWait}, wire.Beat: {api.OK, api.ErrArg, api.ErrOld, api.ErrMember, api.ErrWait},
		wire.Leave: {api.OK, api.ErrMember}, wire.Commit: {api.OK, api.ErrArg, api.ErrNone, api.ErrOld, api.ErrMember, api.ErrWait}, wire.Committed: {api.OK},
	} {
		for _, e := range errors {
			if n := seen[fmt.Sprint(kind, " ", e)]; n < 5 {
				t.Errorf("kind %d told %d only %d times", kind, e, n)
			}
		}
	}
}
