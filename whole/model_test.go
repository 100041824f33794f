package whole_test

import (
	"fmt"
	"math/rand"
	"strings"
	"testing"

	"flotsam/api"
	"flotsam/broker"
	"flotsam/state"
	"flotsam/whole"
	"flotsam/wire"
)

// client is a session as it should be: what it was fed and has not taken, and its stage.
type client struct {
	input  string
	rest   string // what is to be fed still
	read   bool
	q      wire.Request
	done   bool
	reply  string
	closes bool
	closed bool
}

// twin is a world, and the machine that says what it is to answer.
type twin struct {
	t       *testing.T
	r       *rand.Rand
	w       *whole.World
	m       *state.Machine
	clients [8]client
	now     int
	last    map[string]wire.Reply // the last one to a Join of a group
	sent    []api.Batch
	seen    map[string]int
}

func (p *twin) one(l ...string) string { return l[p.r.Intn(len(l))] }

func (p *twin) anyBatch() api.Batch {
	if len(p.sent) > 0 && p.r.Intn(4) == 0 {
		return p.sent[max(len(p.sent)-1-p.r.Intn(10), 0)]
	}
	b := api.Batch{Span: 1 + p.r.Intn(5), Producer: -1, Epoch: -1, Seq: -1}
	if p.r.Intn(2) == 0 {
		b = by(p.r.Intn(3), 0, b)
		for _, k := range p.sent {
			if k.Producer == b.Producer {
				b.Seq = k.Seq + k.Span
			}
		}
	}
	for at := range b.Span {
		rec := api.Record{At: at, Time: p.now, Key: p.one("a", "b", "ab"), Value: p.one("", "foo", "Foo bar", strings.Repeat("x", p.r.Intn(500)))}
		if p.r.Intn(3) == 0 {
			rec.Headers = []api.Header{{Key: "h", Value: p.one("1", "2")}}
		}
		b.Records = append(b.Records, rec)
	}
	return b
}

func (p *twin) anyFilter() api.Expr {
	l := []api.Expr{{}, {}, {Op: api.Has, Name: "h"}, {Op: api.Is, Name: "h", Value: "1"}, {Op: api.Prefix, Value: "a"}, {Op: api.Word, Value: "foo"}}
	x := l[p.r.Intn(len(l))]
	if p.r.Intn(3) == 0 {
		return api.Expr{Op: api.Not, Kids: []api.Expr{x}}
	}
	return x
}

func (p *twin) anyRequest() wire.Request {
	kinds := []int{1, 2, 3, 4, 4, 4, 4, 4, 4, 4, 4, 5, 5, 5, 5, 6, 6, 7, 8, 8, 8, 9, 9, 9, 10, 10, 11, 12, 12, 12, 13, 13, 14, 1 + p.r.Intn(14)}
	q := wire.Request{Kind: kinds[p.r.Intn(len(kinds))], Name: p.one("t", "t", "t", "u", "v"), Index: p.r.Intn(2), Flag: p.r.Intn(2) == 0, Group: p.one("g", "h")}
	q.Count = 1 + p.r.Intn(3)
	q.From = p.r.Intn(max(p.m.End(q.Name, q.Index), 0) + 2)
	switch q.Kind {
	case wire.Delete:
		if p.r.Intn(10) > 0 {
			q.Name = "x"
		}
	case wire.Produce:
		q.Batch = p.anyBatch()
		p.sent = append(p.sent, q.Batch)
	case wire.Fetch:
		q.Count, q.Filter = p.r.Intn(30000), p.anyFilter()
	case wire.Trim:
		q.From /= 2
	}
	if q.Kind >= wire.Join && q.Kind <= wire.Commit {
		r := p.last[q.Group]
		q.Member, q.Generation = r.Member, r.Generation
		switch p.r.Intn(8) {
		case 0:
			q.Member, q.Generation = -1, -1
		case 1:
			q.Member, q.Generation = p.r.Intn(4), p.r.Intn(4)
		}
	}
	if q.Kind == wire.Join {
		q.Topics = [][]string{nil, {"t"}, {"t", "u"}, {"u", "t"}}[p.r.Intn(4)]
		if p.r.Intn(2) == 0 {
			q.Member = -1
		}
	}
	return q
}

// feed gives a session some more bytes, of requests and, rarely, of none.
func (p *twin) feed(id int) {
	c := &p.clients[id]
	if c.rest == "" {
		switch p.r.Intn(60) {
		case 0:
			b := make([]byte, p.r.Intn(40))
			p.r.Read(b)
			c.rest, _ = wire.Frame(string(b))
		case 1:
			c.rest = p.one("\xff\xff\xff\xff", "\x00\x00\xea\x61", "\x00\x00\x00\x00")
		default:
			c.rest = asking(p.t, p.anyRequest())
		}
	}
	n := len(c.rest)
	if p.r.Intn(3) == 0 {
		n = p.r.Intn(n + 1)
	}
	e := p.w.Feed(id, c.rest[:n])
	if c.closed && e != api.ErrDown || !c.closed && e != api.OK {
		p.t.Fatalf("P24.2: Feed(%d): %d", id, e)
	}
	if !c.closed {
		c.input += c.rest[:n]
	}
	c.rest = c.rest[n:]
}

// stepped is what a step of the session is to tell.
func (p *twin) stepped(id int) (string, bool) {
	c := &p.clients[id]
	switch {
	case c.closed:
		return "", false
	case c.read:
		r := p.m.Do(c.q, p.now)
		if c.q.Kind == wire.Join && r.Error == api.OK {
			p.last[c.q.Group] = r
		}
		p.seen[fmt.Sprint(c.q.Kind, " ", r.Error)]++
		c.read, c.done, c.reply = false, true, framed(p.t, r)
		return "", true
	case c.done:
		c.done, c.closed = false, c.closes
		return c.reply, true
	}
	text, n, e := wire.Next(c.input)
	if e == api.ErrCut {
		return "", false
	}
	if e == api.OK {
		c.input = c.input[n:]
		if c.q, e = wire.Decode(text); e == api.OK {
			c.read = true
			return "", true
		}
	} else {
		c.input, c.closes = "", true
	}
	p.seen["bad"]++
	c.done, c.reply = true, framed(p.t, wire.Reply{Error: api.ErrForm})
	return "", true
}

func framed(t *testing.T, r wire.Reply) string {
	t.Helper()
	s, e := wire.Answer(r)
	if e != api.OK {
		t.Fatalf("P24.4: the machine's reply may not be: %d: %s", e, short(r))
	}
	f, _ := wire.Frame(s)
	return f
}

func (p *twin) step(id int) {
	q := p.clients[id].q
	want, ok := p.stepped(id)
	if k := p.w.Waits(id); k != ok {
		p.t.Fatalf("P24.2: Waits(%d): %t, want %t", id, k, ok)
	}
	if s, k := p.w.Step(id); s != want || k != ok {
		p.t.Fatalf("P24.4: Step(%d): %x, %t, want %x, %t; the request was %s", id, s, k, want, ok, short(q))
	}
	if p.w.Closed(id) != p.clients[id].closed {
		p.t.Fatalf("P24.2: session %d: closed %t", id, p.w.Closed(id))
	}
}

func (p *twin) any() {
	id := p.r.Intn(8)
	switch k := p.r.Intn(100); {
	case k < 25:
		p.feed(id)
	case k < 95:
		p.step(id)
	default:
		ticks := p.r.Intn(5)
		p.w.Pass(ticks)
		for range ticks {
			p.now++
			p.m.Tick(p.now)
		}
	}
	if p.w.Now() != p.now {
		p.t.Fatalf("P24.2: Now: %d, want %d", p.w.Now(), p.now)
	}
	for _, name := range []string{"t", "u", "v", "x"} {
		for index := -1; index < 4; index++ {
			ends(p.t, "P24.2", p.w, name, index, p.m.End(name, index))
		}
	}
}

// TestModel feeds requests in any parts to all sessions, and steps them in any order: all is told as by the machine to which the requests are done in the order of the steps that do them (P1).
func TestModel(t *testing.T) {
	seen := map[string]int{}
	for seed := range 40 {
		r := rand.New(rand.NewSource(int64(seed)))
		c := broker.Config{Session: 10 + r.Intn(60), Rebalance: 1 + r.Intn(30), Limit: []int{50, 200, 3000, 1000000}[r.Intn(4)]}
		m, e := state.New(c.Session, c.Rebalance)
		if e != api.OK {
			t.Fatalf("state.New: %d", e)
		}
		p := &twin{t: t, r: r, w: made(t, api.MaxDisk, c), m: m, last: map[string]wire.Reply{}, seen: seen}
		for range 2500 {
			p.any()
		}
	}
	for kind, errors := range [][]api.Errno{
		wire.Create: {api.OK, api.ErrThere}, wire.Delete: {api.OK, api.ErrNone}, wire.Describe: {api.OK}, wire.Identify: {api.OK},
		wire.Produce: {api.OK, api.ErrNone, api.ErrOrder}, wire.Fetch: {api.OK, api.ErrNone, api.ErrRange},
		wire.Seek: {api.OK, api.ErrNone}, wire.Trim: {api.OK, api.ErrNone, api.ErrRange}, wire.Join: {api.OK, api.ErrArg, api.ErrMember},
		wire.Share: {api.OK, api.ErrOld, api.ErrMember, api.ErrWait}, wire.Beat: {api.OK, api.ErrOld, api.ErrMember, api.ErrWait},
		wire.Leave: {api.OK, api.ErrMember}, wire.Commit: {api.OK, api.ErrNone, api.ErrOld, api.ErrMember, api.ErrWait}, wire.Committed: {api.OK},
	} {
		for _, e := range errors {
			if n := seen[fmt.Sprint(kind, " ", e)]; n < 5 {
				t.Errorf("kind %d told %d only %d times", kind, e, n)
			}
		}
	}
	if seen["bad"] < 100 {
		t.Errorf("there were only %d bad replies", seen["bad"])
	}
}
