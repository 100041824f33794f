package session_test

import (
	"math/rand"
	"reflect"
	"testing"

	"flotsam/api"
	"flotsam/session"
	"flotsam/wire"
)

// plain is a session as the chapter's words have it.
type plain struct {
	input string
	read  []wire.Request // the one that was read
	done  []wire.Reply   // the one that is done
	form  bool           // it is to be closed
	shut  bool
}

func (p *plain) feed(bytes string) api.Errno {
	switch {
	case p.shut:
		return api.ErrDown
	case len(p.input)+len(bytes) > topInput:
		return api.ErrFull
	}
	p.input += bytes
	return api.OK
}

func (p *plain) step(do func(q wire.Request) wire.Reply) ([]wire.Reply, bool) {
	switch {
	case p.shut:
		return nil, false
	case len(p.read) > 0:
		p.done, p.read = []wire.Reply{do(p.read[0])}, nil
		return nil, true
	case len(p.done) > 0:
		r := p.done
		p.done, p.shut = nil, p.form
		return r, true
	}
	text, n, e := wire.Next(p.input)
	if e == api.ErrCut {
		return nil, false
	}
	if e == api.ErrForm {
		p.input, p.form, p.done = "", true, []wire.Reply{{Error: api.ErrForm}}
		return nil, true
	}
	p.input = p.input[n:]
	if q, e := wire.Decode(text); e == api.OK {
		p.read = []wire.Request{q}
	} else {
		p.done = []wire.Reply{{Error: api.ErrForm}}
	}
	return nil, true
}

// script feeds and steps any session, and holds the server against eight plain ones.
type script struct {
	t     *testing.T
	r     *rand.Rand
	s     *session.Server
	d     *doer
	plain [8]plain
	model doer
	rest  [8]string // what is to be fed still
	seen  map[string]int
	// greedy: there come more bytes than are taken.
	greedy bool
}

// anyBytes are mostly a request's frame.
func (c *script) anyBytes() string {
	if c.greedy && c.r.Intn(2) == 0 {
		return framed(c.t, string(make([]byte, c.r.Intn(60001))))
	}
	switch c.r.Intn(40) {
	case 0, 1, 2:
		b := make([]byte, c.r.Intn(30))
		c.r.Read(b)
		return framed(c.t, string(b))
	case 3:
		return "\x00\x00\x00\x00"
	case 4:
		if c.r.Intn(2) == 0 {
			return "\x00\x00\xea\x61"
		}
	case 5:
		return framed(c.t, string(make([]byte, c.r.Intn(60001))))
	}
	return asking(c.t, wire.Request{Kind: 1 + c.r.Intn(14), Name: string(make([]byte, c.r.Intn(100))), From: c.r.Intn(1000)})
}

func (c *script) feed(id int) {
	if c.rest[id] == "" {
		for range 1 + c.r.Intn(3) {
			c.rest[id] += c.anyBytes()
		}
	}
	n := c.r.Intn(len(c.rest[id]) + 1)
	if !c.greedy && c.r.Intn(3) == 0 {
		n = min(n, c.r.Intn(9))
	}
	want := c.plain[id].feed(c.rest[id][:n])
	feeds(c.t, "any", c.s, id, c.rest[id][:n], want)
	if want == api.OK {
		c.rest[id] = c.rest[id][n:]
	}
	if want == api.ErrFull {
		c.seen["full"]++
	}
}

func (c *script) step(id int) {
	now := c.r.Intn(100)
	replies, ok := c.plain[id].step(func(q wire.Request) wire.Reply { return c.model.Do(q, now) })
	want := ""
	for _, r := range replies {
		want = telling(c.t, r)
		c.seen[[]string{"right", "bad"}[min(int(r.Error), 1)]]++
	}
	steps(c.t, "any", c.s, id, now, want, ok)
	for id := range 8 {
		isClosed(c.t, "any", c.s, id, c.plain[id].shut)
	}
	if !reflect.DeepEqual(c.d.all, c.model.all) {
		c.t.Fatalf("P23.5: done was %+v, want %+v", c.d.all, c.model.all)
	}
	c.d.all, c.model.all = nil, nil
}

// TestModel feeds frames in any parts to all sessions, and steps them in any order.
func TestModel(t *testing.T) {
	seen := map[string]int{}
	for seed := range 60 {
		c := &script{t: t, r: rand.New(rand.NewSource(int64(seed))), seen: seen}
		c.s, c.d = fresh(t)
		c.greedy = seed%4 == 0
		for range 1500 {
			id := c.r.Intn(8)
			if c.greedy && c.r.Intn(3) > 0 || c.r.Intn(4) == 0 {
				c.feed(id)
				continue
			}
			c.step(id)
		}
		for id := range 8 {
			if c.plain[id].shut {
				seen["closed"]++
			}
		}
		if t.Failed() {
			return
		}
	}
	for what, least := range map[string]int{"right": 3000, "bad": 1000, "closed": 30, "full": 300} {
		if seen[what] < least {
			t.Errorf("%s was seen only %d times", what, seen[what])
		}
	}
}

// TestOrder: of each session the replies come in the order of its requests, one for each, and requests are done one by one (P23.5).
func TestOrder(t *testing.T) {
	r := rand.New(rand.NewSource(1))
	s, d := fresh(t)
	var input, told [8]string
	var want [8]int
	for id := range input {
		for i := range 40 {
			input[id] += asking(t, request(1000*id+i))
		}
	}
	for turn := 0; turn < 20000; turn++ {
		id := r.Intn(8)
		n := min(r.Intn(30), len(input[id]))
		feeds(t, "an order", s, id, input[id][:n], api.OK)
		input[id] = input[id][n:]
		was := len(d.all)
		reply, _ := s.Step(id, turn)
		told[id] += reply
		if len(d.all) > was+1 || len(d.all) == was+1 && d.all[was].now != turn {
			t.Fatalf("P23.5: at one step there were done %+v", d.all[was:])
		}
	}
	place := map[int]int{}
	for i, a := range d.all {
		place[a.q.From] = i + 1
	}
	for id := range told {
		for text, n, e := wire.Next(told[id]); e == api.OK; text, n, e = wire.Next(told[id]) {
			told[id] = told[id][n:]
			got, _ := wire.Read(text)
			if got.At != 1000*id+want[id] || got.Member != place[got.At] {
				t.Fatalf("P23.5: session %d has the reply %+v, want that of %d", id, got, want[id])
			}
			want[id]++
		}
		if want[id] != 40 || told[id] != "" {
			t.Errorf("P23.5: session %d has %d replies, want 40; %d bytes are left", id, want[id], len(told[id]))
		}
	}
}
