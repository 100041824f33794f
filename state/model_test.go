package state_test

import (
	"fmt"
	"math/rand"
	"testing"

	"flotsam/api"
	"flotsam/batch"
	"flotsam/coord"
	"flotsam/idem"
	"flotsam/match"
	"flotsam/state"
	"flotsam/topic"
	"flotsam/wire"
)

// plainPart is a partition as the chapter's words have it: with all batches that it ever had.
type plainPart struct {
	start   int
	batches []api.Batch
	sent    *idem.Producers
}

func (p *plainPart) end() int {
	end := 0
	for _, b := range p.batches {
		end = b.Base + b.Span
	}
	return end
}

// plain is a machine as the chapter's words have it.
type plain struct {
	topics *topic.Table
	coord  *coord.Coord
	next   int
	parts  map[api.Part]*plainPart
}

func (p *plain) end(name string, index int) int {
	if part := p.parts[api.Part{Topic: name, Index: index}]; part != nil {
		return part.end()
	}
	return -1
}

func (p *plain) do(q wire.Request, now int) wire.Reply {
	if _, e := wire.Encode(q); e != api.OK {
		return wire.Reply{Error: api.ErrArg}
	}
	part := p.parts[api.Part{Topic: q.Name, Index: q.Index}]
	if part == nil && (q.Kind >= wire.Produce && q.Kind <= wire.Trim || q.Kind == wire.Commit) {
		return wire.Reply{Error: api.ErrNone}
	}
	var r wire.Reply
	switch q.Kind {
	case wire.Create:
		r.At, r.Error = p.topics.Create(q.Name, q.Count)
		for i := 0; i < q.Count && r.Error == api.OK; i++ {
			p.parts[api.Part{Topic: q.Name, Index: i}] = &plainPart{sent: idem.New()}
		}
	case wire.Delete:
		r.At, r.Error = p.topics.Delete(q.Name)
		for i := 0; i < 16 && r.Error == api.OK; i++ {
			delete(p.parts, api.Part{Topic: q.Name, Index: i})
			p.coord.Drop(q.Name)
		}
	case wire.Describe:
		r.Topics = p.topics.List()
	case wire.Identify:
		r.At = p.next
		p.next++
	case wire.Produce:
		r = part.produce(q.Batch)
	case wire.Fetch:
		r = part.fetch(q)
	case wire.Seek:
		r.At = part.seek(q.From)
	case wire.Trim:
		if q.From < part.start || q.From > part.end() {
			r.Error = api.ErrRange
		} else {
			part.start = q.From
		}
	default:
		r = p.group(q, now)
	}
	return r
}

func (p *plain) group(q wire.Request, now int) wire.Reply {
	var r wire.Reply
	part := api.Part{Topic: q.Name, Index: q.Index}
	switch q.Kind {
	case wire.Join:
		var j coord.Joined
		j, r.Error = p.coord.Join(q.Group, q.Member, q.Topics, now)
		r.Member, r.Generation, r.Leader = j.Member, j.Generation, j.Leader
	case wire.Share:
		r.Parts, r.Error = p.coord.Sync(q.Group, q.Member, q.Generation, p.topics.List(), q.Flag, now)
	case wire.Beat:
		r.Error = p.coord.Beat(q.Group, q.Member, q.Generation, now)
	case wire.Leave:
		r.Error = p.coord.Leave(q.Group, q.Member, now)
	case wire.Commit:
		if r.Error = p.coord.May(q.Group, q.Member, q.Generation); r.Error == api.OK {
			r.Error = p.coord.Commit(q.Group, part, q.From)
		}
	case wire.Committed:
		at, ok := p.coord.Committed(q.Group, part)
		if r.At = at; !ok {
			r.At = -1
		}
	}
	return r
}

func (p *plainPart) produce(b api.Batch) wire.Reply {
	b.Base = p.end()
	s, e := batch.Encode(b)
	if e != api.OK || len(s) > 50000 {
		return wire.Reply{Error: api.ErrArg}
	}
	base, told, e := p.sent.Check(b)
	if e != api.OK || told {
		return wire.Reply{Error: e, At: base}
	}
	p.sent.Note(b)
	p.batches = append(p.batches, b)
	return wire.Reply{At: b.Base}
}

func (p *plainPart) fetch(q wire.Request) wire.Reply {
	if q.From < p.start || q.From > p.end() {
		return wire.Reply{Error: api.ErrRange}
	}
	r := wire.Reply{Start: p.start, End: p.end()}
	bytes := 0
	for _, b := range p.batches {
		if b.Base+b.Span <= q.From {
			continue
		}
		s, _ := batch.Encode(b)
		bytes += len(s)
		if len(r.Batches) > 0 && (bytes > q.Count || bytes > 30000 || len(r.Batches) >= 100) {
			return r
		}
		var l []api.Record
		for _, rec := range b.Records {
			if ok, _ := match.Match(q.Filter, rec); ok {
				l = append(l, rec)
			}
		}
		b.Records = l
		r.Batches = append(r.Batches, b)
	}
	return r
}

func (p *plainPart) seek(time int) int {
	for _, b := range p.batches {
		for _, rec := range b.Records {
			if b.Base+b.Span > p.start && rec.Time >= time {
				return max(b.Base, p.start)
			}
		}
	}
	return p.end()
}

// pair is a machine, and the plain one to which the same is done.
type pair struct {
	t     *testing.T
	r     *rand.Rand
	m     *state.Machine
	plain *plain
	now   int
	ends  map[api.Part]int
	seen  map[string]int
}

func (p *pair) anyTopic() string {
	if p.r.Intn(60) == 0 {
		return ""
	}
	return fmt.Sprint("t", p.r.Intn(4))
}

// anyPlace is mostly one from the start to the end of a partition.
func (p *pair) anyPlace(name string, index int) int {
	part := p.plain.parts[api.Part{Topic: name, Index: index}]
	if part == nil || p.r.Intn(10) == 0 {
		return p.r.Intn(30) - 1
	}
	return part.start - 1 + p.r.Intn(part.end()-part.start+3)
}

func (p *pair) anyBatch(name string, index int) api.Batch {
	b := api.Batch{Base: p.r.Intn(200), Span: 1 + p.r.Intn(5), Producer: -1, Epoch: -1, Seq: -1}
	if p.r.Intn(3) > 0 {
		b.Producer = p.r.Intn(3)
		b.Epoch, b.Seq = p.anySeq(name, index, b.Producer)
	}
	for at := range b.Span {
		if p.r.Intn(2) == 0 {
			continue
		}
		rec := api.Record{At: at, Time: p.now + p.r.Intn(5), Key: fmt.Sprint("k", p.r.Intn(5)), Value: []string{"foo", "Foo bar", "", "bar baz"}[p.r.Intn(4)]}
		if p.r.Intn(3) == 0 {
			rec.Headers = []api.Header{{Key: "h", Value: fmt.Sprint(p.r.Intn(2))}}
		}
		b.Records = append(b.Records, rec)
	}
	switch p.r.Intn(120) {
	case 0, 3, 4:
		b.Span = 0
	case 1:
		b = api.Batch{}
	case 2:
		b = great(p.t, 49998+p.r.Intn(5))
	}
	return b
}

// anySeq is mostly the next one of a producer, or one of its last ones.
func (p *pair) anySeq(name string, index int, producer int) (int, int) {
	epoch, seq := 0, 0
	part := p.plain.parts[api.Part{Topic: name, Index: index}]
	if part == nil {
		return 0, 0
	}
	back := p.r.Intn(8)
	for i := len(part.batches) - 1; i >= 0; i-- {
		b := part.batches[i]
		if b.Producer != producer {
			continue
		}
		epoch, seq = b.Epoch, b.Seq+b.Span
		if back > 5 || i == 0 {
			break
		}
		if back == 0 {
			seq = b.Seq
			break
		}
		back--
	}
	switch p.r.Intn(20) {
	case 0:
		epoch, seq = epoch+1, 0
	case 1:
		epoch = max(epoch-1, 0)
	case 2:
		seq++
	}
	return epoch, seq
}

// again is a batch that the partition has, mostly a late one, or any.
func (p *pair) again(name string, index int) api.Batch {
	part := p.plain.parts[api.Part{Topic: name, Index: index}]
	if part == nil || len(part.batches) == 0 {
		return p.anyBatch(name, index)
	}
	return part.batches[max(len(part.batches)-1-p.r.Intn(12), 0)]
}

func (p *pair) anyFilter(level int) api.Expr {
	kid := func() api.Expr { return p.anyFilter(level + 1) }
	n := p.r.Intn(10)
	if level > 3 {
		n = p.r.Intn(5)
	}
	switch n {
	case 0:
		return api.Expr{Op: api.Has, Name: "h"}
	case 1:
		return api.Expr{Op: api.Is, Name: "h", Value: "1"}
	case 2:
		return api.Expr{Op: api.Prefix, Value: fmt.Sprint("k", p.r.Intn(5))}
	case 3:
		return api.Expr{Op: api.Word, Value: "foo"}
	case 5:
		return api.Expr{Op: api.And, Kids: []api.Expr{kid(), kid()}}
	case 6:
		return api.Expr{Op: api.Or, Kids: []api.Expr{kid(), kid()}}
	case 7:
		return api.Expr{Op: api.Not, Kids: []api.Expr{kid()}}
	}
	return api.Expr{}
}

// anyRequest has mostly what its kind asks for, of things that are there.
func (p *pair) anyRequest() wire.Request {
	kinds := []int{1, 1, 2, 3, 4, 4, 4, 4, 4, 4, 4, 4, 5, 5, 5, 5, 6, 6, 7, 8, 8, 8, 9, 9, 9, 10, 10, 11, 12, 12, 12, 13, 13, 14}
	q := wire.Request{Kind: kinds[p.r.Intn(len(kinds))], Name: p.anyTopic(), Index: p.r.Intn(3), Flag: p.r.Intn(2) == 0, Group: fmt.Sprint("g", p.r.Intn(3))}
	if q.Kind == wire.Delete && p.r.Intn(20) > 0 {
		q.Name = "x"
	}
	if p.r.Intn(20) == 0 {
		q.Index = p.r.Intn(20) - 1
	}
	q.Count = 1 + p.r.Intn(3)
	q.From = p.anyPlace(q.Name, q.Index)
	switch q.Kind {
	case wire.Produce:
		if q.Batch = p.anyBatch(q.Name, q.Index); p.r.Intn(4) == 0 {
			q.Batch = p.again(q.Name, q.Index)
		}
	case wire.Fetch:
		q.Count = p.r.Intn(600) - 1
		if p.r.Intn(4) == 0 {
			q.Count = 1 << p.r.Intn(42)
		}
		q.Filter = p.anyFilter(1)
	case wire.Seek:
		q.From = p.now + p.r.Intn(10) - 5
	case wire.Create:
		q.Count = p.r.Intn(19) - 1
	case wire.Trim:
		if p.r.Intn(3) > 0 {
			q.From = max(q.From-p.r.Intn(20), -1)
		}
	default:
		p.ofGroup(&q)
	}
	return q
}

func (p *pair) ofGroup(q *wire.Request) {
	v := p.plain.coord.Group(q.Group)
	q.Member, q.Generation = p.r.Intn(v.Next+2)-1, v.Generation
	if len(v.Members) > 0 && p.r.Intn(8) > 0 {
		q.Member = v.Members[p.r.Intn(len(v.Members))].Member
	}
	if p.r.Intn(10) == 0 {
		q.Generation = max(q.Generation+p.r.Intn(3)-1, -1)
	}
	if p.r.Intn(8) == 0 {
		q.Member, q.Generation = -1, -1
	}
	if q.Kind == wire.Join {
		for i := range 4 {
			if p.r.Intn(2) == 0 {
				q.Topics = append(q.Topics, fmt.Sprint("t", i))
			}
		}
		if p.r.Intn(3) == 0 && len(v.Members) < 4 {
			q.Member = -1
		}
	}
	if p.r.Intn(60) == 0 {
		q.Member = -2
	}
}

// step does something to both.
func (p *pair) step() {
	q := p.anyRequest()
	now := p.now
	if p.r.Intn(60) == 0 {
		now = -1
	}
	want := p.plain.do(q, now)
	if r := p.m.Do(q, now); !same(r, want) {
		p.t.Fatalf("P20: Do of %s at %d: %s, want %s", short(q), now, short(r), short(want))
	}
	p.seen[fmt.Sprint(q.Kind, " ", want.Error)]++
	if q.Kind == wire.Produce && want.Error == api.OK {
		p.follows(q, want.At)
	}
	if p.r.Intn(10) == 0 {
		p.now += p.r.Intn(8)
		p.m.Tick(p.now)
		p.plain.coord.Tick(p.now)
	}
	for i := range 4 {
		for index := -1; index < 4; index++ {
			p.sameEnd(fmt.Sprint("t", i), index)
		}
	}
}

func (p *pair) sameEnd(name string, index int) {
	k := api.Part{Topic: name, Index: index}
	end, want := p.m.End(name, index), p.plain.end(name, index)
	if end != want {
		p.t.Fatalf("P20.1: End of %q, %d: %d, want %d", name, index, end, want)
	}
	if end >= 0 && end < p.ends[k] {
		p.t.Fatalf("P20.5: End of %q, %d: %d, ahead of it %d", name, index, end, p.ends[k])
	}
	if p.ends[k] = end; end < 0 {
		delete(p.ends, k)
	}
}

// follows: what was produced is fetched where At said, and told again it has the same At.
func (p *pair) follows(q wire.Request, at int) {
	get := wire.Request{Kind: wire.Fetch, Name: q.Name, Index: q.Index, From: at}
	r := p.m.Do(get, 0)
	part := p.plain.parts[api.Part{Topic: q.Name, Index: q.Index}]
	if at >= part.start && (r.Error != api.OK || len(r.Batches) != 1 || r.Batches[0].Base != at || r.Batches[0].Span != q.Batch.Span) {
		p.t.Fatalf("P20.5: Fetch from %d: %s", at, short(r))
	}
	if q.Batch.Producer < 0 {
		return
	}
	if r := p.m.Do(q, 0); r.Error != api.OK || r.At != at {
		p.t.Fatalf("P20.5: told again: %s, want %d", short(r), at)
	}
	p.seen["told again"]++
}

// TestModel does anything to a machine and to a plain one: the replies and the ends are the same.
func TestModel(t *testing.T) {
	seen := map[string]int{}
	for seed := range 30 {
		r := rand.New(rand.NewSource(int64(seed)))
		session, rebalance := 10+r.Intn(60), 1+r.Intn(30)
		m, e := state.New(session, rebalance)
		if e != api.OK {
			t.Fatalf("P20.1: New: %d", e)
		}
		c, _ := coord.New(session, rebalance)
		p := &pair{t: t, r: r, m: m, ends: map[api.Part]int{}, seen: seen}
		p.plain = &plain{topics: topic.New(), coord: c, parts: map[api.Part]*plainPart{}}
		for range 1500 {
			p.step()
		}
	}
	for kind, errors := range [][]api.Errno{
		wire.Create: {api.OK, api.ErrArg, api.ErrThere}, wire.Delete: {api.OK, api.ErrNone}, wire.Describe: {api.OK}, wire.Identify: {api.OK},
		wire.Produce: {api.OK, api.ErrArg, api.ErrNone, api.ErrFenced, api.ErrOrder}, wire.Fetch: {api.OK, api.ErrNone, api.ErrRange},
		wire.Seek: {api.OK, api.ErrNone}, wire.Trim: {api.OK, api.ErrNone, api.ErrRange}, wire.Join: {api.OK, api.ErrArg, api.ErrMember},
		wire.Share: {api.OK, api.ErrArg, api.ErrOld, api.ErrMember, api.ErrWait}, wire.Beat: {api.OK, api.ErrArg, api.ErrOld, api.ErrMember, api.ErrWait},
		wire.Leave: {api.OK, api.ErrArg, api.ErrMember}, wire.Commit: {api.OK, api.ErrArg, api.ErrNone, api.ErrOld, api.ErrMember, api.ErrWait}, wire.Committed: {api.OK},
	} {
		for _, e := range errors {
			if n := seen[fmt.Sprint(kind, " ", e)]; n < 10 {
				t.Errorf("kind %d told %d only %d times", kind, e, n)
			}
		}
	}
	if n := seen["told again"]; n < 100 {
		t.Errorf("only %d batches were told again", n)
	}
}
