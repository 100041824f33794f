package member_test

import (
	"fmt"
	"maps"
	"math/rand"
	"slices"
	"testing"

	"flotsam/api"
	"flotsam/assign"
	"flotsam/member"
)

// plain is a group as the words tell it.
type plain struct {
	session, rebalance int
	phase              int
	generation, next   int
	until              int
	members            map[int]member.One
}

func (p *plain) view() member.View {
	v := member.View{Phase: p.phase, Generation: p.generation, Next: p.next, Until: p.until}
	for _, m := range slices.Sorted(maps.Keys(p.members)) {
		v.Members = append(v.Members, p.members[m])
	}
	return v
}

// change does something to each member.
func (p *plain) change(do func(o *member.One)) {
	for m, o := range p.members {
		do(&o)
		p.members[m] = o
	}
}

// gone lets members go, and tells how many are left.
func (p *plain) gone(which func(o member.One) bool) int {
	maps.DeleteFunc(p.members, func(m int, o member.One) bool { return which(o) })
	return len(p.members)
}

func (p *plain) empty() { p.phase, p.until = member.Empty, 0 }

func (p *plain) anew(now int) {
	p.phase, p.until = member.Joining, now+p.rebalance
	p.change(func(o *member.One) { o.Joined, o.Parts = false, nil })
	if len(p.members) == 0 {
		p.empty()
	}
}

func (p *plain) close(now int) {
	if p.gone(func(o member.One) bool { return !o.Joined }) == 0 {
		p.empty()
		return
	}
	p.generation++
	p.phase, p.until = member.Syncing, now+p.rebalance
}

func (p *plain) allJoined() bool {
	all := true
	p.change(func(o *member.One) { all = all && o.Joined })
	return all
}

func isTime(now int) bool { return now >= 0 && now <= topTime }

func (p *plain) join(m int, topics []string, now int) (int, api.Errno) {
	rise := true
	for i := range topics {
		rise = rise && (i == 0 || topics[i] > topics[i-1])
	}
	if !isTime(now) || !rise || len(topics) > 20 || m < -1 {
		return 0, api.ErrArg
	}
	if _, ok := p.members[m]; !ok && m >= 0 {
		return 0, api.ErrMember
	}
	if m == -1 && len(p.members) == 20 {
		return 0, api.ErrFull
	}
	if m == -1 {
		m = p.next
		p.next++
	}
	if p.phase != member.Joining {
		p.anew(now)
		p.phase = member.Joining
	}
	p.members[m] = member.One{Member: m, Topics: topics, Until: now + p.session, Joined: true}
	if p.allJoined() {
		p.close(now)
	}
	return m, api.OK
}

func (p *plain) named(m int, generation int) api.Errno {
	if _, ok := p.members[m]; !ok {
		return api.ErrMember
	}
	if generation != p.generation {
		return api.ErrOld
	}
	return api.OK
}

func (p *plain) lives(m int, now int) {
	o := p.members[m]
	o.Until = now + p.session
	p.members[m] = o
}

func (p *plain) sync(m int, generation int, topics []api.Topic, round bool, now int) ([]api.Part, api.Errno) {
	if !isTime(now) {
		return nil, api.ErrArg
	}
	if e := p.knows(m, generation); e != api.OK {
		return nil, e
	}
	p.lives(m, now)
	if p.phase == member.Syncing {
		v := p.view()
		if v.Members[0].Member != m {
			return nil, api.ErrWait
		}
		shares, e := shared(v, topics, round)
		if e != api.OK {
			return nil, e
		}
		p.change(func(o *member.One) { o.Parts = shares[o.Member] })
		p.phase, p.until = member.Stable, 0
	}
	return p.members[m].Parts, api.OK
}

// shared is what assign gives to each member.
func shared(v member.View, topics []api.Topic, round bool) (map[int][]api.Part, api.Errno) {
	var subs []api.Sub
	for _, o := range v.Members {
		subs = append(subs, api.Sub{Member: o.Member, Topics: o.Topics})
	}
	l, e := assign.Range(subs, topics)
	if round {
		l, e = assign.Round(subs, topics)
	}
	shares := map[int][]api.Part{}
	for _, s := range l {
		shares[s.Member] = s.Parts
	}
	return shares, e
}

func (p *plain) beat(m int, generation int, now int) api.Errno {
	if !isTime(now) {
		return api.ErrArg
	}
	if e := p.named(m, generation); e != api.OK {
		return e
	}
	p.lives(m, now)
	if p.phase == member.Joining || p.phase == member.Syncing {
		return api.ErrWait
	}
	return api.OK
}

func (p *plain) leave(m int, now int) api.Errno {
	if !isTime(now) {
		return api.ErrArg
	}
	if _, ok := p.members[m]; !ok {
		return api.ErrMember
	}
	delete(p.members, m)
	p.fewer(now)
	return api.OK
}

// fewer is what Leave says of the phase.
func (p *plain) fewer(now int) {
	switch {
	case p.phase != member.Joining:
		p.anew(now)
	case len(p.members) == 0:
		p.empty()
	case p.allJoined():
		p.close(now)
	}
}

func (p *plain) tick(now int) {
	if !isTime(now) {
		return
	}
	n := len(p.members)
	if p.gone(func(o member.One) bool { return o.Until <= now }) < n {
		p.fewer(now)
	}
	if p.phase == member.Joining && p.until <= now {
		p.close(now)
	}
	if p.phase == member.Syncing && p.until <= now {
		delete(p.members, p.view().Members[0].Member)
		p.anew(now)
	}
}

func (p *plain) knows(m int, generation int) api.Errno {
	e := p.named(m, generation)
	if e == api.OK && p.phase == member.Joining {
		return api.ErrWait
	}
	return e
}

// pair is a group, and the plain one to which the same is done.
type pair struct {
	t      *testing.T
	r      *rand.Rand
	group  *member.Group
	plain  *plain
	now    int
	dealt  []api.Topic
	phases map[int]int
}

// anyMember is mostly one that is there.
func (p *pair) anyMember() int {
	if l := p.plain.view().Members; len(l) > 0 && p.r.Intn(8) > 0 {
		return l[p.r.Intn(len(l))].Member
	}
	return p.r.Intn(p.plain.next+4) - 2
}

// anyGeneration is mostly the one that is.
func (p *pair) anyGeneration() int {
	if p.r.Intn(8) > 0 {
		return p.plain.generation
	}
	return p.plain.generation + p.r.Intn(5) - 2
}

// anyTime is mostly a little later than the one ahead.
func (p *pair) anyTime() int {
	switch p.r.Intn(40) {
	case 0:
		return -1 - p.r.Intn(2)
	case 1:
		return topTime + 1
	case 2:
		return max(p.now-p.r.Intn(20), 0)
	case 3:
		p.now += p.r.Intn(40)
	default:
		p.now += p.r.Intn(4)
	}
	return p.now
}

func (p *pair) anyWants() []string {
	var l []string
	for _, name := range []string{"a", "b", "c", "d"} {
		if p.r.Intn(2) == 0 {
			l = append(l, name)
		}
	}
	if len(l) > 1 && p.r.Intn(20) == 0 {
		slices.Reverse(l)
	}
	return l
}

func (p *pair) anyTopics() []api.Topic {
	var l []api.Topic
	for _, name := range []string{"a", "b", "c", "e"} {
		if p.r.Intn(3) > 0 {
			l = append(l, api.Topic{Name: name, Parts: 1 + p.r.Intn(16)})
		}
	}
	if len(l) > 0 && p.r.Intn(10) == 0 {
		l[p.r.Intn(len(l))].Parts = 17 * p.r.Intn(2)
	}
	return l
}

// call is what a step names.
type call struct {
	m, generation, now int
	what               string
}

// step does something to both, and holds all of them against each other behind it.
func (p *pair) step() {
	ahead := told(p.group.View())
	c := call{m: p.anyMember(), generation: p.anyGeneration(), now: p.anyTime()}
	c.what = fmt.Sprintf("of %d, generation %d, at %d, of %s", c.m, c.generation, c.now, ahead)
	ways := []func(call) bool{p.join, p.join, p.join, p.sync, p.sync, p.sync, p.beat, p.beat, p.leave, p.tick, p.tick, p.knows}
	mayChange := ways[p.r.Intn(len(ways))](c)
	p.phases[p.plain.phase]++
	s := told(p.group.View())
	if want := told(p.plain.view()); s != want {
		p.t.Fatalf("P15.6: %s: %q, want %q", c.what, s, want)
	}
	if !mayChange && s != ahead {
		p.t.Fatalf("P15.7: %s: %q", c.what, s)
	}
}

// join and those that follow tell whether something may have changed: not, if no member was named, or another generation.
func (p *pair) join(c call) bool {
	m, l := c.m, p.anyWants()
	if p.r.Intn(3) == 0 {
		m = -1
	}
	n, e := p.group.Join(m, l, c.now)
	if n2, e2 := p.plain.join(m, l, c.now); n != n2 || e != e2 {
		p.t.Fatalf("P15.2: Join of %d with %v %s: %d, %d, want %d, %d", m, l, c.what, n, e, n2, e2)
	}
	return e == api.OK
}

func (p *pair) sync(c call) bool {
	l, round := p.anyTopics(), p.r.Intn(2) == 0
	if p.plain.phase == member.Syncing && p.r.Intn(2) == 0 {
		c.m, c.generation = p.plain.view().Members[0].Member, p.plain.generation
	}
	ahead, named := p.plain.phase, p.plain.named(c.m, c.generation)
	got, e := p.group.Sync(c.m, c.generation, l, round, c.now)
	if got2, e2 := p.plain.sync(c.m, c.generation, l, round, c.now); !slices.Equal(got, got2) || e != e2 {
		p.t.Fatalf("P15.3: Sync of %d with %v, %t %s:%s, %d, want%s, %d", c.m, l, round, c.what, parts(got), e, parts(got2), e2)
	}
	if ahead == member.Syncing && p.plain.phase == member.Stable {
		p.dealt = l
	}
	return named == api.OK
}

func (p *pair) beat(c call) bool {
	named := p.plain.named(c.m, c.generation)
	if e, e2 := p.group.Beat(c.m, c.generation, c.now), p.plain.beat(c.m, c.generation, c.now); e != e2 {
		p.t.Fatalf("P15.4: Beat %s: %d, want %d", c.what, e, e2)
	}
	return named == api.OK
}

func (p *pair) leave(c call) bool {
	e, e2 := p.group.Leave(c.m, c.now), p.plain.leave(c.m, c.now)
	if e != e2 {
		p.t.Fatalf("P15.4: Leave %s: %d, want %d", c.what, e, e2)
	}
	return e == api.OK
}

func (p *pair) tick(c call) bool {
	p.group.Tick(c.now)
	p.plain.tick(c.now)
	return true
}

func (p *pair) knows(c call) bool {
	if e, e2 := p.group.Knows(c.m, c.generation), p.plain.knows(c.m, c.generation); e != e2 {
		p.t.Fatalf("P15.4: Knows %s: %d, want %d", c.what, e, e2)
	}
	return false
}

// covers tells that in Stable each partition that somebody wants is one member's, that wants it, and no other's.
func (p *pair) covers() {
	v := p.group.View()
	if v.Phase != member.Stable {
		return
	}
	given := map[api.Part]int{}
	wanted := map[string]bool{}
	for _, o := range v.Members {
		for _, name := range o.Topics {
			wanted[name] = true
		}
		for _, part := range o.Parts {
			given[part]++
			if !slices.Contains(o.Topics, part.Topic) {
				p.t.Fatalf("P15.7: %d has what it does not want: %s", o.Member, told(v))
			}
		}
	}
	for _, topic := range p.dealt {
		for i := range topic.Parts {
			part := api.Part{Topic: topic.Name, Index: i}
			if wanted[topic.Name] && given[part] != 1 {
				p.t.Fatalf("P15.7: %v is given %d times: %s", part, given[part], told(v))
			}
			delete(given, part)
		}
	}
	if len(given) > 0 {
		p.t.Fatalf("P15.7: there is no %v: %s", given, told(v))
	}
}

// TestModel does anything to a group and to a plain one: the answers and the Views are the same, and what follows holds.
func TestModel(t *testing.T) {
	phases := map[int]int{}
	for seed := range 400 {
		r := rand.New(rand.NewSource(int64(seed)))
		session, rebalance := 1+r.Intn(60), 1+r.Intn(30)
		g, e := member.New(session, rebalance)
		if e != api.OK {
			t.Fatalf("P15.1: New: %d", e)
		}
		p := &pair{t: t, r: r, group: g, plain: &plain{session: session, rebalance: rebalance, members: map[int]member.One{}}, phases: phases}
		for range 200 {
			generation := g.View().Generation
			p.step()
			if n := g.View().Generation; n < generation {
				t.Fatalf("P15.7: generation %d comes behind %d", n, generation)
			}
			p.covers()
		}
	}
	for phase := member.Empty; phase <= member.Stable; phase++ {
		if phases[phase] < 1000 {
			t.Errorf("phase %d came %d times alone", phase, phases[phase])
		}
	}
}

// TestComeToStable: members that beat in time, join again while the group is Joining, and sync behind that, come to Stable, whoever went ahead (P5).
func TestComeToStable(t *testing.T) {
	for seed := range 100 {
		r := rand.New(rand.NewSource(int64(seed)))
		g := newGroup(t)
		stay := 0
		for now := range 1 + r.Intn(20) {
			m, _ := g.Join(-1, []string{"a"}, now)
			stay++
			if r.Intn(4) == 0 {
				gives(t, "P15.4: Leave", g.Leave(m, now), api.OK)
				stay--
			}
		}
		for now := 20; now < 24; now++ {
			for _, o := range g.View().Members {
				beats(t, g, o.Member, now)
			}
			g.Tick(now)
		}
		if v := g.View(); stay > 0 && v.Phase != member.Stable || len(v.Members) != stay {
			t.Fatalf("P5: seed %d: %d members: %s", seed, stay, told(v))
		}
	}
}

// beats has a member beat, and do what there is to be done then.
func beats(t *testing.T, g *member.Group, m int, now int) {
	t.Helper()
	v := g.View()
	if g.Beat(m, v.Generation, now) != api.ErrWait {
		return
	}
	if v.Phase == member.Syncing {
		g.Sync(m, v.Generation, topics("a", 16), false, now)
		return
	}
	i := slices.IndexFunc(v.Members, func(o member.One) bool { return o.Member == m })
	if !v.Members[i].Joined {
		joins(t, g, m, "a", now, m)
	}
}
