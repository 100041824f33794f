package coord_test

import (
	"fmt"
	"maps"
	"math/rand"
	"slices"
	"strings"
	"testing"

	"flotsam/api"
	"flotsam/coord"
	"flotsam/member"
)

// place is what somebody commits of.
type place struct {
	group string
	part  api.Part
}

// plain is a coordinator as the chapter's words have it: groups of member, and offsets in a map.
type plain struct {
	session, rebalance int
	groups             map[string]*member.Group
	offsets            map[place]int
}

func mayBeNamed(s string) bool { return len(s) >= 1 && len(s) <= 100 }

func (p *plain) join(group string, m int, l []string, now int) (coord.Joined, api.Errno) {
	if !mayBeNamed(group) {
		return coord.Joined{}, api.ErrArg
	}
	g := p.groups[group]
	if g == nil {
		if len(p.groups) == 20 {
			return coord.Joined{}, api.ErrFull
		}
		g, _ = member.New(p.session, p.rebalance)
	}
	n, e := g.Join(m, l, now)
	if e != api.OK {
		return coord.Joined{}, e
	}
	p.groups[group] = g
	return coord.Joined{Member: n, Generation: g.View().Generation, Leader: g.View().Members[0].Member}, api.OK
}

func (p *plain) may(group string, m int, generation int) api.Errno {
	g := p.groups[group]
	switch {
	case m == -1 && generation == -1 && (g == nil || g.View().Phase == member.Empty):
		return api.OK
	case m == -1 && generation == -1 || g == nil:
		return api.ErrMember
	}
	return g.Knows(m, generation)
}

func (p *plain) commit(k place, at int) api.Errno {
	_, there := p.offsets[k]
	switch {
	case !mayBeNamed(k.group) || !mayBeNamed(k.part.Topic) || k.part.Index < 0 || k.part.Index > 15 || at < 0 || at > topOffset:
		return api.ErrArg
	case !there && len(p.offsets) == 1000:
		return api.ErrFull
	}
	p.offsets[k] = at
	return api.OK
}

func (p *plain) drop(topic string) int {
	n := 0
	for k := range maps.Clone(p.offsets) {
		if k.part.Topic == topic {
			delete(p.offsets, k)
			n++
		}
	}
	return n
}

// pair is a coordinator, and the plain one to which the same is done.
type pair struct {
	t     *testing.T
	r     *rand.Rand
	coord *coord.Coord
	plain *plain
	now   int
	seen  map[string]int
}

// anyGroup is mostly one of 24, of which 20 may be there.
func (p *pair) anyGroup() string {
	switch p.r.Intn(60) {
	case 0:
		return ""
	case 1:
		return strings.Repeat("x", 101)
	}
	return fmt.Sprint("g", p.r.Intn(24))
}

// anyTime is mostly a little later than the one ahead.
func (p *pair) anyTime() int {
	switch p.r.Intn(60) {
	case 0:
		return -1
	case 1:
		return topTime + 1
	case 2:
		return max(p.now-p.r.Intn(20), 0)
	}
	if p.r.Intn(3) == 0 {
		p.now += p.r.Intn(3)
	}
	return p.now
}

// anyMember is mostly one of the group, and its generation.
func (p *pair) anyMember(group string) (int, int) {
	v := p.plain.groups[group].View()
	m, generation := p.r.Intn(v.Next+3)-2, v.Generation
	if len(v.Members) > 0 && p.r.Intn(8) > 0 {
		m = v.Members[p.r.Intn(len(v.Members))].Member
	}
	if p.r.Intn(8) == 0 {
		generation += p.r.Intn(5) - 2
	}
	if p.r.Intn(8) == 0 {
		m, generation = -1, -1
	}
	return m, generation
}

func (p *pair) anyWants() []string {
	var l []string
	for _, name := range []string{"a", "b", "c"} {
		if p.r.Intn(2) == 0 {
			l = append(l, name)
		}
	}
	if len(l) > 1 && p.r.Intn(20) == 0 {
		slices.Reverse(l)
	}
	return l
}

func (p *pair) anyPlace() place {
	topic := fmt.Sprint("t", p.r.Intn(4))
	if p.r.Intn(60) == 0 {
		topic = ""
	}
	return place{group: p.anyGroup(), part: part(topic, p.r.Intn(18)-1)}
}

// views are all groups but one, as texts.
func (p *pair) views(but string) map[string]string {
	l := map[string]string{}
	for _, name := range p.coord.Names() {
		if name != but {
			l[name] = told(p.coord.Group(name))
		}
	}
	return l
}

// same holds both against each other.
func (p *pair) same(what string) {
	names := slices.Sorted(maps.Keys(p.plain.groups))
	if l := p.coord.Names(); !slices.Equal(l, names) {
		p.t.Fatalf("P17.1: %s: Names: %q, want %q", what, l, names)
	}
	for i := range 24 {
		name := fmt.Sprint("g", i)
		if s, want := told(p.coord.Group(name)), told(p.plain.groups[name].View()); s != want {
			p.t.Fatalf("P17.1: %s: Group of %q: %q, want %q", what, name, s, want)
		}
	}
}

// step does something to both; of groups that it does not name nothing changes.
func (p *pair) step() {
	group, now := p.anyGroup(), p.anyTime()
	m, generation := p.anyMember(group)
	what := fmt.Sprintf("%q, %d of generation %d, at %d", group, m, generation, now)
	ahead := p.views(group)
	ways := []func(string, int, int, int, string){p.join, p.join, p.sync, p.sync, p.beat, p.leave, p.may, p.commit, p.drop}
	ways[p.r.Intn(len(ways))](group, m, generation, now, what)
	if behind := p.views(group); !maps.Equal(behind, ahead) {
		p.t.Fatalf("P17.6: %s: %v, ahead of it %v", what, behind, ahead)
	}
	p.same(what)
	if p.r.Intn(10) == 0 {
		p.coord.Tick(now)
		for _, g := range p.plain.groups {
			g.Tick(now)
		}
		p.same(fmt.Sprint("P17.5: Tick of ", now))
	}
}

func (p *pair) told(call string, e api.Errno) { p.seen[fmt.Sprint(call, " ", e)]++ }

func (p *pair) join(group string, m int, generation int, now int, what string) {
	l := p.anyWants()
	if p.r.Intn(3) == 0 {
		m = -1
	}
	j, e := p.coord.Join(group, m, l, now)
	if j2, e2 := p.plain.join(group, m, l, now); j != j2 || e != e2 {
		p.t.Fatalf("P17.2: Join of %s, %d with %q: %+v, %d, want %+v, %d", what, m, l, j, e, j2, e2)
	}
	p.told("Join", e)
}

func (p *pair) sync(group string, m int, generation int, now int, what string) {
	round := p.r.Intn(2) == 0
	l := topics("a b", p.r.Intn(17), 1+p.r.Intn(16))
	var got2 []api.Part
	e2 := api.ErrMember
	if g := p.plain.groups[group]; g != nil {
		got2, e2 = g.Sync(m, generation, l, round, now)
	}
	if got, e := p.coord.Sync(group, m, generation, l, round, now); !slices.Equal(got, got2) || e != e2 {
		p.t.Fatalf("P17.3: Sync of %s:%s, %d, want%s, %d", what, parts(got), e, parts(got2), e2)
	}
	p.told("Sync", e2)
}

func (p *pair) beat(group string, m int, generation int, now int, what string) {
	e2 := api.ErrMember
	if g := p.plain.groups[group]; g != nil {
		e2 = g.Beat(m, generation, now)
	}
	gives(p.t, "P17.3: Beat of "+what, p.coord.Beat(group, m, generation, now), e2)
	p.told("Beat", e2)
}

func (p *pair) leave(group string, m int, generation int, now int, what string) {
	e2 := api.ErrMember
	if g := p.plain.groups[group]; g != nil {
		e2 = g.Leave(m, now)
	}
	gives(p.t, "P17.3: Leave of "+what, p.coord.Leave(group, m, now), e2)
	p.told("Leave", e2)
}

func (p *pair) may(group string, m int, generation int, now int, what string) {
	e2 := p.plain.may(group, m, generation)
	gives(p.t, "P17.4: May of "+what, p.coord.May(group, m, generation), e2)
	p.told("May", e2)
}

// commit commits often, so that there is no more room at last.
func (p *pair) commit(group string, m int, generation int, now int, what string) {
	for range 60 {
		k, at := p.anyPlace(), p.r.Intn(100)-1
		e2 := p.plain.commit(k, at)
		gives(p.t, fmt.Sprint("P17.4: Commit of ", k, " at ", at), p.coord.Commit(k.group, k.part, at), e2)
		p.told("Commit", e2)
		k = p.anyPlace()
		want, there := p.plain.offsets[k]
		if at, ok := p.coord.Committed(k.group, k.part); at != want || ok != there {
			p.t.Fatalf("P17.4: Committed of %v: %d, %t, want %d, %t", k, at, ok, want, there)
		}
	}
}

func (p *pair) drop(group string, m int, generation int, now int, what string) {
	if p.r.Intn(20) > 0 {
		return
	}
	topic := fmt.Sprint("t", p.r.Intn(5))
	if n, want := p.coord.Drop(topic), p.plain.drop(topic); n != want {
		p.t.Fatalf("P17.4: Drop of %q: %d, want %d", topic, n, want)
	}
}

// TestModel does anything to a coordinator and to a plain one: the answers and the groups are the same, and no group changes by what another one does.
func TestModel(t *testing.T) {
	seen := map[string]int{}
	for seed := range 40 {
		r := rand.New(rand.NewSource(int64(seed)))
		s, re := 1+r.Intn(60), 1+r.Intn(30)
		c, e := coord.New(s, re)
		if e != api.OK {
			t.Fatalf("P17.1: New: %d", e)
		}
		p := &pair{t: t, r: r, coord: c, seen: seen}
		p.plain = &plain{session: s, rebalance: re, groups: map[string]*member.Group{}, offsets: map[place]int{}}
		for range 600 {
			p.step()
		}
	}
	for call, errors := range map[string][]api.Errno{
		"Join": {api.OK, api.ErrArg, api.ErrFull, api.ErrMember}, "Sync": {api.OK, api.ErrArg, api.ErrOld, api.ErrMember, api.ErrWait},
		"Beat": {api.OK, api.ErrArg, api.ErrOld, api.ErrMember, api.ErrWait}, "Leave": {api.OK, api.ErrArg, api.ErrMember},
		"May": {api.OK, api.ErrOld, api.ErrMember, api.ErrWait}, "Commit": {api.OK, api.ErrArg, api.ErrFull},
	} {
		for _, e := range errors {
			if n := seen[fmt.Sprint(call, " ", e)]; n < 10 {
				t.Errorf("%s told %d only %d times", call, e, n)
			}
		}
	}
}
