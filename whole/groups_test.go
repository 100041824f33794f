package whole_test

import (
	"fmt"
	"math/rand"
	"slices"
	"testing"

	"flotsam/api"
	"flotsam/broker"
	"flotsam/whole"
	"flotsam/wire"
)

// group is one as its clients see it.
type group struct {
	t       *testing.T
	r       *rand.Rand
	w       *whole.World
	members []int       // those that beat still, rising
	known   map[int]int // the generation of which each was told last
	mine    map[int][]api.Part
	latest  int // the greatest generation
	// owners are who was given which partition, in which generation.
	owners map[owned]int
}

type owned struct {
	generation int
	part       api.Part
}

func newGroup(t *testing.T, r *rand.Rand) *group {
	t.Helper()
	w := made(t, api.MaxDisk, broker.Config{Session: 20, Rebalance: 8, Limit: 200})
	replies(t, "P24.4: Create", w, creating("t", 5), wire.Reply{})
	replies(t, "P24.4: Create", w, creating("u", 2), wire.Reply{At: 1})
	return &group{t: t, r: r, w: w, known: map[int]int{}, mine: map[int][]api.Part{}, owners: map[owned]int{}}
}

func (g *group) ask(q wire.Request) wire.Reply { return asks(g.t, g.w, g.r.Intn(8), q) }

func (g *group) join(m int) {
	g.t.Helper()
	r := g.ask(joining("g", m, "t", "u"))
	if r.Error != api.OK || r.Generation < g.latest {
		g.t.Fatalf("P4: Join of %d: %s; the generation was %d", m, short(r), g.latest)
	}
	if m < 0 {
		g.members = append(g.members, r.Member)
	}
	g.known[r.Member], g.latest = r.Generation, r.Generation
}

// change lets one come, go, or fall silent.
func (g *group) change() {
	if len(g.members) < 2 || len(g.members) < 7 && g.r.Intn(2) == 0 {
		g.join(-1)
		return
	}
	i := g.r.Intn(len(g.members))
	m := g.members[i]
	g.members = slices.Delete(g.members, i, i+1)
	if g.r.Intn(2) == 0 {
		return
	}
	if r := g.ask(wire.Request{Kind: wire.Leave, Group: "g", Member: m}); r.Error != api.OK {
		g.t.Fatalf("P24.4: Leave: %d", r.Error)
	}
}

// turn is what a member does now and then: it asks for what it shares, of the generation that it knows or of the next one; where it has to wait for that of one that it knew already, it joins again, and asks once more.
func (g *group) turn(m int) {
	g.t.Helper()
	joined, late := false, false
	for {
		r := g.ask(sharing("g", m, g.known[m]))
		switch {
		case r.Error == api.OK:
			g.given(m, r.Parts)
			return
		case r.Error == api.ErrWait && (joined || late):
			return
		case r.Error == api.ErrWait:
			g.join(m)
			joined = true
		case r.Error == api.ErrOld && !late:
			g.known[m]++
			late = true
		default:
			g.t.Fatalf("P5: Share of member %d of %d, generation %d of %d: %d", m, g.members, g.known[m], g.latest, r.Error)
		}
	}
}

// given asks that within one generation no partition is two members' (P4).
func (g *group) given(m int, parts []api.Part) {
	g.t.Helper()
	g.mine[m] = parts
	g.latest = max(g.latest, g.known[m])
	for _, p := range parts {
		k := owned{g.known[m], p}
		if owner, ok := g.owners[k]; ok && owner != m {
			g.t.Fatalf("P4: of generation %d members %d and %d have %v", k.generation, owner, m, p)
		}
		g.owners[k] = m
	}
}

// settled asks that all members share all, each partition one of them, and that another generation is refused.
func (g *group) settled() {
	g.t.Helper()
	var all []string
	for _, m := range g.members {
		if r := g.ask(beating("g", m, g.latest)); r.Error != api.OK || g.known[m] != g.latest {
			g.t.Errorf("P5: Beat of member %d of %d, generation %d of %d: %d", m, g.members, g.known[m], g.latest, r.Error)
		}
		for _, generation := range []int{g.latest - 1, g.latest + 1} {
			for _, q := range []wire.Request{beating("g", m, generation), sharing("g", m, generation), committing("g", m, generation, 1)} {
				if r := g.ask(q); r.Error != api.ErrOld {
					g.t.Errorf("P4: of generation %d, and not %d: %s: %d, want ErrOld", generation, g.latest, short(q), r.Error)
				}
			}
		}
		for _, p := range g.mine[m] {
			all = append(all, fmt.Sprint(p.Topic, p.Index))
		}
	}
	slices.Sort(all)
	if want := []string{"t0", "t1", "t2", "t3", "t4", "u0", "u1"}; !slices.Equal(all, want) {
		g.t.Errorf("P4: the members %d share %q, want %q", g.members, all, want)
	}
}

// TestGroups: members that beat in time come to share all that they want, however others come and go (P4, P5).
func TestGroups(t *testing.T) {
	for seed := range 30 {
		g := newGroup(t, rand.New(rand.NewSource(int64(seed))))
		for range 25 {
			for range 1 + g.r.Intn(3) {
				g.change()
			}
			// For longer than one that fell silent lives, and a phase lasts.
			for range 45 {
				for _, m := range g.members {
					g.turn(m)
				}
				g.w.Pass(1)
			}
			g.settled()
			if t.Failed() {
				t.Fatalf("seed %d", seed)
			}
		}
	}
}

// TestGroupBehindCrash: behind a crash a group is begun from nothing, but how far it has read is there.
func TestGroupBehindCrash(t *testing.T) {
	g := newGroup(t, rand.New(rand.NewSource(1)))
	for at := range 20 {
		g.members, g.latest, g.owners = nil, 0, map[owned]int{}
		for range 3 {
			g.join(-1)
		}
		for range 3 {
			for _, m := range g.members {
				g.turn(m)
			}
		}
		g.settled()
		if r := g.ask(committing("g", g.members[at%3], g.latest, at)); r.Error != api.OK {
			t.Errorf("P24.4: Commit: %d", r.Error)
		}
		crashes(t, "a group", g.w)
		if r := g.ask(committed); r.Error != api.OK || r.At != at {
			t.Errorf("P2: behind a crash the group has read up to %d, %d, want %d", r.At, r.Error, at)
		}
		for _, m := range g.members {
			if r := g.ask(beating("g", m, g.latest)); r.Error != api.ErrMember {
				t.Errorf("P24.3: Beat behind a crash: %d, want ErrMember", r.Error)
			}
		}
	}
}
