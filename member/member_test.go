package member_test

import (
	"fmt"
	"math"
	"slices"
	"strings"
	"testing"

	"flotsam/api"
	"flotsam/member"
)

// How long a member and a phase last in the groups of these tests.
const (
	session   = 100
	rebalance = 30
)

// topTime is the greatest time.
const topTime = 1 << 40

func newGroup(t *testing.T) *member.Group {
	t.Helper()
	g, e := member.New(session, rebalance)
	if g == nil || e != api.OK {
		t.Fatalf("P15.1: New: %v, %d", g, e)
	}
	return g
}

// told is a group as a text: "Stable 2 of 3 until 0 | 0 joined until 110 [a b] a0 b0 | 1 until 105 []", with the generation, and behind "of" the next member.
func told(v member.View) string {
	phase := fmt.Sprint("phase ", v.Phase)
	if names := []string{"Empty", "Joining", "Syncing", "Stable"}; v.Phase >= 0 && v.Phase < len(names) {
		phase = names[v.Phase]
	}
	s := fmt.Sprint(phase, " ", v.Generation, " of ", v.Next, " until ", v.Until)
	for _, o := range v.Members {
		s += fmt.Sprint(" | ", o.Member)
		if o.Joined {
			s += " joined"
		}
		s += fmt.Sprint(" until ", o.Until, " ", o.Topics, parts(o.Parts))
	}
	return s
}

// parts are some as a text, a blank ahead of each.
func parts(l []api.Part) string {
	s := ""
	for _, p := range l {
		s += fmt.Sprint(" ", p.Topic, p.Index)
	}
	return s
}

func topics(names string, parts ...int) []api.Topic {
	var l []api.Topic
	for i, name := range strings.Fields(names) {
		l = append(l, api.Topic{Name: name, Parts: parts[i]})
	}
	return l
}

// is holds a group against what it has to be.
func is(t *testing.T, what string, g *member.Group, want string) {
	t.Helper()
	if s := told(g.View()); s != want {
		t.Errorf("%s: %q, want %q", what, s, want)
	}
}

func gives(t *testing.T, what string, e api.Errno, want api.Errno) {
	t.Helper()
	if e != want {
		t.Errorf("%s: %d, want %d", what, e, want)
	}
}

// joins has a member join, a new one with m -1; want is its number then.
func joins(t *testing.T, g *member.Group, m int, names string, now int, want int) {
	t.Helper()
	if n, e := g.Join(m, strings.Fields(names), now); n != want || e != api.OK {
		t.Errorf("P15.2: Join of %d with %q at %d: %d, %d, want %d, OK", m, names, now, n, e, want)
	}
}

func joinsNot(t *testing.T, what string, g *member.Group, m int, l []string, now int, want api.Errno) {
	t.Helper()
	ahead := told(g.View())
	if n, e := g.Join(m, l, now); n != 0 || e != want {
		t.Errorf("P15.2: %s: Join of %d with %q at %d: %d, %d, want 0, %d", what, m, l, now, n, e, want)
	}
	is(t, what, g, ahead)
}

// syncs has a member ask for its parts.
func syncs(t *testing.T, g *member.Group, m int, generation int, l []api.Topic, round bool, now int, want string) {
	t.Helper()
	if got, e := g.Sync(m, generation, l, round, now); parts(got) != want || e != api.OK {
		t.Errorf("P15.3: Sync of %d at %d:%s, %d, want%s, OK", m, now, parts(got), e, want)
	}
}

func syncsNot(t *testing.T, what string, g *member.Group, m int, generation int, l []api.Topic, now int, want api.Errno) {
	t.Helper()
	for _, round := range []bool{false, true} {
		if got, e := g.Sync(m, generation, l, round, now); len(got) != 0 || e != want {
			t.Errorf("P15.3: %s: Sync of %d, generation %d, at %d:%s, %d, want %d", what, m, generation, now, parts(got), e, want)
		}
	}
}

// Of the groups that follow each member joined at 0 and was heard at 1, 2 and so on, so that it lives until 101, 102 and so on. Of one member the generation is 1, of more it is 2.

// syncing has so many members that want a and b, in Syncing until 30.
func syncing(t *testing.T, n int) *member.Group {
	t.Helper()
	g := newGroup(t)
	for i := range n {
		joins(t, g, -1, "a b", 0, i)
	}
	if n > 1 {
		joins(t, g, 0, "a b", 0, 0)
	}
	for i := range n {
		gives(t, "P15.4: Beat in Syncing", g.Beat(i, min(n, 2), i+1), api.ErrWait)
	}
	if v := g.View(); v.Phase != member.Syncing || v.Until != rebalance || v.Generation != min(n, 2) || len(v.Members) != n {
		t.Fatalf("P15.2: %d members: %s", n, told(v))
	}
	return g
}

// stable has so many members, among whom four parts of a and two of b are dealt out in rows.
func stable(t *testing.T, n int) *member.Group {
	t.Helper()
	g := syncing(t, n)
	g.Sync(0, min(n, 2), topics("a b", 4, 2), false, 1)
	if v := g.View(); v.Phase != member.Stable || v.Until != 0 {
		t.Fatalf("P15.3: %d members: %s", n, told(v))
	}
	return g
}

// joining has so many members, of whom the first one has not joined again, until 3+rebalance.
func joining(t *testing.T, n int) *member.Group {
	t.Helper()
	g := stable(t, n)
	for i := 1; i < n; i++ {
		joins(t, g, i, "a b", 3, i)
	}
	if v := g.View(); v.Phase != member.Joining || v.Until != 3+rebalance {
		t.Fatalf("P15.2: %d members: %s", n, told(v))
	}
	return g
}

func TestPhases(t *testing.T) {
	if member.Empty != 0 || member.Joining != 1 || member.Syncing != 2 || member.Stable != 3 {
		t.Errorf("phases: %d, %d, %d, %d", member.Empty, member.Joining, member.Syncing, member.Stable)
	}
}

// TestExample is example 1 of the chapter.
func TestExample(t *testing.T) {
	g := newGroup(t)
	joins(t, g, -1, "t", 10, 0)
	is(t, "example 1", g, "Syncing 1 of 1 until 40 | 0 joined until 110 [t]")
	joins(t, g, -1, "t", 11, 1)
	is(t, "example 1", g, "Joining 1 of 2 until 41 | 0 until 110 [t] | 1 joined until 111 [t]")
	joins(t, g, 0, "t", 12, 0)
	is(t, "example 1", g, "Syncing 2 of 2 until 42 | 0 joined until 112 [t] | 1 joined until 111 [t]")
}

func TestNew(t *testing.T) {
	wrong := []int{math.MinInt, -1, 0, 100001, math.MaxInt}
	right := []int{1, 2, 99999, 100000}
	for _, s := range right {
		for _, r := range right {
			g, e := member.New(s, r)
			if g == nil || e != api.OK {
				t.Fatalf("P15.1: New(%d, %d): %v, %d", s, r, g, e)
			}
			is(t, "P15.1: a new one", g, "Empty 0 of 0 until 0")
			joins(t, g, -1, "", 7, 0)
			is(t, "P15.1: how long", g, fmt.Sprintf("Syncing 1 of 1 until %d | 0 joined until %d []", 7+r, 7+s))
		}
		for _, w := range wrong {
			if g, e := member.New(s, w); g != nil || e != api.ErrArg {
				t.Errorf("P15.1: New(%d, %d): %v, %d, want nil, ErrArg", s, w, g, e)
			}
			if g, e := member.New(w, s); g != nil || e != api.ErrArg {
				t.Errorf("P15.1: New(%d, %d): %v, %d, want nil, ErrArg", w, s, g, e)
			}
		}
	}
	if g, e := member.New(0, 100001); g != nil || e != api.ErrArg {
		t.Errorf("P15.1: New of two wrong ones: %v, %d", g, e)
	}
}

func TestNil(t *testing.T) {
	var g *member.Group
	for _, now := range []int{-1, 0, 5, topTime + 1} {
		for _, m := range []int{-2, -1, 0, 1} {
			if n, e := g.Join(m, []string{"a"}, now); n != 0 || e != api.ErrArg {
				t.Errorf("P15.1: nil: Join: %d, %d", n, e)
			}
			if l, e := g.Sync(m, 0, topics("a", 1), false, now); len(l) != 0 || e != api.ErrArg {
				t.Errorf("P15.1: nil: Sync: %v, %d", l, e)
			}
			gives(t, "P15.1: nil: Beat", g.Beat(m, 0, now), api.ErrArg)
			gives(t, "P15.1: nil: Leave", g.Leave(m, now), api.ErrArg)
			gives(t, "P15.1: nil: Knows", g.Knows(m, 0), api.ErrArg)
		}
		g.Tick(now)
	}
	is(t, "P15.1: nil", g, "Empty 0 of 0 until 0")
}

// TestNotMadeByNew has a group that nobody promised anything of: but no call panics (R1).
func TestNotMadeByNew(t *testing.T) {
	g := &member.Group{}
	for now := range 4 {
		g.Join(-1, []string{"a"}, now)
		g.Sync(now, now+1, topics("a", 1), false, now)
		g.Beat(now, now+1, now)
		g.Knows(now, now+1)
		g.View()
		g.Tick(now)
		g.Leave(now, now)
	}
}

// TestTimes has each call with times that are none: whatever else is wrong, that is ErrArg, and changes nothing.
func TestTimes(t *testing.T) {
	for _, g := range []*member.Group{newGroup(t), joining(t, 2), syncing(t, 2), stable(t, 2)} {
		ahead, generation := told(g.View()), g.View().Generation
		for _, now := range []int{math.MinInt, -1, topTime + 1, math.MaxInt} {
			for _, m := range []int{-2, -1, 0, 1, 2} {
				for _, gen := range []int{generation, generation + 1} {
					if l, e := g.Sync(m, gen, topics("a", 1), false, now); len(l) != 0 || e != api.ErrArg {
						t.Errorf("P15.3: Sync of %d at %d: %v, %d", m, now, l, e)
					}
					gives(t, "P15.4: Beat at no time", g.Beat(m, gen, now), api.ErrArg)
				}
				if n, e := g.Join(m, nil, now); n != 0 || e != api.ErrArg {
					t.Errorf("P15.2: Join of %d at %d: %d, %d", m, now, n, e)
				}
				gives(t, "P15.4: Leave at no time", g.Leave(m, now), api.ErrArg)
			}
			g.Tick(now)
			is(t, "P15: no time", g, ahead)
		}
	}
}

func TestFirstAndLastTime(t *testing.T) {
	g := newGroup(t)
	joins(t, g, -1, "a", 0, 0)
	is(t, "P15.2: at 0", g, "Syncing 1 of 1 until 30 | 0 joined until 100 [a]")
	syncs(t, g, 0, 1, topics("a", 1), false, 0, " a0")
	gives(t, "P15.4: Beat at 0", g.Beat(0, 1, 0), api.OK)
	g.Tick(0)
	is(t, "P15.5: at 0", g, "Stable 1 of 1 until 0 | 0 joined until 100 [a] a0")
	gives(t, "P15.4: Leave at 0", g.Leave(0, 0), api.OK)

	const member, phase = topTime + session, topTime + rebalance
	joins(t, g, -1, "a", topTime, 1)
	is(t, "P15.2: at the last time", g, fmt.Sprintf("Syncing 2 of 2 until %d | 1 joined until %d [a]", phase, member))
	syncs(t, g, 1, 2, topics("a", 1), false, topTime, " a0")
	gives(t, "P15.4: Beat at the last time", g.Beat(1, 2, topTime), api.OK)
	g.Tick(topTime)
	is(t, "P15.5: at the last time", g, fmt.Sprintf("Stable 2 of 2 until 0 | 1 joined until %d [a] a0", member))
	gives(t, "P15.4: Leave at the last time", g.Leave(1, topTime), api.OK)
	is(t, "P15.4: at the last time", g, "Empty 2 of 2 until 0")
}

// TestTimesThatFall: a time is taken as it is, also if one ahead was later.
func TestTimesThatFall(t *testing.T) {
	g := stable(t, 2)
	gives(t, "P15.4", g.Beat(0, 2, 500), api.OK)
	gives(t, "P15.4", g.Beat(0, 2, 50), api.OK)
	is(t, "P15.4: a time that falls", g, "Stable 2 of 2 until 0 | 0 joined until 150 [a b] a0 a1 b0 | 1 joined until 102 [a b] a2 a3 b1")
}

func TestKnows(t *testing.T) {
	g := newGroup(t)
	for _, m := range []int{math.MinInt, -1, 0, math.MaxInt} {
		for _, generation := range []int{-1, 0, 1} {
			gives(t, "P15.4: Knows, Empty", g.Knows(m, generation), api.ErrMember)
		}
	}
	for _, c := range []struct {
		what string
		g    *member.Group
		want api.Errno
	}{{"Joining", joining(t, 3), api.ErrWait}, {"Syncing", syncing(t, 3), api.OK}, {"Stable", stable(t, 3), api.OK}} {
		ahead, generation := told(c.g.View()), c.g.View().Generation
		for m := range 3 {
			gives(t, "P15.4: Knows, "+c.what, c.g.Knows(m, generation), c.want)
			for _, other := range []int{math.MinInt, -1, 0, generation - 1, generation + 1, math.MaxInt} {
				gives(t, "P15.4: Knows, another generation, "+c.what, c.g.Knows(m, other), api.ErrOld)
			}
		}
		for _, m := range []int{math.MinInt, -2, -1, 3, 4, math.MaxInt} {
			for _, some := range []int{generation, generation + 1, -1} {
				gives(t, "P15.4: Knows, no member, "+c.what, c.g.Knows(m, some), api.ErrMember)
			}
		}
		is(t, "P15.7: Knows, "+c.what, c.g, ahead)
	}
}

// TestStrangers: what names no member, or another generation, changes nothing (P15.7).
func TestStrangers(t *testing.T) {
	right, wrong := topics("a", 4), topics("a", 0)
	for _, g := range []*member.Group{newGroup(t), joining(t, 3), syncing(t, 3), stable(t, 3)} {
		ahead, generation := told(g.View()), g.View().Generation
		strangers := []int{math.MinInt, -2, -1, 3, 4, math.MaxInt}
		if len(g.View().Members) == 0 {
			strangers = append(strangers, 0)
		}
		for _, m := range strangers {
			for _, some := range []int{generation, generation + 1, generation - 1} {
				syncsNot(t, "no member", g, m, some, right, 9, api.ErrMember)
				syncsNot(t, "no member", g, m, some, wrong, 9, api.ErrMember)
				gives(t, "P15.4: Beat of no member", g.Beat(m, some, 9), api.ErrMember)
			}
			gives(t, "P15.4: Leave of no member", g.Leave(m, 9), api.ErrMember)
			if m >= 0 {
				joinsNot(t, "no member", g, m, []string{"a"}, 9, api.ErrMember)
			}
		}
		for i := range g.View().Members {
			for _, old := range []int{math.MinInt, -1, generation - 1, generation + 1, math.MaxInt} {
				syncsNot(t, "another generation", g, i, old, right, 9, api.ErrOld)
				syncsNot(t, "another generation", g, i, old, wrong, 9, api.ErrOld)
				gives(t, "P15.4: Beat of another generation", g.Beat(i, old, 9), api.ErrOld)
			}
		}
		is(t, "P15.7", g, ahead)
	}
}

func TestBeat(t *testing.T) {
	for _, c := range []struct {
		what string
		g    *member.Group
		e    api.Errno
		want string
	}{
		{"Joining", joining(t, 2), api.ErrWait, "Joining 2 of 2 until 33 | 0 until 190 [a b] | 1 joined until 191 [a b]"},
		{"Syncing", syncing(t, 2), api.ErrWait, "Syncing 2 of 2 until 30 | 0 joined until 190 [a b] | 1 joined until 191 [a b]"},
		{"Stable", stable(t, 2), api.OK, "Stable 2 of 2 until 0 | 0 joined until 190 [a b] a0 a1 b0 | 1 joined until 191 [a b] a2 a3 b1"},
	} {
		gives(t, "P15.4: Beat, "+c.what, c.g.Beat(1, 2, 91), c.e)
		gives(t, "P15.4: Beat, "+c.what, c.g.Beat(0, 2, 90), c.e)
		is(t, "P15.4: Beat, "+c.what, c.g, c.want)
	}
}

func TestNothingIsChangedOrShared(t *testing.T) {
	g := newGroup(t)
	wants := make([]string, 2, 9)
	wants[0], wants[1] = "a", "b"
	g.Join(-1, wants, 1)
	wants[0] = "z"
	is(t, "R5: what was handed in is kept", g, "Syncing 1 of 1 until 31 | 0 joined until 101 [a b]")
	dealt := topics("a b", 2, 1)
	got, _ := g.Sync(0, 1, dealt, false, 1)
	if !slices.Equal(dealt, topics("a b", 2, 1)) || wants[1] != "b" || len(wants) != 2 {
		t.Errorf("R5: what was handed in is now %v, %v", dealt, wants)
	}
	const want = "Stable 1 of 1 until 0 | 0 joined until 101 [a b] a0 a1 b0"
	again, _ := g.Sync(0, 1, nil, false, 1)
	scratch(got)
	is(t, "R5: Sync shares its parts", g, want)
	if parts(again) != " a0 a1 b0" {
		t.Errorf("R5: two answers share their parts: %s", parts(again))
	}
	v, other := g.View(), g.View()
	scratch(v.Members[0].Parts)
	scratch(v.Members[0].Topics)
	is(t, "R5: View shares its lists", g, want)
	v.Members[0] = member.One{Member: 7}
	v.Phase, v.Generation = 9, 9
	_ = append(v.Members, member.One{Member: 8})
	is(t, "R5: View shares its members", g, want)
	if told(other) != want {
		t.Errorf("R5: two Views share something: %s", told(other))
	}
}

// scratch writes over a list, and over its spare room.
func scratch[T any](l []T) {
	clear(l)
	clear(l[:cap(l)])
}

// TestViewsOwnLists: no two lists of one View share anything, their spare room neither.
func TestViewsOwnLists(t *testing.T) {
	v := stable(t, 3).View()
	for i := range v.Members {
		rest := slices.Clone(v.Members)
		for k := range rest {
			rest[k].Topics = slices.Clone(rest[k].Topics)
			rest[k].Parts = slices.Clone(rest[k].Parts)
		}
		scratch(v.Members[i].Topics)
		rest[i].Topics = v.Members[i].Topics
		scratch(v.Members[i].Parts)
		rest[i].Parts = v.Members[i].Parts
		if told(member.View{Members: v.Members}) != told(member.View{Members: rest}) {
			t.Errorf("R5: the lists of %d are shared: %s", i, told(v))
		}
	}
}
