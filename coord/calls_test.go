package coord_test

import (
	"fmt"
	"math"
	"strings"
	"testing"

	"flotsam/api"
	"flotsam/coord"
)

// TestNoSuchGroup: whatever is asked of a group that is not there, it has no member.
func TestNoSuchGroup(t *testing.T) {
	c := phased(t)
	ahead := all(c)
	for _, group := range []string{"", "g", "stabl", "stables", "Stable", strings.Repeat("x", 100), strings.Repeat("x", 101)} {
		for _, m := range []int{-2, -1, 0, 1, 2} {
			for _, now := range []int{-1, 0, 5, topTime + 1} {
				for _, generation := range []int{-1, 0, 1, 2} {
					syncsNot(t, "no such group", c, group, m, generation, topics("a", 3), now, api.ErrMember)
					syncsNot(t, "no such group, wrong topics", c, group, m, generation, topics("a", 0), now, api.ErrMember)
					gives(t, "P17.3: no such group: Beat", c.Beat(group, m, generation, now), api.ErrMember)
				}
				gives(t, "P17.3: no such group: Leave", c.Leave(group, m, now), api.ErrMember)
			}
		}
		isNot(t, "P17.3: no such group", c, group)
	}
	if s := all(c); s != ahead {
		t.Errorf("P17.3: no such group: %s, ahead of it %s", s, ahead)
	}
}

// TestCallsOfAGroup: Sync, Beat and Leave are member's.
func TestCallsOfAGroup(t *testing.T) {
	c := phased(t)
	syncsNot(t, "Empty", c, "empty", 0, 2, topics("a", 3), 9, api.ErrMember)
	syncsNot(t, "Joining", c, "joining", 1, 2, topics("a", 3), 9, api.ErrWait)
	syncsNot(t, "another generation", c, "joining", 1, 1, topics("a", 3), 9, api.ErrOld)
	syncsNot(t, "no member", c, "stable", 2, 2, topics("a", 3), 9, api.ErrMember)
	syncsNot(t, "another generation", c, "stable", 1, 3, topics("a", 3), 9, api.ErrOld)
	syncsNot(t, "a wrong time", c, "stable", 1, 2, topics("a", 3), -1, api.ErrArg)
	syncsNot(t, "not the leader", c, "syncing", 1, 2, topics("a", 3), 9, api.ErrWait)
	syncsNot(t, "wrong topics", c, "syncing", 0, 2, topics("a", 17), 9, api.ErrArg)
	syncs(t, c, "syncing", 0, 2, topics("a", 4), true, 10, " a0 a2")
	syncs(t, c, "syncing", 1, 2, nil, false, 11, " a1 a3")
	is(t, "P17.3: Sync", c, "syncing", "Stable 2 of 2 until 0 | 0 joined until 110 [a] a0 a2 | 1 joined until 111 [a] a1 a3")

	gives(t, "P17.3: Beat, Empty", c.Beat("empty", 0, 2, 12), api.ErrMember)
	gives(t, "P17.3: Beat, Joining", c.Beat("joining", 0, 2, 12), api.ErrWait)
	gives(t, "P17.3: Beat", c.Beat("stable", 1, 2, 13), api.OK)
	gives(t, "P17.3: Beat, no member", c.Beat("stable", 2, 2, 14), api.ErrMember)
	gives(t, "P17.3: Beat, another generation", c.Beat("stable", 0, 1, 14), api.ErrOld)
	gives(t, "P17.3: Beat, a wrong time", c.Beat("stable", 0, 2, topTime+1), api.ErrArg)
	is(t, "P17.3: Beat", c, "joining", "Joining 2 of 2 until 33 | 0 until 112 [a] | 1 joined until 103 [a]")
	is(t, "P17.3: Beat", c, "stable", "Stable 2 of 2 until 0 | 0 joined until 103 [a] a0 a1 | 1 joined until 113 [a] a2")

	gives(t, "P17.3: Leave, Empty", c.Leave("empty", 0, 14), api.ErrMember)
	gives(t, "P17.3: Leave, no member", c.Leave("stable", 2, 14), api.ErrMember)
	gives(t, "P17.3: Leave, a wrong time", c.Leave("stable", 0, -1), api.ErrArg)
	gives(t, "P17.3: Leave", c.Leave("stable", 0, 15), api.OK)
	gives(t, "P17.3: Leave, again", c.Leave("stable", 0, 15), api.ErrMember)
	is(t, "P17.3: Leave", c, "stable", "Joining 2 of 2 until 45 | 1 until 113 [a]")
	gives(t, "P17.3: Leave", c.Leave("joining", 0, 16), api.OK)
	is(t, "P17.3: Leave, and closed", c, "joining", "Syncing 3 of 2 until 46 | 1 joined until 103 [a]")
}

// TestMayOfNobody has both numbers -1: where nobody is in the group, anybody may.
func TestMayOfNobody(t *testing.T) {
	c := phased(t)
	ahead := all(c)
	for _, group := range []string{"", "g", "empt", "emptys", strings.Repeat("x", 100), strings.Repeat("x", 101)} {
		gives(t, "P17.4: no such group", c.May(group, -1, -1), api.OK)
		isNot(t, "P17.4: no such group", c, group)
	}
	gives(t, "P17.4: Empty", c.May("empty", -1, -1), api.OK)
	for _, group := range []string{"joining", "syncing", "stable"} {
		gives(t, "P17.4: "+group, c.May(group, -1, -1), api.ErrMember)
	}
	if s := all(c); s != ahead {
		t.Errorf("P17.4: May: %s, ahead of it %s", s, ahead)
	}
	// As soon as somebody is there, and as soon as nobody is.
	joins(t, c, "g", -1, "a", 5, coord.Joined{Member: 0, Generation: 1, Leader: 0})
	gives(t, "P17.4: one is there", c.May("g", -1, -1), api.ErrMember)
	gives(t, "P17.3: Leave", c.Leave("g", 0, 6), api.OK)
	gives(t, "P17.4: it has left", c.May("g", -1, -1), api.OK)
	joins(t, c, "g", -1, "a", 7, coord.Joined{Member: 1, Generation: 2, Leader: 1})
	gives(t, "P17.4: one is there", c.May("g", -1, -1), api.ErrMember)
	c.Tick(107)
	gives(t, "P17.4: it was not heard", c.May("g", -1, -1), api.OK)
}

// TestMayOfMembers is member's Knows, where a number is not -1.
func TestMayOfMembers(t *testing.T) {
	c := phased(t)
	ahead := all(c)
	wants := map[string]api.Errno{"joining": api.ErrWait, "syncing": api.OK, "stable": api.OK}
	for group, want := range wants {
		for m := range 2 {
			gives(t, "P17.4: a member, "+group, c.May(group, m, 2), want)
			for _, generation := range []int{math.MinInt, -2, -1, 0, 1, 3, math.MaxInt} {
				gives(t, "P17.4: another generation, "+group, c.May(group, m, generation), api.ErrOld)
			}
		}
		for _, m := range []int{math.MinInt, -2, 2, 3, math.MaxInt} {
			for _, generation := range []int{-2, -1, 0, 1, 2} {
				gives(t, "P17.4: no member, "+group, c.May(group, m, generation), api.ErrMember)
			}
		}
	}
	for _, group := range []string{"empty", "g", "", "joining", "syncing", "stable"} {
		for _, generation := range []int{-2, 0, 1, 2, 3} {
			gives(t, "P17.4: -1, and a generation", c.May(group, -1, generation), api.ErrMember)
		}
	}
	for _, group := range []string{"empty", "g", "", strings.Repeat("x", 101)} {
		for _, m := range []int{-2, 0, 1, 2, 3} {
			for _, generation := range []int{-2, -1, 0, 1, 2, 3} {
				gives(t, "P17.4: nobody is there", c.May(group, m, generation), api.ErrMember)
			}
		}
	}
	if s := all(c); s != ahead {
		t.Errorf("P17.4: May: %s, ahead of it %s", s, ahead)
	}
}

func TestCommit(t *testing.T) {
	c := newCoord(t)
	long := strings.Repeat("x", 100)
	for _, group := range []string{"g", "h", long, "\x00"} {
		for _, p := range []api.Part{part("t", 0), part("t", 15), part("u", 0), part(long, 1), part("\xff", 3)} {
			hasNot(t, "P17.4: ahead of it", c, group, p)
			for _, at := range []int{0, topOffset, 7} {
				commits(t, "P17.4", c, group, p, at, api.OK)
				has(t, "P17.4", c, group, p, at)
				for _, wrong := range []int{math.MinInt, -1, topOffset + 1, math.MaxInt} {
					commits(t, "P17.4: an offset that may not be", c, group, p, wrong, api.ErrArg)
				}
				has(t, "P17.4", c, group, p, at)
			}
		}
	}
	for _, group := range []string{"", long + "x", strings.Repeat("é", 51)} {
		commits(t, "P17.4: a group that may not be", c, group, part("t", 0), 7, api.ErrArg)
		hasNot(t, "P17.4: a group that may not be", c, group, part("t", 0))
	}
	for _, p := range []api.Part{part("", 0), part(long+"x", 0), part("t", -1), part("t", 16), part("t", math.MinInt), part("t", math.MaxInt)} {
		commits(t, "P17.4: a partition that may not be", c, "g", p, 7, api.ErrArg)
		hasNot(t, "P17.4: a partition that may not be", c, "g", p)
	}
	// It is May that asks for groups: a commit makes none, and needs none.
	named(t, "P17.4: Commit", c)
}

// TestCommitOfGroups: whether there is a group, and in which phase, is nothing to Commit.
func TestCommitOfGroups(t *testing.T) {
	c := phased(t)
	ahead := all(c)
	for i, group := range []string{"empty", "joining", "syncing", "stable", "g"} {
		commits(t, "P17.4", c, group, part("a", 1), 10+i, api.OK)
		has(t, "P17.4", c, group, part("a", 1), 10+i)
	}
	for i, group := range []string{"empty", "joining", "syncing", "stable", "g"} {
		has(t, "P17.4: apart", c, group, part("a", 1), 10+i)
	}
	if s := all(c); s != ahead {
		t.Errorf("P17.4: Commit: %s, ahead of it %s", s, ahead)
	}
	gives(t, "P17.3: Leave", c.Leave("stable", 0, 4), api.OK)
	gives(t, "P17.3: Leave", c.Leave("stable", 1, 4), api.OK)
	has(t, "P17.4: nobody is there any more", c, "stable", part("a", 1), 13)
}

func TestCommitFull(t *testing.T) {
	c := newCoord(t)
	for i := range 1000 {
		commits(t, "P17.4: room", c, fmt.Sprint("g", i/16), part("t", i%16), i, api.OK)
	}
	commits(t, "P17.4: full", c, "h", part("t", 0), 1, api.ErrFull)
	commits(t, "P17.4: full", c, "g0", part("u", 0), 1, api.ErrFull)
	hasNot(t, "P17.4: full", c, "h", part("t", 0))
	commits(t, "P17.4: full, and an offset that may not be", c, "h", part("t", 0), -1, api.ErrArg)
	commits(t, "P17.4: full, one that is there", c, "g0", part("t", 3), 77, api.OK)
	has(t, "P17.4: full", c, "g0", part("t", 3), 77)
	for i := range 1000 {
		if i != 3 {
			has(t, "P17.4: full", c, fmt.Sprint("g", i/16), part("t", i%16), i)
		}
	}
	if n := c.Drop("t"); n != 1000 {
		t.Errorf("P17.4: Drop: %d", n)
	}
	commits(t, "P17.4: room again", c, "h", part("t", 0), 1, api.OK)
}

func TestDrop(t *testing.T) {
	c := phased(t)
	ahead := all(c)
	for _, group := range []string{"g", "t", "stable"} {
		for _, topic := range []string{"a", "aa", "t"} {
			for i := range 2 {
				commits(t, "P17.4", c, group, part(topic, i), 5+i, api.OK)
			}
		}
	}
	for _, name := range []string{"", "A", "g", "stable", "aaa", strings.Repeat("a", 101)} {
		if n := c.Drop(name); n != 0 {
			t.Errorf("P17.4: Drop(%q): %d", name, n)
		}
	}
	for _, want := range []int{6, 0} {
		if n := c.Drop("a"); n != want {
			t.Errorf("P17.4: Drop: %d, want %d", n, want)
		}
	}
	for _, group := range []string{"g", "t", "stable"} {
		for i := range 2 {
			hasNot(t, "P17.4: dropped", c, group, part("a", i))
			has(t, "P17.4: another topic", c, group, part("aa", i), 5+i)
			has(t, "P17.4: another topic", c, group, part("t", i), 5+i)
		}
	}
	// What groups want, and have, is nothing to it.
	if s := all(c); s != ahead {
		t.Errorf("P17.4: Drop: %s, ahead of it %s", s, ahead)
	}
}

// TestTick has several groups in each phase at once.
func TestTick(t *testing.T) {
	c := phased(t)
	joins(t, c, "late", -1, "a", 20, coord.Joined{Member: 0, Generation: 1, Leader: 0})
	ahead := all(c)
	for _, now := range []int{math.MinInt, -1, topTime + 1, math.MaxInt, 0, 5, 31} {
		c.Tick(now)
		if s := all(c); s != ahead {
			t.Errorf("P17.5: Tick of %d: %s, ahead of it %s", now, s, ahead)
		}
	}
	c.Tick(32)
	is(t, "P17.5: its leader has not dealt out", c, "syncing", "Joining 2 of 2 until 62 | 1 until 101 [a]")
	is(t, "P17.5: not yet", c, "joining", "Joining 2 of 2 until 33 | 0 until 102 [a] | 1 joined until 103 [a]")
	c.Tick(33)
	is(t, "P17.5: one has not joined", c, "joining", "Syncing 3 of 2 until 63 | 1 joined until 103 [a]")
	is(t, "P17.5: not yet", c, "late", "Syncing 1 of 1 until 50 | 0 joined until 120 [a]")
	is(t, "P17.5", c, "stable", "Stable 2 of 2 until 0 | 0 joined until 103 [a] a0 a1 | 1 joined until 101 [a] a2")
	is(t, "P17.5", c, "empty", "Empty 2 of 2 until 0")
	c.Tick(50)
	is(t, "P17.5: nobody is left", c, "late", "Empty 1 of 1 until 0")
	c.Tick(101)
	is(t, "P17.5: one was not heard", c, "stable", "Joining 2 of 2 until 131 | 0 until 103 [a]")
	is(t, "P17.5: nobody is left", c, "syncing", "Empty 2 of 2 until 0")
	is(t, "P17.5: it has not dealt out", c, "joining", "Empty 3 of 2 until 0")
	c.Tick(topTime)
	for _, name := range []string{"empty", "joining", "late", "stable", "syncing"} {
		if v := c.Group(name); v.Phase != 0 || len(v.Members) != 0 {
			t.Errorf("P17.5: %q: %s", name, told(v))
		}
	}
	named(t, "P17.5: groups stay", c, "empty", "joining", "late", "stable", "syncing")
}

// TestTickOfMany: in one Tick all groups do the same.
func TestTickOfMany(t *testing.T) {
	c := newCoord(t)
	for i := range 20 {
		joins(t, c, fmt.Sprint("g", i), -1, "a", 5, coord.Joined{Member: 0, Generation: 1, Leader: 0})
	}
	c.Tick(35)
	for i := range 20 {
		is(t, "P17.5", c, fmt.Sprint("g", i), "Empty 1 of 1 until 0")
	}
}
