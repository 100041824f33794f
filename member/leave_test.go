package member_test

import (
	"testing"

	"flotsam/api"
	"flotsam/member"
)

// step is something that is done to a group, and what the group is then.
type step struct {
	what string
	g    *member.Group
	do   func(g *member.Group)
	want string
}

func follow(t *testing.T, promise string, steps []step) {
	t.Helper()
	for _, s := range steps {
		s.do(s.g)
		is(t, promise+": "+s.what, s.g, s.want)
	}
}

func TestLeave(t *testing.T) {
	leaves := func(now int, l ...int) func(*member.Group) {
		return func(g *member.Group) {
			for _, m := range l {
				gives(t, "P15.4: Leave", g.Leave(m, now), api.OK)
				gives(t, "P15.4: Leave of one that has left", g.Leave(m, now), api.ErrMember)
			}
		}
	}
	follow(t, "P15.4: Leave", []step{
		{"Joining, others have not joined", joinedOnly(t, 2), leaves(9, 2), "Joining 2 of 3 until 33 | 0 until 101 [a b] | 1 until 102 [a b]"},
		{"Joining, others have not joined, one has", joinedOnly(t, 2), leaves(9, 1), "Joining 2 of 3 until 33 | 0 until 101 [a b] | 2 joined until 103 [a b]"},
		{"Joining, the one that was waited for", joining(t, 3), leaves(9, 0), "Syncing 3 of 3 until 39 | 1 joined until 103 [a b] | 2 joined until 103 [a b]"},
		{"Joining, one that had joined", joining(t, 3), leaves(9, 1), "Joining 2 of 3 until 33 | 0 until 101 [a b] | 2 joined until 103 [a b]"},
		{"Joining, those that had joined", joining(t, 3), leaves(9, 1, 2), "Joining 2 of 3 until 33 | 0 until 101 [a b]"},
		{"Joining, all", joining(t, 3), leaves(9, 1, 2, 0), "Empty 2 of 3 until 0"},
		{"Joining, all of two", joining(t, 2), leaves(9, 1, 0), "Empty 2 of 2 until 0"},
		{"Syncing, the leader", syncing(t, 3), leaves(9, 0), "Joining 2 of 3 until 39 | 1 until 102 [a b] | 2 until 103 [a b]"},
		{"Syncing, another one", syncing(t, 3), leaves(9, 1), "Joining 2 of 3 until 39 | 0 until 101 [a b] | 2 until 103 [a b]"},
		{"Syncing, the only one", syncing(t, 1), leaves(9, 0), "Empty 1 of 1 until 0"},
		{"Stable, the leader", stable(t, 3), leaves(9, 0), "Joining 2 of 3 until 39 | 1 until 102 [a b] | 2 until 103 [a b]"},
		{"Stable, the last one", stable(t, 3), leaves(9, 2), "Joining 2 of 3 until 39 | 0 until 101 [a b] | 1 until 102 [a b]"},
		{"Stable, two of them", stable(t, 3), leaves(9, 2, 0), "Joining 2 of 3 until 39 | 1 until 102 [a b]"},
		{"Stable, the only one", stable(t, 1), leaves(9, 0), "Empty 1 of 1 until 0"},
	})
}

// joinedOnly has three members in Joining until 3+rebalance, of whom m alone has joined.
func joinedOnly(t *testing.T, m int) *member.Group {
	t.Helper()
	g := stable(t, 3)
	joins(t, g, m, "a b", 3, m)
	return g
}

// TestEmptyAgain: a group that is Empty goes on with its generation and its numbers.
func TestEmptyAgain(t *testing.T) {
	g := stable(t, 2)
	gives(t, "P15.4: Leave", g.Leave(0, 9), api.OK)
	gives(t, "P15.4: Leave", g.Leave(1, 9), api.OK)
	is(t, "P15.4: all gone", g, "Empty 2 of 2 until 0")
	g.Tick(500)
	is(t, "P15.5: Tick of an Empty one", g, "Empty 2 of 2 until 0")
	joins(t, g, -1, "a", 501, 2)
	is(t, "P15.2: into Empty", g, "Syncing 3 of 3 until 531 | 2 joined until 601 [a]")
}

func TestTick(t *testing.T) {
	ticks := func(l ...int) func(*member.Group) {
		return func(g *member.Group) {
			for _, now := range l {
				g.Tick(now)
			}
		}
	}
	// beats has all members heard at a time, and then ticks.
	beats := func(at int, l ...int) func(*member.Group) {
		return func(g *member.Group) {
			v := g.View()
			for _, o := range v.Members {
				g.Beat(o.Member, v.Generation, at)
			}
			ticks(l...)(g)
		}
	}
	follow(t, "P15.5: Tick", []step{
		{"a new one", newGroup(t), ticks(0, topTime), "Empty 0 of 0 until 0"},

		{"Stable, ahead of the first one's time", stable(t, 3), ticks(0, 100), "Stable 2 of 3 until 0 | 0 joined until 101 [a b] a0 a1 b0 | 1 joined until 102 [a b] a2 b1 | 2 joined until 103 [a b] a3"},
		{"Stable, at the first one's time", stable(t, 3), ticks(101), "Joining 2 of 3 until 131 | 1 until 102 [a b] | 2 until 103 [a b]"},
		{"Stable, behind the first one's time", stable(t, 3), ticks(102), "Joining 2 of 3 until 132 | 2 until 103 [a b]"},
		{"Stable, behind the times of all", stable(t, 3), ticks(103), "Empty 2 of 3 until 0"},
		{"Stable, far behind", stable(t, 3), ticks(topTime), "Empty 2 of 3 until 0"},
		{"Stable, one by one", stable(t, 3), ticks(101, 102), "Joining 2 of 3 until 131 | 2 until 103 [a b]"},

		{"Joining, ahead of its end", joining(t, 3), ticks(32), "Joining 2 of 3 until 33 | 0 until 101 [a b] | 1 joined until 103 [a b] | 2 joined until 103 [a b]"},
		{"Joining, at its end", joining(t, 3), ticks(33), "Syncing 3 of 3 until 63 | 1 joined until 103 [a b] | 2 joined until 103 [a b]"},
		{"Joining, behind its end", joining(t, 3), ticks(50), "Syncing 3 of 3 until 80 | 1 joined until 103 [a b] | 2 joined until 103 [a b]"},
		{"Joining, at its end, one has joined", joinedOnly(t, 2), ticks(33), "Syncing 3 of 3 until 63 | 2 joined until 103 [a b]"},
		{"Joining, at its end, nobody has joined", left(t, stable(t, 3)), ticks(39), "Empty 2 of 3 until 0"},
		{"Joining, ahead of its end, nobody has joined", left(t, stable(t, 3)), ticks(38), "Joining 2 of 3 until 39 | 1 until 102 [a b] | 2 until 103 [a b]"},

		{"Joining, the one that was waited for goes ahead of its end", heardLate(t, joining(t, 3)), ticks(101), "Syncing 3 of 3 until 131 | 1 joined until 190 [a b] | 2 joined until 190 [a b]"},
		{"Joining, others have not joined", joinedLate(t), ticks(101), "Joining 2 of 3 until 120 | 1 until 102 [a b] | 2 joined until 190 [a b]"},
		{"Joining, all of those go that were waited for", joinedLate(t), ticks(102), "Syncing 3 of 3 until 132 | 2 joined until 190 [a b]"},
		{"Joining, all go", joining(t, 3), ticks(103), "Empty 2 of 3 until 0"},
		{"Joining, some go at its end, and others have not joined", joinedLateUntil(t, 101), ticks(101), "Syncing 3 of 3 until 131 | 2 joined until 171 [a b]"},
		{"Joining, some go at its end, and others have not joined, ahead of it", joinedLateUntil(t, 102), ticks(101), "Joining 2 of 3 until 102 | 1 until 102 [a b] | 2 joined until 172 [a b]"},

		{"Syncing, ahead of its end", syncing(t, 3), ticks(0, 29), "Syncing 2 of 3 until 30 | 0 joined until 101 [a b] | 1 joined until 102 [a b] | 2 joined until 103 [a b]"},
		{"Syncing, at its end", syncing(t, 3), ticks(30), "Joining 2 of 3 until 60 | 1 until 102 [a b] | 2 until 103 [a b]"},
		{"Syncing, behind its end", syncing(t, 3), ticks(60), "Joining 2 of 3 until 90 | 1 until 102 [a b] | 2 until 103 [a b]"},
		{"Syncing, at its end, a leader that was heard", syncing(t, 2), beats(28, 30), "Joining 2 of 2 until 60 | 1 until 128 [a b]"},
		{"Syncing, at its end, alone", syncing(t, 1), ticks(30), "Empty 1 of 1 until 0"},
		{"Syncing, one goes at its end: the leader stays", syncing(t, 3), func(g *member.Group) {
			g.Beat(0, 2, 50)
			g.Beat(2, 2, 50)
			g.Tick(102)
		}, "Joining 2 of 3 until 132 | 0 until 150 [a b] | 2 until 150 [a b]"},
		{"Syncing, all go", syncing(t, 3), ticks(103), "Empty 2 of 3 until 0"},

		{"Stable has no end", stable(t, 2), beats(50, 149), "Stable 2 of 2 until 0 | 0 joined until 150 [a b] a0 a1 b0 | 1 joined until 150 [a b] a2 a3 b1"},
		{"phase by phase", syncing(t, 3), beats(29, 30, 59, 60), "Empty 2 of 3 until 0"},
		{"twice at once", joining(t, 3), ticks(33, 33), "Syncing 3 of 3 until 63 | 1 joined until 103 [a b] | 2 joined until 103 [a b]"},
	})
}

// left is a group whose first member has left at 9.
func left(t *testing.T, g *member.Group) *member.Group {
	t.Helper()
	gives(t, "P15.4: Leave", g.Leave(0, 9), api.OK)
	return g
}

// heardLate is a group in Joining whose members, but the first one, were heard at 90.
func heardLate(t *testing.T, g *member.Group) *member.Group {
	t.Helper()
	gives(t, "P15.4: Beat", g.Beat(1, 2, 90), api.ErrWait)
	gives(t, "P15.4: Beat", g.Beat(2, 2, 90), api.ErrWait)
	return g
}

// joinedLate has three members, of whom the last one has joined at 90, the others not: they live until 101 and 102.
func joinedLate(t *testing.T) *member.Group {
	t.Helper()
	g := stable(t, 3)
	joins(t, g, 2, "a b", 90, 2)
	return g
}

// joinedLateUntil is the same, in Joining until a time.
func joinedLateUntil(t *testing.T, until int) *member.Group {
	t.Helper()
	g := stable(t, 3)
	joins(t, g, 2, "a b", until-rebalance, 2)
	return g
}
