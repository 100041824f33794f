package member_test

import (
	"fmt"
	"math"
	"strings"
	"testing"

	"flotsam/api"
	"flotsam/member"
)

func TestJoinOfNewOnes(t *testing.T) {
	g := newGroup(t)
	joins(t, g, -1, "a", 5, 0)
	is(t, "P15.2: into Empty", g, "Syncing 1 of 1 until 35 | 0 joined until 105 [a]")
	joins(t, g, -1, "", 6, 1)
	is(t, "P15.2: into Syncing", g, "Joining 1 of 2 until 36 | 0 until 105 [a] | 1 joined until 106 []")
	joins(t, g, -1, "b c", 7, 2)
	is(t, "P15.2: into Joining, which lasts no longer", g, "Joining 1 of 3 until 36 | 0 until 105 [a] | 1 joined until 106 [] | 2 joined until 107 [b c]")
	joins(t, g, 0, "a", 8, 0)
	is(t, "P15.2: all have joined", g, "Syncing 2 of 3 until 38 | 0 joined until 108 [a] | 1 joined until 106 [] | 2 joined until 107 [b c]")
	syncs(t, g, 0, 2, topics("a b c", 1, 1, 1), false, 9, " a0")
	is(t, "P15.3", g, "Stable 2 of 3 until 0 | 0 joined until 109 [a] a0 | 1 joined until 106 [] | 2 joined until 107 [b c] b0 c0")
	joins(t, g, -1, "a", 10, 3)
	is(t, "P15.2: into Stable", g, "Joining 2 of 4 until 40 | 0 until 109 [a] | 1 until 106 [] | 2 until 107 [b c] | 3 joined until 110 [a]")
}

func TestJoinAgain(t *testing.T) {
	// In Joining: one that has joined goes on with other topics, and a later time.
	g := joining(t, 3)
	joins(t, g, 1, "c", 4, 1)
	is(t, "P15.2: again in Joining", g, "Joining 2 of 3 until 33 | 0 until 101 [a b] | 1 joined until 104 [c] | 2 joined until 103 [a b]")
	joins(t, g, 0, "", 5, 0)
	is(t, "P15.2: the last one", g, "Syncing 3 of 3 until 35 | 0 joined until 105 [] | 1 joined until 104 [c] | 2 joined until 103 [a b]")

	// In Syncing: the group begins anew.
	joins(t, g, 1, "c d", 6, 1)
	is(t, "P15.2: again in Syncing", g, "Joining 3 of 3 until 36 | 0 until 105 [] | 1 joined until 106 [c d] | 2 until 103 [a b]")

	// In Stable, with just the same topics: it begins anew as well, and nobody has parts.
	g = stable(t, 2)
	joins(t, g, 1, "a b", 7, 1)
	is(t, "P15.2: again in Stable", g, "Joining 2 of 2 until 37 | 0 until 101 [a b] | 1 joined until 107 [a b]")

	// Alone: each time it closes at once.
	g = stable(t, 1)
	joins(t, g, 0, "b", 8, 0)
	is(t, "P15.2: alone, in Stable", g, "Syncing 2 of 1 until 38 | 0 joined until 108 [b]")
	joins(t, g, 0, "a", 9, 0)
	is(t, "P15.2: alone, in Syncing", g, "Syncing 3 of 1 until 39 | 0 joined until 109 [a]")
}

// TestJoinedParts: whoever has parts from a generation ahead loses them, whoever begins anew.
func TestJoinedParts(t *testing.T) {
	g := stable(t, 2)
	joins(t, g, 0, "a b", 7, 0)
	is(t, "P15.2: begun anew", g, "Joining 2 of 2 until 37 | 0 joined until 107 [a b] | 1 until 102 [a b]")
	joins(t, g, 1, "a b", 8, 1)
	is(t, "P15.2: closed", g, "Syncing 3 of 2 until 38 | 0 joined until 107 [a b] | 1 joined until 108 [a b]")
}

func TestJoinTopics(t *testing.T) {
	var names []string
	for i := range 21 {
		names = append(names, fmt.Sprintf("n%02d", i))
	}
	groups := map[string]*member.Group{"Empty": newGroup(t), "Joining": joining(t, 2), "Syncing": syncing(t, 2), "Stable": stable(t, 2)}
	for phase, g := range groups {
		for _, l := range [][]string{{"b", "a"}, {"a", "a"}, {"", ""}, {"a", ""}, {"a", "c", "b"}, {"a", "b", "b"}, {"a", "B"}, {"aa", "a"}, {"\xff", "é"}, names, append([]string{"z"}, names[:20]...)} {
			for _, m := range []int{-2, -1, 0, 1, 2, math.MinInt, math.MaxInt} {
				joinsNot(t, phase+", topics", g, m, l, 9, api.ErrArg)
			}
		}
		for _, m := range []int{math.MinInt, -3, -2} {
			joinsNot(t, phase+", below -1", g, m, []string{"a"}, 9, api.ErrArg)
			joinsNot(t, phase+", below -1", g, m, nil, 9, api.ErrArg)
		}
		for _, m := range []int{len(g.View().Members), 2, 3, math.MaxInt} {
			joinsNot(t, phase+", no member", g, m, []string{"a"}, 9, api.ErrMember)
		}
	}
	for _, l := range [][]string{nil, {}, {""}, {"", "a"}, {"B", "a", "aa", "é", "\xff"}, {strings.Repeat("x", 2000)}, names[:19], names[:20]} {
		g := newGroup(t)
		joins(t, g, -1, "old", 9, 0)
		if n, e := g.Join(0, l, 10); n != 0 || e != api.OK {
			t.Errorf("P15.2: Join with %q: %d, %d", l, n, e)
		}
		is(t, "P15.2: topics", g, fmt.Sprint("Syncing 2 of 1 until 40 | 0 joined until 110 ", l))
	}
}

func TestJoinFull(t *testing.T) {
	g := newGroup(t)
	for i := range 20 {
		joins(t, g, -1, fmt.Sprint("t", i), i, i)
	}
	joinsNot(t, "21 members", g, -1, nil, 30, api.ErrFull)
	joinsNot(t, "21 members, wrong topics", g, -1, []string{"b", "a"}, 30, api.ErrArg)
	joinsNot(t, "21 members, below -1", g, -2, nil, 30, api.ErrArg)
	joinsNot(t, "no member of 20", g, 20, nil, 30, api.ErrMember)
	joins(t, g, 0, "a", 30, 0)
	v := g.View()
	if len(v.Members) != 20 || v.Phase != member.Syncing || v.Generation != 2 || v.Next != 20 {
		t.Errorf("P15.2: 20 members: %s", told(v))
	}
	joinsNot(t, "21 members, in Syncing", g, -1, nil, 30, api.ErrFull)
	syncs(t, g, 0, 2, topics("a t7", 2, 1), false, 30, " a0 a1")
	joinsNot(t, "21 members, in Stable", g, -1, nil, 30, api.ErrFull)

	// With one gone another one has room; it does not get that one's number.
	gives(t, "P15.4: Leave", g.Leave(3, 31), api.OK)
	joins(t, g, -1, "a", 31, 20)
	joinsNot(t, "21 members again", g, -1, nil, 31, api.ErrFull)
	joinsNot(t, "one that has left", g, 3, nil, 31, api.ErrMember)
}

// TestNumbers: each new member has a number of its own, whoever has gone; members rise.
func TestNumbers(t *testing.T) {
	g := newGroup(t)
	for i := range 50 {
		joins(t, g, -1, "a", i, i)
		if i%2 == 0 {
			gives(t, "P15.4: Leave", g.Leave(i, i), api.OK)
		}
		if i%6 == 5 {
			gives(t, "P15.4: Leave", g.Leave(i-2, i), api.OK)
		}
		v := g.View()
		if v.Next != i+1 {
			t.Errorf("P15.2: Next: %s", told(v))
		}
		for k := 1; k < len(v.Members); k++ {
			if v.Members[k-1].Member >= v.Members[k].Member {
				t.Fatalf("P15.6: members do not rise: %s", told(v))
			}
		}
	}
}
