package coord_test

import (
	"fmt"
	"math"
	"strings"
	"testing"

	"flotsam/api"
	"flotsam/coord"
)

func TestJoinNames(t *testing.T) {
	for _, name := range []string{"a", "ab", strings.Repeat("x", 99), strings.Repeat("x", 100), "\x00", "\xff\xfe", " ", strings.Repeat("é", 50)} {
		c := newCoord(t)
		joins(t, c, name, -1, "t", 5, coord.Joined{Member: 0, Generation: 1, Leader: 0})
		named(t, "P17.2", c, name)
		is(t, "P17.2", c, name, "Syncing 1 of 1 until 35 | 0 joined until 105 [t]")
	}
	c := newCoord(t)
	for _, name := range []string{"", strings.Repeat("x", 101), strings.Repeat("é", 51), strings.Repeat("x", 5000)} {
		for _, m := range []int{-2, -1, 0, 7} {
			joinsNot(t, "a name that may not be", c, name, m, []string{"t"}, 5, api.ErrArg)
			joinsNot(t, "a name that may not be, and a time", c, name, m, []string{"t"}, -1, api.ErrArg)
		}
	}
	named(t, "P17.2: none has come", c)
}

// TestJoin goes on as two members do: who is the leader, and of which generation, is told as it is behind the Join.
func TestJoin(t *testing.T) {
	c := newCoord(t)
	joins(t, c, "g", -1, "a", 1, coord.Joined{Member: 0, Generation: 1, Leader: 0})
	joins(t, c, "g", -1, "a b", 2, coord.Joined{Member: 1, Generation: 1, Leader: 0})
	is(t, "P17.2: Joining", c, "g", "Joining 1 of 2 until 32 | 0 until 101 [a] | 1 joined until 102 [a b]")
	joins(t, c, "g", 0, "b", 3, coord.Joined{Member: 0, Generation: 2, Leader: 0})
	is(t, "P17.2: closed", c, "g", "Syncing 2 of 2 until 33 | 0 joined until 103 [b] | 1 joined until 102 [a b]")
	gives(t, "P17.3: Leave", c.Leave("g", 0, 4), api.OK)
	is(t, "P17.3: Leave", c, "g", "Joining 2 of 2 until 34 | 1 until 102 [a b]")
	joins(t, c, "g", 1, "", 5, coord.Joined{Member: 1, Generation: 3, Leader: 1})
	joins(t, c, "g", -1, "c", 6, coord.Joined{Member: 2, Generation: 3, Leader: 1})
	joins(t, c, "g", -1, "c", 7, coord.Joined{Member: 3, Generation: 3, Leader: 1})
	gives(t, "P17.3: Leave", c.Leave("g", 1, 8), api.OK)
	is(t, "P17.3: closed by a Leave", c, "g", "Syncing 4 of 4 until 38 | 2 joined until 106 [c] | 3 joined until 107 [c]")
	joins(t, c, "g", 3, "c", 9, coord.Joined{Member: 3, Generation: 4, Leader: 2})
	named(t, "P17.2: one group", c, "g")
}

// TestJoinAgainEmpty: a group that has become Empty is the one it was, with its generation and its next member.
func TestJoinAgainEmpty(t *testing.T) {
	c := phased(t)
	joinsNot(t, "one that has gone", c, "empty", 0, nil, 10, api.ErrMember)
	joins(t, c, "empty", -1, "a", 10, coord.Joined{Member: 2, Generation: 3, Leader: 2})
	is(t, "P17.2: again", c, "empty", "Syncing 3 of 3 until 40 | 2 joined until 110 [a]")
}

// TestJoinRefused has member's errors: of a group that is not there it stays so.
func TestJoinRefused(t *testing.T) {
	var many []string
	for i := range 21 {
		many = append(many, fmt.Sprintf("t%02d", i))
	}
	c := newCoord(t)
	joins(t, c, "there", -1, "a", 0, coord.Joined{Member: 0, Generation: 1, Leader: 0})
	for _, group := range []string{"new", "there", "news"} {
		for _, now := range []int{math.MinInt, -1, topTime + 1, math.MaxInt} {
			joinsNot(t, "a wrong time", c, group, -1, nil, now, api.ErrArg)
			joinsNot(t, "a wrong time, no member", c, group, 5, nil, now, api.ErrArg)
		}
		for _, l := range [][]string{{"b", "a"}, {"a", "a"}, {"a", "c", "b"}, many} {
			joinsNot(t, "wrong topics", c, group, -1, l, 1, api.ErrArg)
			joinsNot(t, "wrong topics, no member", c, group, 5, l, 1, api.ErrArg)
		}
		for _, m := range []int{math.MinInt, -3, -2} {
			joinsNot(t, "a number below -1", c, group, m, nil, 1, api.ErrArg)
		}
		for _, m := range []int{1, 2, 1 << 30, math.MaxInt} {
			joinsNot(t, "no member", c, group, m, nil, 1, api.ErrMember)
		}
	}
	joinsNot(t, "no member of a new one", c, "new", 0, nil, 1, api.ErrMember)
	for _, group := range []string{"new", "news"} {
		isNot(t, "P17.2: its first Join was refused", c, group)
		syncsNot(t, "its first Join was refused", c, group, 0, 0, nil, 1, api.ErrMember)
		gives(t, "P17.3: its first Join was refused: Beat", c.Beat(group, 0, 0, 1), api.ErrMember)
		gives(t, "P17.3: its first Join was refused: Leave", c.Leave(group, 0, 1), api.ErrMember)
		gives(t, "P17.4: its first Join was refused: May", c.May(group, 0, 0), api.ErrMember)
	}
	named(t, "P17.2", c, "there")
	// It is as if nothing had been.
	joins(t, c, "new", -1, "a", 1, coord.Joined{Member: 0, Generation: 1, Leader: 0})
	joins(t, c, "news", -1, "", topTime, coord.Joined{Member: 0, Generation: 1, Leader: 0})
	named(t, "P17.2", c, "new", "news", "there")
}

func TestJoinFullOfMembers(t *testing.T) {
	c := newCoord(t)
	for i := range 20 {
		joins(t, c, "g", -1, "a", 1, coord.Joined{Member: i, Generation: 1, Leader: 0})
	}
	joinsNot(t, "the 21st member", c, "g", -1, []string{"a"}, 1, api.ErrFull)
	joins(t, c, "h", -1, "a", 1, coord.Joined{Member: 0, Generation: 1, Leader: 0})
	joins(t, c, "g", 0, "a", 1, coord.Joined{Member: 0, Generation: 2, Leader: 0})
	joinsNot(t, "the 21st member", c, "g", -1, []string{"a"}, 2, api.ErrFull)
}

func TestJoinFullOfGroups(t *testing.T) {
	c := newCoord(t)
	// Groups that were not made take no room.
	for i := range 30 {
		joinsNot(t, "refused", c, fmt.Sprint("no", i), 0, nil, 1, api.ErrMember)
	}
	for i := range 20 {
		joins(t, c, fmt.Sprint("g", i), -1, "a", 1, coord.Joined{Member: 0, Generation: 1, Leader: 0})
	}
	if n := len(c.Names()); n != 20 {
		t.Fatalf("P17.2: %d groups", n)
	}
	for _, name := range []string{"g20", "a", "z", strings.Repeat("x", 100)} {
		joinsNot(t, "the 21st group", c, name, -1, []string{"a"}, 1, api.ErrFull)
		// All that member has to say comes behind that.
		joinsNot(t, "the 21st group, a wrong time", c, name, -1, []string{"a"}, -1, api.ErrFull)
		joinsNot(t, "the 21st group, wrong topics", c, name, -1, []string{"b", "a"}, 1, api.ErrFull)
		joinsNot(t, "the 21st group, a wrong number", c, name, -2, nil, 1, api.ErrFull)
		joinsNot(t, "the 21st group, no member", c, name, 3, nil, 1, api.ErrFull)
		isNot(t, "P17.2: the 21st group", c, name)
	}
	for _, name := range []string{"", strings.Repeat("x", 101)} {
		joinsNot(t, "the 21st group, and a name that may not be", c, name, -1, nil, 1, api.ErrArg)
	}
	// Those that are there go on.
	joins(t, c, "g7", -1, "a", 2, coord.Joined{Member: 1, Generation: 1, Leader: 0})
	joins(t, c, "g19", 0, "a", 2, coord.Joined{Member: 0, Generation: 2, Leader: 0})
	// One that becomes Empty is still there: it gives no room to another one.
	gives(t, "P17.3: Leave", c.Leave("g3", 0, 3), api.OK)
	is(t, "P17.3: Leave", c, "g3", "Empty 1 of 1 until 0")
	joinsNot(t, "the 21st group, one of them Empty", c, "g20", -1, []string{"a"}, 4, api.ErrFull)
	joins(t, c, "g3", -1, "a", 4, coord.Joined{Member: 1, Generation: 2, Leader: 1})
}
