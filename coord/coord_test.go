package coord_test

import (
	"fmt"
	"math"
	"reflect"
	"slices"
	"strings"
	"testing"
	"unsafe"

	"flotsam/api"
	"flotsam/coord"
	"flotsam/member"
)

// How long a member and a phase last in the groups of these tests.
const (
	session   = 100
	rebalance = 30
)

const (
	topTime   = 1 << 40
	topOffset = 1 << 40
)

func newCoord(t *testing.T) *coord.Coord {
	t.Helper()
	c, e := coord.New(session, rebalance)
	if c == nil || e != api.OK {
		t.Fatalf("P17.1: New: %v, %d", c, e)
	}
	return c
}

// told is a group as a text: "Stable 2 of 3 until 0 | 0 joined until 110 [a b] a0 b0 | 1 until 105 []", with the generation, and behind "of" the next member.
func told(v member.View) string {
	phase := fmt.Sprint("phase ", v.Phase)
	if names := []string{"Empty", "Joining", "Syncing", "Stable"}; v.Phase >= 0 && v.Phase < len(names) {
		phase = names[v.Phase]
	}
	s := fmt.Sprint(phase, " ", v.Generation, " of ", v.Next, " until ", v.Until)
	for _, o := range v.Members {
		s += fmt.Sprint(" | ", o.Member)
		if o.Joined {
			s += " joined"
		}
		s += fmt.Sprint(" until ", o.Until, " ", o.Topics, parts(o.Parts))
	}
	return s
}

// parts are some as a text, a blank ahead of each.
func parts(l []api.Part) string {
	s := ""
	for _, p := range l {
		s += fmt.Sprint(" ", p.Topic, p.Index)
	}
	return s
}

// all are all groups as a text, one in each line.
func all(c *coord.Coord) string {
	s := ""
	for _, name := range c.Names() {
		s += fmt.Sprintf("%q: %s\n", name, told(c.Group(name)))
	}
	return s
}

func topics(names string, parts ...int) []api.Topic {
	var l []api.Topic
	for i, name := range strings.Fields(names) {
		l = append(l, api.Topic{Name: name, Parts: parts[i]})
	}
	return l
}

func part(topic string, index int) api.Part { return api.Part{Topic: topic, Index: index} }

func gives(t *testing.T, what string, e api.Errno, want api.Errno) {
	t.Helper()
	if e != want {
		t.Errorf("%s: %d, want %d", what, e, want)
	}
}

// is holds a group against what it has to be.
func is(t *testing.T, what string, c *coord.Coord, group string, want string) {
	t.Helper()
	if s := told(c.Group(group)); s != want {
		t.Errorf("%s: %q: %q, want %q", what, group, s, want)
	}
}

// isNot is of a group that is not there.
func isNot(t *testing.T, what string, c *coord.Coord, group string) {
	t.Helper()
	if slices.Contains(c.Names(), group) {
		t.Errorf("%s: %q is one of %q", what, group, c.Names())
	}
	if v := c.Group(group); !reflect.DeepEqual(v, member.View{}) {
		t.Errorf("%s: %q: %+v", what, group, v)
	}
}

func named(t *testing.T, what string, c *coord.Coord, want ...string) {
	t.Helper()
	if l := c.Names(); !slices.Equal(l, want) {
		t.Errorf("%s: Names: %q, want %q", what, l, want)
	}
}

// joins has a member join, a new one with m -1.
func joins(t *testing.T, c *coord.Coord, group string, m int, names string, now int, want coord.Joined) {
	t.Helper()
	if j, e := c.Join(group, m, strings.Fields(names), now); j != want || e != api.OK {
		t.Errorf("P17.2: Join of %q, %d with %q at %d: %+v, %d, want %+v, OK", group, m, names, now, j, e, want)
	}
}

// joinsNot tells also that nothing has changed.
func joinsNot(t *testing.T, what string, c *coord.Coord, group string, m int, l []string, now int, want api.Errno) {
	t.Helper()
	ahead := all(c)
	if j, e := c.Join(group, m, l, now); j != (coord.Joined{}) || e != want {
		t.Errorf("P17.2: %s: Join of %q, %d with %q at %d: %+v, %d, want nothing, %d", what, group, m, l, now, j, e, want)
	}
	if s := all(c); s != ahead {
		t.Errorf("P17.2: %s: Join of %q: %s, ahead of it %s", what, group, s, ahead)
	}
}

func syncs(t *testing.T, c *coord.Coord, group string, m int, generation int, l []api.Topic, round bool, now int, want string) {
	t.Helper()
	if got, e := c.Sync(group, m, generation, l, round, now); parts(got) != want || e != api.OK {
		t.Errorf("P17.3: Sync of %q, %d at %d:%s, %d, want%s, OK", group, m, now, parts(got), e, want)
	}
}

func syncsNot(t *testing.T, what string, c *coord.Coord, group string, m int, generation int, l []api.Topic, now int, want api.Errno) {
	t.Helper()
	for _, round := range []bool{false, true} {
		if got, e := c.Sync(group, m, generation, l, round, now); len(got) != 0 || e != want {
			t.Errorf("P17.3: %s: Sync of %q, %d, generation %d, at %d:%s, %d, want %d", what, group, m, generation, now, parts(got), e, want)
		}
	}
}

func commits(t *testing.T, what string, c *coord.Coord, group string, p api.Part, at int, want api.Errno) {
	t.Helper()
	if e := c.Commit(group, p, at); e != want {
		t.Errorf("%s: Commit of %q, %v at %d: %d, want %d", what, group, p, at, e, want)
	}
}

func has(t *testing.T, what string, c *coord.Coord, group string, p api.Part, want int) {
	t.Helper()
	if at, ok := c.Committed(group, p); at != want || !ok {
		t.Errorf("%s: Committed of %q, %v: %d, %t, want %d", what, group, p, at, ok, want)
	}
}

func hasNot(t *testing.T, what string, c *coord.Coord, group string, p api.Part) {
	t.Helper()
	if at, ok := c.Committed(group, p); at != 0 || ok {
		t.Errorf("%s: Committed of %q, %v: %d, %t, want none", what, group, p, at, ok)
	}
}

// within tells whether a text's bytes lie within those of another one.
func within(s string, whole string) bool {
	first := uintptr(unsafe.Pointer(unsafe.StringData(whole)))
	at := uintptr(unsafe.Pointer(unsafe.StringData(s)))
	return at >= first && at < first+uintptr(len(whole))
}

// phased has the groups empty, joining, syncing and stable, each named as it is, the last three with two members in generation 2 (joining: member 0 has not joined again).
func phased(t *testing.T) *coord.Coord {
	t.Helper()
	c := newCoord(t)
	for _, name := range []string{"stable", "syncing", "joining", "empty"} {
		joins(t, c, name, -1, "a", 0, coord.Joined{Member: 0, Generation: 1, Leader: 0})
		joins(t, c, name, -1, "a", 1, coord.Joined{Member: 1, Generation: 1, Leader: 0})
		joins(t, c, name, 0, "a", 2, coord.Joined{Member: 0, Generation: 2, Leader: 0})
	}
	joins(t, c, "joining", 1, "a", 3, coord.Joined{Member: 1, Generation: 2, Leader: 0})
	syncs(t, c, "stable", 0, 2, topics("a", 3), false, 3, " a0 a1")
	for m := range 2 {
		gives(t, "P17.3: Leave", c.Leave("empty", m, 3), api.OK)
	}
	is(t, "P17.3", c, "empty", "Empty 2 of 2 until 0")
	is(t, "P17.2", c, "joining", "Joining 2 of 2 until 33 | 0 until 102 [a] | 1 joined until 103 [a]")
	is(t, "P17.2", c, "syncing", "Syncing 2 of 2 until 32 | 0 joined until 102 [a] | 1 joined until 101 [a]")
	is(t, "P17.3", c, "stable", "Stable 2 of 2 until 0 | 0 joined until 103 [a] a0 a1 | 1 joined until 101 [a] a2")
	named(t, "P17.1", c, "empty", "joining", "stable", "syncing")
	return c
}

// TestExample is example 1 of the chapter.
func TestExample(t *testing.T) {
	c := newCoord(t)
	joins(t, c, "g", -1, "t", 0, coord.Joined{Member: 0, Generation: 1, Leader: 0})
}

func TestNew(t *testing.T) {
	wrong := []int{math.MinInt, -1, 0, 100001, math.MaxInt}
	right := []int{1, 2, 99999, 100000}
	for _, s := range right {
		for _, r := range right {
			c, e := coord.New(s, r)
			if c == nil || e != api.OK {
				t.Fatalf("P17.1: New(%d, %d): %v, %d", s, r, c, e)
			}
			named(t, "P17.1: a new one", c)
			isNot(t, "P17.1: a new one", c, "g")
			for _, name := range []string{"g", "h"} {
				joins(t, c, name, -1, "", 7, coord.Joined{Member: 0, Generation: 1, Leader: 0})
				is(t, "P17.1: how long", c, name, fmt.Sprintf("Syncing 1 of 1 until %d | 0 joined until %d []", 7+r, 7+s))
			}
		}
	}
	for _, s := range append(right, wrong...) {
		for _, r := range append(right, wrong...) {
			g, want := member.New(s, r)
			c, e := coord.New(s, r)
			if (c == nil) != (g == nil) || e != want {
				t.Errorf("P17.1: New(%d, %d): %v, %d, want member's %v, %d", s, r, c, e, g, want)
			}
			if (slices.Contains(wrong, s) || slices.Contains(wrong, r)) && (c != nil || e != api.ErrArg) {
				t.Errorf("P17.1: New(%d, %d): %v, %d, want nil, ErrArg", s, r, c, e)
			}
		}
	}
}

func TestNil(t *testing.T) {
	var c *coord.Coord
	for _, group := range []string{"", "g", strings.Repeat("g", 101)} {
		for _, n := range []int{-2, -1, 0, 1, topTime + 1} {
			for _, now := range []int{-1, 0, 7} {
				joinsNot(t, "nil", c, group, n, []string{"a"}, now, api.ErrArg)
				syncsNot(t, "nil", c, group, n, n, topics("a", 1), now, api.ErrArg)
				gives(t, "nil: Beat", c.Beat(group, n, n, now), api.ErrArg)
				gives(t, "nil: Leave", c.Leave(group, n, now), api.ErrArg)
				c.Tick(now)
			}
			// With -1, -1 it would be OK of one that has no such group.
			gives(t, "nil: May", c.May(group, n, n), api.ErrArg)
			commits(t, "nil", c, group, part("t", 0), n, api.ErrArg)
			hasNot(t, "nil", c, group, part("t", n))
		}
		isNot(t, "nil", c, group)
		if n := c.Drop(group); n != 0 {
			t.Errorf("nil: Drop: %d", n)
		}
	}
	named(t, "nil", c)
}

// TestNotMadeByNew has a coordinator that nobody promised anything of: but no call panics (R1).
func TestNotMadeByNew(t *testing.T) {
	c := &coord.Coord{}
	for range 2 {
		c.Join("g", -1, []string{"a"}, 0)
		c.Sync("g", 0, 1, topics("a", 1), false, 0)
		c.Beat("g", 0, 1, 0)
		c.Leave("g", 0, 0)
		c.May("g", -1, -1)
		c.May("g", 0, 1)
		c.Commit("g", part("t", 0), 1)
		c.Committed("g", part("t", 0))
		c.Drop("t")
		c.Tick(1)
		c.Names()
		c.Group("g")
	}
}

func TestNames(t *testing.T) {
	want := []string{"\x00", "A", "B", "a", "a\x00", "a b", "aa", "b", "ba", "z", "é", "\xff", "\xff\x00"}
	slices.Sort(want)
	for shift := range want {
		c := newCoord(t)
		for i := range want {
			// Five apart, so that they come neither in their order nor in its reverse.
			name := want[(5*i+shift)%len(want)]
			joins(t, c, name, -1, "t", i, coord.Joined{Member: 0, Generation: 1, Leader: 0})
		}
		named(t, "P17.1: rising", c, want...)
		for _, name := range want {
			// Who has joined already, or has gone, changes no names.
			joins(t, c, name, 0, "t", 20, coord.Joined{Member: 0, Generation: 2, Leader: 0})
			gives(t, "P17.3: Leave", c.Leave(name, 0, 21), api.OK)
		}
		named(t, "P17.1: rising", c, want...)
		clear(c.Names())
		named(t, "R5: Names are new ones", c, want...)
	}
}

func TestGroup(t *testing.T) {
	c := phased(t)
	for _, name := range []string{"", "stabl", "stables", "STABLE", "stable\x00", "g", strings.Repeat("x", 100), strings.Repeat("x", 101)} {
		isNot(t, "P17.1: no such group", c, name)
	}
	want := all(c)
	for _, name := range c.Names() {
		v := c.Group(name)
		v.Phase, v.Generation, v.Next, v.Until = 9, 9, 9, 9
		for i := range v.Members {
			clear(v.Members[i].Topics)
			clear(v.Members[i].Parts)
		}
		clear(v.Members)
	}
	if s := all(c); s != want {
		t.Errorf("R5: a View is shared: %s, want %s", s, want)
	}
	// To ask for one makes none.
	named(t, "P17.1", c, "empty", "joining", "stable", "syncing")
}

// TestMemory: what is handed in is not kept, what is answered is new.
func TestMemory(t *testing.T) {
	c := newCoord(t)
	name, wanted := strings.Repeat("name", 5), []string{"a", "b"}
	for m := range 2 {
		given := []byte(name)
		if _, e := c.Join(unsafe.String(&given[0], len(given)), m-1, wanted, 0); e != api.OK {
			t.Fatalf("P17.2: Join: %d", e)
		}
		// A name whose bytes change is none that Go's own code hands in: but what has not kept it does not see that.
		clear(given)
		named(t, "R5: a name is not kept", c, name)
		is(t, "R5: a name is not kept", c, name, fmt.Sprintf("Syncing %d of 1 until 30 | 0 joined until 100 [a b]", m+1))
	}
	if first, again := c.Names()[0], c.Names()[0]; within(again, first) {
		t.Error("R5: a name is answered twice")
	}
	clear(wanted)
	is(t, "R5: topics are not kept", c, name, "Syncing 2 of 1 until 30 | 0 joined until 100 [a b]")
	l := topics("a b", 3, 1)
	syncs(t, c, name, 0, 2, l, false, 1, " a0 a1 a2 b0")
	clear(l)
	got, _ := c.Sync(name, 0, 2, nil, false, 1)
	clear(got)
	is(t, "R5: parts are new ones", c, name, "Stable 2 of 1 until 0 | 0 joined until 101 [a b] a0 a1 a2 b0")
}
