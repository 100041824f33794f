package state_test

import (
	"fmt"
	"strings"
	"testing"

	"flotsam/api"
	"flotsam/state"
	"flotsam/wire"
)

func joining(group string, m int, topics ...string) wire.Request {
	return wire.Request{Kind: wire.Join, Group: group, Member: m, Topics: topics}
}

func sharing(group string, m, generation int) wire.Request {
	return wire.Request{Kind: wire.Share, Group: group, Member: m, Generation: generation}
}

func beating(group string, m, generation int) wire.Request {
	return wire.Request{Kind: wire.Beat, Group: group, Member: m, Generation: generation}
}

func leaving(group string, m int) wire.Request {
	return wire.Request{Kind: wire.Leave, Group: group, Member: m}
}

func committing(group, name string, index, m, generation, from int) wire.Request {
	return wire.Request{Kind: wire.Commit, Group: group, Name: name, Index: index, Member: m, Generation: generation, From: from}
}

// commits has a commit of somebody who is in no group.
func commits(t *testing.T, m *state.Machine, group, name string, index, from int, e api.Errno) {
	t.Helper()
	replies(t, "P20.4: Commit", m, committing(group, name, index, -1, -1, from), 0, wire.Reply{Error: e})
}

func committed(t *testing.T, m *state.Machine, group, name string, index, want int) {
	t.Helper()
	replies(t, "P20.4: Committed", m, wire.Request{Kind: wire.Committed, Group: group, Name: name, Index: index}, 0, wire.Reply{At: want})
}

// row is the partitions of a topic from one to another one.
func row(name string, from, to int) []api.Part {
	var l []api.Part
	for i := from; i < to; i++ {
		l = append(l, api.Part{Topic: name, Index: i})
	}
	return l
}

func TestJoin(t *testing.T) {
	m := withTopics(t, api.Topic{Name: "t", Parts: 3})
	replies(t, "P20.4: the first one", m, joining("g", -1, "t"), 0, wire.Reply{Generation: 1})
	replies(t, "P20.4: the second one", m, joining("g", -1, "t"), 1, wire.Reply{Member: 1, Generation: 1})
	replies(t, "P20.4: the first one again", m, joining("g", 0, "t"), 2, wire.Reply{Generation: 2})
	replies(t, "P20.4: another group", m, joining("h", -1), 2, wire.Reply{Generation: 1})
	replies(t, "P20.4: Leave of the leader", m, leaving("g", 0), 3, wire.Reply{})
	replies(t, "P20.4: the second one is the leader", m, joining("g", 1), 4, wire.Reply{Member: 1, Generation: 3, Leader: 1})
	replies(t, "P20.4: the third one", m, joining("g", -1), 4, wire.Reply{Member: 2, Generation: 3, Leader: 1})
	for _, c := range []struct {
		q   wire.Request
		now int
		e   api.Errno
	}{
		{joining("g", 7), 5, api.ErrMember}, {joining("x", 0), 5, api.ErrMember}, {joining("", -1), 5, api.ErrArg}, {joining("g", -1, "b", "a"), 5, api.ErrArg},
		{joining("g", -1, "a", "a"), 5, api.ErrArg}, {joining("g", -1), -1, api.ErrArg}, {joining("g", -1), 1<<40 + 1, api.ErrArg},
	} {
		refuses(t, "P20.4: Join", m, c.q, c.now, c.e)
	}
	// What stands in other fields counts for nothing.
	q := joining("k", -1)
	q.Name, q.Index, q.Count, q.From, q.Flag, q.Generation = "u", 5, 6, 7, true, 8
	replies(t, "P20.4: Join", m, q, 5, wire.Reply{Generation: 1})
	for i := range 17 {
		replies(t, "P20.4: more groups", m, joining(fmt.Sprint("n", i), -1), 5, wire.Reply{Generation: 1})
	}
	refuses(t, "P20.4: the 21st group", m, joining("z", -1), 5, api.ErrFull)
}

func TestShare(t *testing.T) {
	m := withTopics(t, api.Topic{Name: "t", Parts: 3}, api.Topic{Name: "u", Parts: 2})
	m.Do(joining("g", -1, "t", "u"), 0)
	refuses(t, "P20.4: Share of no group", m, sharing("x", 0, 1), 0, api.ErrMember)
	refuses(t, "P20.4: Share of no member", m, sharing("g", 1, 1), 0, api.ErrMember)
	refuses(t, "P20.4: Share of another generation", m, sharing("g", 0, 0), 0, api.ErrOld)
	refuses(t, "P20.4: Share at no time", m, sharing("g", 0, 1), -1, api.ErrArg)
	replies(t, "P20.4: Share", m, sharing("g", 0, 1), 0, wire.Reply{Parts: append(row("t", 0, 3), row("u", 0, 2)...)})
	m.Do(joining("g", -1, "t"), 1)
	refuses(t, "P20.4: Share in Joining", m, sharing("g", 0, 1), 1, api.ErrWait)
	m.Do(joining("g", 0, "t", "u"), 1)
	refuses(t, "P20.4: Share ahead of the leader's", m, sharing("g", 1, 2), 1, api.ErrWait)
	// Without the flag in rows.
	replies(t, "P20.4: Share of the leader", m, sharing("g", 0, 2), 1, wire.Reply{Parts: append(row("t", 0, 2), row("u", 0, 2)...)})
	replies(t, "P20.4: Share of the second one", m, sharing("g", 1, 2), 1, wire.Reply{Parts: row("t", 2, 3)})
	// With the flag one by one: the leader's flag counts.
	m.Do(joining("g", 0, "t", "u"), 2)
	m.Do(joining("g", 1, "t"), 2)
	q := sharing("g", 0, 3)
	q.Flag = true
	replies(t, "P20.4: Share of the leader, one by one", m, q, 2, wire.Reply{Parts: []api.Part{{Topic: "t"}, {Topic: "t", Index: 2}, {Topic: "u"}, {Topic: "u", Index: 1}}})
	replies(t, "P20.4: Share of the second one, one by one", m, sharing("g", 1, 3), 2, wire.Reply{Parts: row("t", 1, 2)})
	// It is of the topics that there are then.
	m.Do(wire.Request{Kind: wire.Delete, Name: "t"}, 0)
	m.Do(wire.Request{Kind: wire.Create, Name: "v", Count: 1}, 0)
	replies(t, "P20.4: dealt out already", m, sharing("g", 1, 3), 2, wire.Reply{Parts: row("t", 1, 2)})
	m.Do(joining("g", 0, "t", "u", "v"), 3)
	m.Do(joining("g", 1, "t"), 3)
	replies(t, "P20.4: without the topic that is gone", m, sharing("g", 0, 4), 3, wire.Reply{Parts: append(row("u", 0, 2), row("v", 0, 1)...)})
	replies(t, "P20.4: nothing is left", m, sharing("g", 1, 4), 3, wire.Reply{})
}

func TestBeatAndLeave(t *testing.T) {
	m := ofT(t)
	m.Do(joining("g", -1, "t"), 0)
	refuses(t, "P20.4: Beat of no group", m, beating("x", 0, 1), 0, api.ErrMember)
	refuses(t, "P20.4: Beat of no member", m, beating("g", 5, 1), 0, api.ErrMember)
	refuses(t, "P20.4: Beat of another generation", m, beating("g", 0, 2), 0, api.ErrOld)
	refuses(t, "P20.4: Beat in Syncing", m, beating("g", 0, 1), 0, api.ErrWait)
	refuses(t, "P20.4: Beat at no time", m, beating("g", 0, 1), -1, api.ErrArg)
	m.Do(sharing("g", 0, 1), 0)
	replies(t, "P20.4: Beat", m, beating("g", 0, 1), 99, wire.Reply{})
	// It lives for 100 ticks from then on.
	m.Tick(198)
	replies(t, "P20.4: Beat in time", m, beating("g", 0, 1), 198, wire.Reply{})
	m.Tick(297)
	replies(t, "P20.4: Beat in time", m, beating("g", 0, 1), 150, wire.Reply{})
	m.Tick(250)
	refuses(t, "P20.1: Tick: it was not heard", m, beating("g", 0, 1), 250, api.ErrMember)

	replies(t, "P20.4: a new one", m, joining("g", -1), 250, wire.Reply{Member: 1, Generation: 2, Leader: 1})
	refuses(t, "P20.4: Leave of no group", m, leaving("x", 0), 250, api.ErrMember)
	refuses(t, "P20.4: Leave of no member", m, leaving("g", 0), 250, api.ErrMember)
	refuses(t, "P20.4: Leave at no time", m, leaving("g", 1), -1, api.ErrArg)
	replies(t, "P20.4: Leave", m, leaving("g", 1), 250, wire.Reply{})
	refuses(t, "P20.4: Leave again", m, leaving("g", 1), 250, api.ErrMember)
}

// TestTick: of all groups, members go that were not heard, and phases end.
func TestTick(t *testing.T) {
	m := ofT(t)
	m.Do(joining("g", -1, "t"), 0)
	m.Do(joining("g", -1, "t"), 1)
	m.Do(joining("h", -1, "t"), 1)
	m.Tick(-1)
	m.Tick(1<<40 + 1)
	m.Tick(30)
	refuses(t, "P20.1: Tick ahead of the end", m, beating("g", 1, 1), 30, api.ErrWait)
	m.Tick(31)
	// Who has not joined again is gone, and it is another generation.
	refuses(t, "P20.1: Tick", m, beating("g", 0, 2), 31, api.ErrMember)
	replies(t, "P20.1: Tick", m, sharing("g", 1, 2), 31, wire.Reply{Parts: row("t", 0, 2)})
	// The leader of the other one has not dealt out in time.
	refuses(t, "P20.1: Tick", m, sharing("h", 0, 1), 31, api.ErrMember)
}

func TestCommit(t *testing.T) {
	m := withTopics(t, api.Topic{Name: "t", Parts: 2}, api.Topic{Name: "u", Parts: 1})
	committed(t, m, "g", "t", 0, -1)
	commits(t, m, "g", "t", 0, 0, api.OK)
	committed(t, m, "g", "t", 0, 0)
	commits(t, m, "g", "t", 1, 5, api.OK)
	commits(t, m, "g", "t", 0, 1<<40, api.OK)
	commits(t, m, "h", "t", 0, 6, api.OK)
	commits(t, m, "g", "u", 0, 7, api.OK)
	committed(t, m, "g", "t", 0, 1<<40)
	committed(t, m, "g", "t", 1, 5)
	committed(t, m, "h", "t", 0, 6)
	committed(t, m, "g", "u", 0, 7)
	// It may fall, and be above the end.
	commits(t, m, "g", "t", 0, 3, api.OK)
	committed(t, m, "g", "t", 0, 3)

	commits(t, m, "g", "t", 0, -1, api.ErrArg)
	commits(t, m, "g", "t", 0, 1<<40+1, api.ErrArg)
	commits(t, m, "", "t", 0, 1, api.ErrArg)
	for _, c := range []struct {
		name  string
		index int
	}{{"t", 2}, {"t", -1}, {"u", 1}, {"x", 0}, {"", 0}} {
		commits(t, m, "g", c.name, c.index, 1, api.ErrNone)
		commits(t, m, "g", c.name, c.index, -1, api.ErrNone)
		refuses(t, "P20.4: ahead of who it is", m, committing("g", c.name, c.index, 5, 5, 1), 0, api.ErrNone)
		committed(t, m, "g", c.name, c.index, -1)
	}
	committed(t, m, "x", "t", 0, -1)
	committed(t, m, "", "", 0, -1)
	committed(t, m, "g", "t", 16, -1)
	committed(t, m, "g", "t", 0, 3)
}

func TestCommitOfMembers(t *testing.T) {
	m := ofT(t)
	refuses(t, "P20.4: Commit of no group", m, committing("g", "t", 0, 0, 1, 4), 0, api.ErrMember)
	m.Do(joining("g", -1, "t"), 0)
	for _, c := range []struct {
		m, generation, from int
		e                   api.Errno
	}{
		{0, 1, 4, api.OK}, {0, 0, 5, api.ErrOld}, {0, 2, 5, api.ErrOld}, {1, 1, 5, api.ErrMember}, {-1, -1, 5, api.ErrMember}, {0, -1, 5, api.ErrOld}, {-1, 1, 5, api.ErrMember},
		{0, 1, -1, api.ErrArg}, {0, 0, -1, api.ErrOld}, {1, 1, -1, api.ErrMember}, {0, 1, 1<<40 + 1, api.ErrArg},
	} {
		for _, now := range []int{-1, 0, 1 << 41} {
			replies(t, "P20.4: Commit of a member", m, committing("g", "t", 0, c.m, c.generation, c.from), now, wire.Reply{Error: c.e})
			committed(t, m, "g", "t", 0, 4)
		}
	}
	m.Do(joining("g", -1, "t"), 1)
	refuses(t, "P20.4: Commit in Joining", m, committing("g", "t", 0, 0, 1, 5), 1, api.ErrWait)
	committed(t, m, "g", "t", 0, 4)
	m.Do(joining("g", 0, "t"), 1)
	refuses(t, "P20.4: Commit of the generation ahead", m, committing("g", "t", 0, 0, 1, 5), 1, api.ErrOld)
	replies(t, "P20.4: Commit in Syncing", m, committing("g", "t", 1, 1, 2, 6), 1, wire.Reply{})
	committed(t, m, "g", "t", 1, 6)
	m.Do(leaving("g", 0), 2)
	m.Do(leaving("g", 1), 2)
	commits(t, m, "g", "t", 0, 9, api.OK)
	committed(t, m, "g", "t", 0, 9)
}

// TestCommitFull: there is room for 1000 of them.
func TestCommitFull(t *testing.T) {
	m := withTopics(t, api.Topic{Name: "t", Parts: 16}, api.Topic{Name: "u", Parts: 16})
	n := 0
	for i := 0; n < 1000; i++ {
		commits(t, m, fmt.Sprint(strings.Repeat("g", 90), i/32), []string{"t", "u"}[i/16%2], i%16, i, api.OK)
		n++
	}
	commits(t, m, "g", "t", 0, 1, api.ErrFull)
	committed(t, m, "g", "t", 0, -1)
	commits(t, m, strings.Repeat("g", 90)+"0", "t", 0, 77, api.OK)
	committed(t, m, strings.Repeat("g", 90)+"0", "t", 0, 77)
	m.Do(wire.Request{Kind: wire.Delete, Name: "u"}, 0)
	commits(t, m, "g", "t", 0, 1, api.OK)
}
