package member_test

import (
	"fmt"
	"testing"

	"flotsam/api"
	"flotsam/member"
)

// wrongTopics are lists that assign.Check refuses.
func wrongTopics() [][]api.Topic {
	var many []api.Topic
	for i := range 21 {
		many = append(many, api.Topic{Name: fmt.Sprintf("n%02d", i), Parts: 1})
	}
	return [][]api.Topic{topics("a", 0), topics("a", 17), topics("a", -1), topics("b a", 1, 1), topics("a a", 1, 1), many}
}

func TestSync(t *testing.T) {
	g := syncing(t, 3)
	l := topics("a b", 4, 2)
	syncs(t, g, 0, 2, l, false, 10, " a0 a1 b0")
	const want = "Stable 2 of 3 until 0 | 0 joined until 110 [a b] a0 a1 b0 | 1 joined until %d [a b] a2 b1 | 2 joined until 103 [a b] a3"
	is(t, "P15.3: Sync", g, fmt.Sprintf(want, 102))
	syncs(t, g, 1, 2, nil, true, 11, " a2 b1")
	is(t, "P15.3: Sync in Stable", g, fmt.Sprintf(want, 111))

	g = syncing(t, 3)
	syncs(t, g, 0, 2, l, true, 10, " a0 a3")
	is(t, "P15.3: Sync, round about", g, "Stable 2 of 3 until 0 | 0 joined until 110 [a b] a0 a3 | 1 joined until 102 [a b] a1 b0 | 2 joined until 103 [a b] a2 b1")

	// Without topics, and without any that somebody wants.
	for _, l := range [][]api.Topic{nil, {}, topics("c", 3)} {
		g = syncing(t, 2)
		syncs(t, g, 0, 2, l, false, 1, "")
		is(t, "P15.3: nothing to share", g, "Stable 2 of 2 until 0 | 0 joined until 101 [a b] | 1 joined until 102 [a b]")
		syncs(t, g, 1, 2, l, true, 2, "")
	}
}

// TestSyncOfOtherWants: each member gets of what it wants alone.
func TestSyncOfOtherWants(t *testing.T) {
	g := newGroup(t)
	for i, names := range []string{"a", "b c", "", "a x"} {
		joins(t, g, -1, names, 1, i)
	}
	joins(t, g, 0, "a", 1, 0)
	syncs(t, g, 0, 2, topics("a b c", 3, 1, 2), false, 1, " a0 a1")
	is(t, "P15.3", g, "Stable 2 of 4 until 0 | 0 joined until 101 [a] a0 a1 | 1 joined until 101 [b c] b0 c0 c1 | 2 joined until 101 [] | 3 joined until 101 [a x] a2")
}

func TestSyncAheadOfItsPhase(t *testing.T) {
	g := joining(t, 3)
	ahead := told(g.View())
	for m := range 3 {
		for _, l := range append(wrongTopics(), topics("a", 4), nil) {
			syncsNot(t, "in Joining", g, m, 2, l, 50, api.ErrWait)
		}
	}
	is(t, "P15.3: Sync in Joining", g, ahead)
}

// TestSyncOfOthers: who is not the leader waits, and lives on.
func TestSyncOfOthers(t *testing.T) {
	g := syncing(t, 3)
	syncsNot(t, "not the leader", g, 1, 2, topics("a", 4), 50, api.ErrWait)
	for _, l := range wrongTopics() {
		syncsNot(t, "not the leader, and wrong topics", g, 2, 2, l, 60, api.ErrWait)
	}
	is(t, "P15.3: not the leader", g, "Syncing 2 of 3 until 30 | 0 joined until 101 [a b] | 1 joined until 150 [a b] | 2 joined until 160 [a b]")
}

// TestSyncOfWrongTopics: nothing is dealt out, but the leader lives on.
func TestSyncOfWrongTopics(t *testing.T) {
	g := syncing(t, 2)
	for i, l := range wrongTopics() {
		syncsNot(t, "wrong topics", g, 0, 2, l, 50+i, api.ErrArg)
		is(t, "P15.3: wrong topics", g, fmt.Sprintf("Syncing 2 of 2 until 30 | 0 joined until %d [a b] | 1 joined until 102 [a b]", 150+i))
	}
	syncs(t, g, 0, 2, topics("a", 2), false, 70, " a0")
}

// TestSyncInStable: topics count no more, whoever asks and whatever they are.
func TestSyncInStable(t *testing.T) {
	g := stable(t, 2)
	for _, l := range append(wrongTopics(), topics("a b", 1, 1), nil) {
		for _, round := range []bool{false, true} {
			syncs(t, g, 0, 2, l, round, 20, " a0 a1 b0")
			syncs(t, g, 1, 2, l, round, 21, " a2 a3 b1")
		}
	}
	is(t, "P15.3: Sync in Stable", g, "Stable 2 of 2 until 0 | 0 joined until 120 [a b] a0 a1 b0 | 1 joined until 121 [a b] a2 a3 b1")
}

// TestLeaderIsTheFirst: when the first member goes the next one deals out.
func TestLeaderIsTheFirst(t *testing.T) {
	g := syncing(t, 3)
	gives(t, "P15.4: Leave", g.Leave(0, 10), api.OK)
	joins(t, g, 2, "a", 10, 2)
	joins(t, g, 1, "a", 10, 1)
	syncsNot(t, "not the leader", g, 2, 3, topics("a", 2), 11, api.ErrWait)
	syncsNot(t, "no more a member", g, 0, 3, topics("a", 2), 11, api.ErrMember)
	syncs(t, g, 1, 3, topics("a", 2), false, 11, " a0")
	syncs(t, g, 2, 3, nil, false, 11, " a1")
}

// TestSyncUntil: a phase that waits for its leader lasts as long as it did, whoever asks meanwhile.
func TestSyncUntil(t *testing.T) {
	g := syncing(t, 2)
	g.Sync(1, 2, nil, false, 20)
	g.Beat(1, 2, 25)
	g.Beat(0, 2, 26)
	if v := g.View(); v.Until != 30 || v.Phase != member.Syncing {
		t.Errorf("P15.3: %s", told(v))
	}
}
