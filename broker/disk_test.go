package broker_test

import (
	"fmt"
	"strings"
	"testing"

	"flotsam/api"
	"flotsam/broker"
	"flotsam/disk"
	"flotsam/wire"
)

// filled has something of all kinds.
func filled(t *testing.T) (*broker.Broker, *disk.Disk) {
	t.Helper()
	b, d := ofT(t)
	replies(t, "P22.2", b, creating("u", 1), wire.Reply{At: 1})
	for i := range 5 {
		replies(t, "P22.2", b, producing(by(4, i, said("k", "v", i)), true), wire.Reply{At: i})
	}
	replies(t, "P22.2", b, trimming(1), wire.Reply{})
	replies(t, "P22.2", b, committing(3), wire.Reply{})
	replies(t, "P22.2", b, wire.Request{Kind: wire.Identify}, wire.Reply{})
	return b, d
}

// written are requests that have something to write, and what they are answered; each is done to a broker of its own.
func written() []struct {
	name string
	q    wire.Request
	want wire.Reply
} {
	return []struct {
		name string
		q    wire.Request
		want wire.Reply
	}{
		{"Create", creating("v", 3), wire.Reply{At: 2}},
		{"Delete", deleting("t"), wire.Reply{}},
		{"Identify", wire.Request{Kind: wire.Identify}, wire.Reply{At: 1}},
		{"Produce", producing(by(4, 5, small(2)), true), wire.Reply{At: 5}},
		{"Trim", trimming(3), wire.Reply{}},
		{"Commit", committing(4), wire.Reply{}},
	}
}

// shown is all that a broker tells of what filled made, and of what written does.
func shown(b *broker.Broker) string {
	s := fmt.Sprintf("%+v", evened(b.Do(wire.Request{Kind: wire.Describe}, 0)))
	for _, q := range []wire.Request{fetching(0, 30000), fetching(1, 30000), fetching(3, 30000), seeking(0), committed} {
		s += "\n" + fmt.Sprintf("%+v", evened(b.Do(q, 0)))
	}
	return s + fmt.Sprint("\n", b.End("t", 0), b.End("t", 1), b.End("u", 0), b.End("v", 2))
}

// nextID is the one of the next producer.
func nextID(b *broker.Broker) int { return b.Do(wire.Request{Kind: wire.Identify}, 0).At }

// TestDown: of a disk that is down each request that has something to write tells that, and nothing has changed; the others go on.
func TestDown(t *testing.T) {
	for _, c := range written() {
		b, d := filled(t)
		was := shown(b)
		d.Fuse(0)
		refuses(t, "P22.3: "+c.name+" of a disk that is down", b, c.q, api.ErrDown)
		if is := shown(b); is != was {
			t.Errorf("P22.3: %s of a disk that is down: %s, and was %s", c.name, is, was)
		}
		d.Fuse(-1)
		replies(t, "P22.3: "+c.name+" behind it", b, c.q, c.want)
	}
}

// TestFull likewise, of a disk that has no room; but a Delete has less to write than there is.
func TestFull(t *testing.T) {
	for _, c := range written() {
		b, d := filled(t)
		was := shown(b)
		d.Append("fills", strings.Repeat("x", d.Room()-d.Used()-1))
		refuses(t, "P22.3: "+c.name+" without room", b, c.q, api.ErrFull)
		if is := shown(b); is != was {
			t.Errorf("P22.3: %s without room: %s, and was %s", c.name, is, was)
		}
		d.Drop("fills")
		replies(t, "P22.3: "+c.name+" behind it", b, c.q, c.want)
	}
}

// TestEachChange has each request by each change that the disk lets go: what was answered OK holds behind a crash, what was not is there whole or not at all.
func TestEachChange(t *testing.T) {
	for _, c := range written() {
		b, d := filled(t)
		before := shown(b)
		b.Do(c.q, 0)
		done := shown(b)
		for fuse := 0; ; fuse++ {
			b, d = filled(t)
			d.Fuse(fuse)
			r := b.Do(c.q, 0)
			if r.Error != api.OK && !same(r, wire.Reply{Error: api.ErrDown}) || r.Error == api.OK && !same(r, c.want) {
				t.Errorf("P22.3: %s with a fuse of %d: %s", c.name, fuse, short(r))
			}
			d.Crash(nil)
			b = open(t, d)
			is := shown(b)
			if r.Error == api.OK && is != done || is != before && is != done {
				t.Errorf("P22.4: %s with a fuse of %d, answered %d: %s", c.name, fuse, r.Error, is)
			}
			if id := nextID(b); id != 1 && (id != 2 || c.name != "Identify") || c.name == "Identify" && r.Error == api.OK && id != 2 {
				t.Errorf("P22.4: %s with a fuse of %d: the next producer is %d", c.name, fuse, id)
			}
			if r.Error == api.OK {
				break
			}
			if fuse > 50 {
				t.Fatalf("P22.3: %s: never OK", c.name)
			}
		}
	}
}

// TestNotSynced: a batch that could not be synced may be there nevertheless, but its commit counts not.
func TestNotSynced(t *testing.T) {
	b, d := ofT(t)
	d.Fuse(1)
	refuses(t, "P22.3: Produce", b, producing(by(4, 0, small(1)), true), api.ErrDown)
	ends(t, "P22.3: Produce", b, "t", 0, 1)
	d.Fuse(-1)
	replies(t, "P22.2: told again", b, producing(by(4, 0, small(1)), true), wire.Reply{})
	d.Fuse(1)
	refuses(t, "P22.3: Commit", b, committing(4), api.ErrDown)
	replies(t, "P22.3: Committed", b, committed, wire.Reply{At: -1})
	d.Crash(nil)
	b = open(t, d)
	ends(t, "P22.4: Produce that was told again", b, "t", 0, 1)
	replies(t, "P22.1: Committed", b, committed, wire.Reply{At: -1})
}

// TestDeletedInPart: of a topic that is gone, though not all of its files, nothing is seen in a new one of its name.
func TestDeletedInPart(t *testing.T) {
	b, d := filled(t)
	d.Fuse(4)
	refuses(t, "P22.3: Delete", b, deleting("t"), api.ErrDown)
	ends(t, "P22.3: Delete", b, "t", 0, -1)
	d.Fuse(-1)
	replies(t, "P22.2: Create", b, creating("t", 1), wire.Reply{At: 2})
	replies(t, "P22.2: Committed", b, committed, wire.Reply{At: -1})
	ends(t, "P22.2: Create", b, "t", 0, 0)
	replies(t, "P22.2: Produce", b, producing(by(4, 0, small(1)), false), wire.Reply{})
}

// TestCreatedAgainDown: so it is where the new one's Create is ended too.
func TestCreatedAgainDown(t *testing.T) {
	for fuse := range 5 {
		b, d := filled(t)
		d.Fuse(4)
		refuses(t, "P22.3: Delete", b, deleting("t"), api.ErrDown)
		replies(t, "P22.3: Committed of what is gone in part", b, committed, wire.Reply{At: 3})
		d.Fuse(fuse)
		r := b.Do(creating("t", 1), 5)
		if want := []api.Errno{api.ErrDown, api.OK}[fuse/4]; r.Error != want {
			t.Errorf("P22.3: Create with a fuse of %d: %d, want %d", fuse, r.Error, want)
		}
		there := b.End("t", 0) >= 0
		if there != (fuse >= 3) {
			t.Errorf("P22.3: Create with a fuse of %d: there %t", fuse, there)
		}
		want := 3
		if there {
			want = -1
		}
		replies(t, fmt.Sprint("P22.3: Committed, when Create had a fuse of ", fuse), b, committed, wire.Reply{At: want})
	}
	// A Create that is refused lets nothing go.
	b, _ := filled(t)
	refuses(t, "P22.2: Create", b, creating("t", 1), api.ErrThere)
	refuses(t, "P22.2: Create", b, creating("t", 0), api.ErrArg)
	replies(t, "P22.2: Committed", b, committed, wire.Reply{At: 3})
}

// TestCreatedDown: what the last change that the disk let go has created is there, but all that asks its log tells that the disk is down.
func TestCreatedDown(t *testing.T) {
	d := newDisk(t, 1000)
	b := open(t, d)
	d.Fuse(3)
	refuses(t, "P22.3: Create", b, creating("t", 1), api.ErrDown)
	ends(t, "P22.1", b, "t", 0, 0)
	for _, q := range []wire.Request{producing(small(1), false), fetching(0, 10), trimming(0), committing(1)} {
		refuses(t, "P22.3: created, but down", b, q, api.ErrDown)
	}
	replies(t, "P22.3: created, but down", b, seeking(0), wire.Reply{})
	d.Fuse(-1)
	replies(t, "P22.2: up again", b, producing(small(1), false), wire.Reply{})
	replies(t, "P22.2: up again", b, committing(1), wire.Reply{})
}
