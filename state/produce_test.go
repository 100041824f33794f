package state_test

import (
	"fmt"
	"strings"
	"testing"

	"flotsam/api"
	"flotsam/batch"
	"flotsam/state"
	"flotsam/wire"
)

// one is a batch of one record, that nobody has sent.
func one(key, value string, time int) api.Batch {
	return api.Batch{Span: 1, Producer: -1, Epoch: -1, Seq: -1, Records: []api.Record{{Key: key, Value: value, Time: time}}}
}

// wide is a batch of a span, with records of these times in its first places.
func wide(span int, times ...int) api.Batch {
	b := api.Batch{Span: span, Producer: -1, Epoch: -1, Seq: -1}
	for i, time := range times {
		b.Records = append(b.Records, api.Record{At: i, Time: time, Key: fmt.Sprint("k", i)})
	}
	return b
}

// sent is a batch of a producer.
func sent(producer, epoch, seq, span int) api.Batch {
	return api.Batch{Span: span, Producer: producer, Epoch: epoch, Seq: seq, Records: []api.Record{{Value: fmt.Sprint(producer, epoch, seq)}}}
}

// at is a batch with another Base.
func at(base int, b api.Batch) api.Batch {
	b.Base = base
	return b
}

// size is how many bytes a batch has.
func size(t *testing.T, b api.Batch) int {
	t.Helper()
	s, e := batch.Encode(b)
	if e != api.OK {
		t.Fatalf("P5.1: %s: %d", short(b), e)
	}
	return len(s)
}

// great is a batch that has so many bytes with Base 0, and one more with a Base from 64 on.
func great(t *testing.T, n int) api.Batch {
	t.Helper()
	b := api.Batch{Span: 50, Producer: -1, Epoch: -1, Seq: -1}
	left := func() int { return n - size(t, b) }
	for place := 0; left() > 2200; place++ {
		b.Records = append(b.Records, api.Record{At: place, Key: strings.Repeat("k", 1000), Value: strings.Repeat("v", min(1000, left()-2000))})
	}
	last := len(b.Records)
	b.Records = append(b.Records, api.Record{At: 48, Value: strings.Repeat("v", max(0, min(1000, left()-1100)))})
	b.Records = append(b.Records, api.Record{At: 49})
	b.Records[last].Key = strings.Repeat("k", min(1000, max(0, left()-50)))
	b.Records[last+1].Key = strings.Repeat("k", max(0, left()-5))
	b.Records[last+1].Value = strings.Repeat("v", left())
	if left() != 0 {
		t.Fatalf("%d bytes are left of %d", left(), n)
	}
	return b
}

func producing(index int, b api.Batch) wire.Request {
	return wire.Request{Kind: wire.Produce, Name: "t", Index: index, Batch: b}
}

// makes has a batch that is taken into t, at a place.
func makes(t *testing.T, m *state.Machine, index int, b api.Batch, at int) {
	t.Helper()
	replies(t, "P20.3: Produce", m, producing(index, b), 0, wire.Reply{At: at})
}

func makesNot(t *testing.T, m *state.Machine, index int, b api.Batch, e api.Errno) {
	t.Helper()
	end := m.End("t", index)
	refuses(t, "P20.3: Produce", m, producing(index, b), 0, e)
	ends(t, "P20.3: behind a batch that was refused", m, "t", index, end)
}

func TestProduce(t *testing.T) {
	m := ofT(t)
	makes(t, m, 0, one("a", "1", 5), 0)
	makes(t, m, 0, wide(7, 1, 2), 1)
	makes(t, m, 1, wide(50), 0)
	makes(t, m, 0, one("b", "2", 4), 8)
	makes(t, m, 1, one("c", "3", 4), 50)
	ends(t, "P20.1", m, "t", 0, 9)
	ends(t, "P20.1", m, "t", 1, 51)
	// The Base that it comes with counts for nothing.
	for i, base := range []int{0, 1, 9, 1 << 40} {
		makes(t, m, 0, at(base, one("d", "4", 0)), 9+i)
	}
	fetches(t, "P20.3: what was produced", m, 0, 0, 10000, 0, 13, at(0, one("a", "1", 5)), at(1, wide(7, 1, 2)), at(8, one("b", "2", 4)),
		at(9, one("d", "4", 0)), at(10, one("d", "4", 0)), at(11, one("d", "4", 0)), at(12, one("d", "4", 0)))
	fetches(t, "P20.3: what was produced", m, 1, 0, 10000, 0, 51, wide(50), at(50, one("c", "3", 4)))
	// The flag is nothing to a machine.
	q := producing(0, one("e", "5", 0))
	q.Flag = true
	replies(t, "P20.3: with Flag", m, q, 0, wire.Reply{At: 13})
}

func TestProduceNowhere(t *testing.T) {
	m := ofT(t)
	for _, c := range []struct {
		name  string
		index int
	}{{"t", 2}, {"t", -1}, {"t", 16}, {"t", 1 << 41}, {"u", 0}, {"", 0}, {"T", 0}, {"tt", 0}} {
		for _, b := range []api.Batch{one("k", "v", 0), {}, sent(1, 0, 5, 1), great(t, 50002)} {
			// Ahead of all that is wrong with the batch.
			refuses(t, "P20.3: not there", m, wire.Request{Kind: wire.Produce, Name: c.name, Index: c.index, Batch: b}, 0, api.ErrNone)
		}
	}
}

func TestProduceWrong(t *testing.T) {
	m := ofT(t)
	makesNot(t, m, 0, api.Batch{}, api.ErrArg)
	makes(t, m, 0, one("k", "v", 0), 0)
	makesNot(t, m, 0, api.Batch{}, api.ErrArg)
	makesNot(t, m, 0, api.Batch{Span: 51, Producer: -1, Epoch: -1, Seq: -1}, api.ErrArg)
	makesNot(t, m, 0, api.Batch{Span: 1, Producer: -2}, api.ErrArg)
	makesNot(t, m, 0, at(-1, one("k", "v", 0)), api.ErrArg)
	makesNot(t, m, 0, at(1<<40+1, one("k", "v", 0)), api.ErrArg)
	// One without records may be.
	makes(t, m, 0, wide(3), 1)
}

// TestProduceGreat: a batch has at most 50000 bytes, with the Base that it gets.
func TestProduceGreat(t *testing.T) {
	m := ofT(t)
	makesNot(t, m, 0, great(t, 50001), api.ErrArg)
	makesNot(t, m, 0, great(t, 55000), api.ErrArg)
	makes(t, m, 0, great(t, 49999), 0)
	makes(t, m, 0, great(t, 50000), 50)
	// The end is 100 now: a Base of two bytes.
	makesNot(t, m, 0, great(t, 50000), api.ErrArg)
	makesNot(t, m, 0, great(t, 50001), api.ErrArg)
	makes(t, m, 0, great(t, 49999), 100)
	// Of a Base of many bytes nothing is left.
	makes(t, m, 1, at(1<<40, great(t, 50000)), 0)
	// It is told ahead of what its producer says.
	b := great(t, 50003)
	b.Producer, b.Epoch, b.Seq = 1, 0, 9
	makesNot(t, m, 0, b, api.ErrArg)
	b = sent(1, 0, 9, 1)
	makesNot(t, m, 0, b, api.ErrOrder)
}

func TestProduceOnce(t *testing.T) {
	m := ofT(t)
	makes(t, m, 0, one("k", "v", 0), 0)
	makes(t, m, 0, sent(3, 0, 0, 2), 1)
	makes(t, m, 0, sent(3, 0, 0, 2), 1)
	ends(t, "P20.3: told again", m, "t", 0, 3)
	makes(t, m, 0, sent(3, 0, 2, 4), 3)
	makes(t, m, 0, one("k", "v", 0), 7)
	makes(t, m, 0, sent(3, 0, 6, 1), 8)
	for range 3 {
		makes(t, m, 0, sent(3, 0, 2, 4), 3)
		makes(t, m, 0, sent(3, 0, 0, 2), 1)
		makes(t, m, 0, sent(3, 0, 6, 1), 8)
	}
	makesNot(t, m, 0, sent(3, 0, 0, 1), api.ErrOrder)
	makesNot(t, m, 0, sent(3, 0, 8, 1), api.ErrOrder)
	makesNot(t, m, 0, sent(4, 0, 1, 1), api.ErrOrder)
	ends(t, "P20.3: told again", m, "t", 0, 9)
	// Another partition has heard nothing of it.
	makesNot(t, m, 1, sent(3, 0, 2, 4), api.ErrOrder)
	makes(t, m, 1, sent(3, 0, 0, 2), 0)
	makes(t, m, 0, sent(3, 0, 0, 2), 1)
	// A later epoch begins anew, and an earlier one is told off.
	makes(t, m, 0, sent(3, 2, 0, 2), 9)
	makesNot(t, m, 0, sent(3, 1, 0, 2), api.ErrFenced)
	makesNot(t, m, 0, sent(3, 0, 6, 1), api.ErrFenced)
	makes(t, m, 0, sent(3, 2, 0, 2), 9)
	// What is told again need not be the same in all.
	b := sent(3, 2, 0, 2)
	b.Records = nil
	makes(t, m, 0, b, 9)
	fetches(t, "P20.3: what was told again stands there once", m, 0, 8, 10000, 0, 11, at(8, sent(3, 0, 6, 1)), at(9, sent(3, 2, 0, 2)))
}

// TestProduceWindow: the last five are told again, also when their batches are gone.
func TestProduceWindow(t *testing.T) {
	m := ofT(t)
	for i := range 20 {
		makes(t, m, 0, sent(0, 0, 3*i, 3), 3*i)
		if i%2 == 1 {
			replies(t, "P20.3: Trim", m, trimming(0, 3*i+3), 0, wire.Reply{})
		}
		for back := range 8 {
			n := i - back
			switch {
			case n < 0:
			case back < 5:
				makes(t, m, 0, sent(0, 0, 3*n, 3), 3*n)
			default:
				makesNot(t, m, 0, sent(0, 0, 3*n, 3), api.ErrOrder)
			}
		}
		ends(t, "P20.5", m, "t", 0, 3*i+3)
	}
}
