package idem_test

import (
	"math/rand"
	"slices"
	"testing"

	"flotsam/api"
	"flotsam/idem"
	"flotsam/varint"
)

// plain is what producers have sent, as the words tell it.
type plain map[int]*told

type told struct {
	epoch  int
	window []api.Batch
}

func (p plain) check(b api.Batch) (int, bool, api.Errno) {
	if b.Producer == -1 {
		return 0, false, api.OK
	}
	if !allowed(b.Producer, b.Epoch, b.Seq, b.Span, 0) {
		return 0, false, api.ErrArg
	}
	who := p[b.Producer]
	if who == nil || b.Epoch > who.epoch {
		if b.Seq != 0 {
			return 0, false, api.ErrOrder
		}
		return 0, false, api.OK
	}
	if b.Epoch < who.epoch {
		return 0, false, api.ErrFenced
	}
	for _, w := range slices.Backward(who.window) {
		if w.Seq == b.Seq && w.Span == b.Span {
			return w.Base, true, api.OK
		}
	}
	if last := who.window[len(who.window)-1]; b.Seq != last.Seq+last.Span {
		return 0, false, api.ErrOrder
	}
	return 0, false, api.OK
}

func (p plain) note(b api.Batch) {
	if !allowed(b.Producer, b.Epoch, b.Seq, b.Span, b.Base) {
		return
	}
	who := p[b.Producer]
	if who != nil && b.Epoch < who.epoch {
		return
	}
	if who == nil || who.epoch != b.Epoch {
		who = &told{epoch: b.Epoch}
		p[b.Producer] = who
	}
	who.window = append(who.window, b)
	if len(who.window) == 6 {
		who.window = who.window[1:]
	}
}

func (p plain) epoch(id int) int {
	if who := p[id]; who != nil {
		return who.epoch
	}
	return -1
}

func (p plain) print() string {
	var ids []int
	for id := range p {
		ids = append(ids, id)
	}
	slices.Sort(ids)
	s := text(len(ids))
	for _, id := range ids {
		s += text(id, p[id].epoch, len(p[id].window))
		for _, w := range p[id].window {
			s += text(w.Seq, w.Base, w.Span)
		}
	}
	return s
}

func allowed(producer, epoch, seq, span, base int) bool {
	return 0 <= producer && producer <= topProducer && 0 <= epoch && epoch <= topEpoch && 0 <= seq && seq <= topSeq &&
		1 <= span && span <= topSpan && 0 <= base && base <= topBase
}

// anyBatch is one of few producers, epochs and numbers, so that many of them meet; now and then one that may not be.
func anyBatch(r *rand.Rand) api.Batch {
	b := in(r.Intn(3), of(r.Intn(4)-1, r.Intn(9), 1+r.Intn(2), r.Intn(1000)))
	switch r.Intn(30) {
	case 0:
		b.Epoch = -1
	case 1:
		b.Span = 0
	case 2:
		b.Base = topBase + 1
	case 3:
		b.Seq = -1
	case 4:
		b.Producer = topProducer + 1
	}
	return b
}

// TestModel holds it against the plain one, step by step, with and without a Parse of what it told.
func TestModel(t *testing.T) {
	for seed := range 300 {
		r := rand.New(rand.NewSource(int64(seed)))
		p, q := idem.New(), plain{}
		var log []api.Batch
		for range 60 {
			b := anyBatch(r)
			n, ok, e := p.Check(b)
			if n2, ok2, e2 := q.check(b); n != n2 || ok != ok2 || e != e2 {
				t.Fatalf("P13.2: seed %d: Check of %+v: %d, %t, %d, want %d, %t, %d", seed, b, n, ok, e, n2, ok2, e2)
			}
			// Mostly as a log has them, now and then whatever comes.
			if e == api.OK && !ok || r.Intn(4) == 0 {
				p.Note(b)
				q.note(b)
				log = append(log, b)
			}
			if s := q.print(); p.Print() != s {
				t.Fatalf("P13.4: seed %d: Print: %x, want %x", seed, p.Print(), s)
			}
			if id := r.Intn(5) - 1; p.Epoch(id) != q.epoch(id) {
				t.Fatalf("P13.1: seed %d: Epoch(%d): %d, want %d", seed, id, p.Epoch(id), q.epoch(id))
			}
			switch r.Intn(10) {
			case 0:
				p = parsed(t, p.Print())
			case 1:
				p = idem.Rebuild(log)
			}
		}
	}
}

// TestOnce: of a producer that numbers one behind the other, and sends any of its last five again, each is noted once (P3).
func TestOnce(t *testing.T) {
	r := rand.New(rand.NewSource(1))
	p := idem.New()
	var log []api.Batch
	end, seq := 0, 0
	for range 500 {
		b := of(3, seq, 1+r.Intn(50), 0)
		isNew(t, "P13.5: the next one", p, b)
		b.Base = end
		p.Note(b)
		log = append(log, b)
		end += b.Span + r.Intn(3)
		seq += b.Span
		for _, again := range log[max(len(log)-5, 0):] {
			again.Base, b.Base = 0, again.Base
			isTold(t, "P13.5: again", p, again, b.Base)
		}
		if len(log) > 5 {
			isWrong(t, "P13.5: too long ago", p, log[len(log)-6], api.ErrOrder)
		}
	}
	prints(t, "P13.4: Rebuild", idem.Rebuild(log), p.Print())
}

// wanted is what Parse has to say to a text, as the words tell it: which numbers may come at each place.
func wanted(s string) api.Errno {
	at, bad := 0, api.OK
	next := func(least, most int) int {
		if bad != api.OK {
			return 0
		}
		n, place, e := varint.Get(s, at)
		at, bad = place, e
		if e == api.OK && (n < least || n > most) {
			bad = api.ErrForm
		}
		return n
	}
	last := -1
	for range min(max(next(0, 10000), 0), 10000) {
		last = next(last+1, topProducer)
		next(0, topEpoch)
		for range min(max(next(1, 5), 0), 5) {
			next(0, topSeq)
			next(0, topBase)
			next(1, topSpan)
		}
	}
	if bad == api.OK && at < len(s) {
		return api.ErrForm
	}
	return bad
}

func parsesAsWanted(t *testing.T, s string) {
	t.Helper()
	want := wanted(s)
	p, e := idem.Parse(s)
	if e != want || (p != nil) != (want == api.OK) {
		t.Fatalf("P13.4: Parse of %x: %v, %d, want %d", s, p, e, want)
	}
	if e == api.OK && p.Print() != s {
		t.Fatalf("P13.4: %x was parsed, and is printed as %x", s, p.Print())
	}
}

// TestParseBytes has texts of any bytes, and right ones with a few of them changed.
func TestParseBytes(t *testing.T) {
	var whole []string
	for seed := range 20 {
		r := rand.New(rand.NewSource(int64(seed)))
		p := idem.New()
		for range 12 {
			p.Note(anyBatch(r))
		}
		whole = append(whole, p.Print())
	}
	for _, s := range whole {
		parsesAsWanted(t, s)
		for i := range len(s) {
			for b := range 256 {
				parsesAsWanted(t, s[:i]+string([]byte{byte(b)})+s[i+1:])
			}
			parsesAsWanted(t, s[:i]+s[i+1:])
			parsesAsWanted(t, s[:i]+"\x02"+s[i:])
		}
	}
	r := rand.New(rand.NewSource(7))
	for range 50000 {
		b := make([]byte, r.Intn(14))
		for i := range b {
			b[i] = byte(2 * r.Intn(4))
			if r.Intn(8) == 0 {
				b[i] = byte(r.Intn(256))
			}
		}
		parsesAsWanted(t, string(b))
	}
}
