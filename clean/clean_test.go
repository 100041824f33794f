package clean_test

import (
	"math"
	"math/rand"
	"reflect"
	"slices"
	"testing"

	"flotsam/api"
	"flotsam/clean"
)

// of is a batch of no producer with these records, one place each.
func of(base int, records ...api.Record) api.Batch {
	for i := range records {
		records[i].At = i
	}
	return api.Batch{Base: base, Span: max(len(records), 1), Producer: -1, Epoch: -1, Seq: -1, Records: records}
}

// by is a batch as it is, but of a producer.
func by(producer int, b api.Batch) api.Batch {
	b.Producer, b.Epoch, b.Seq = producer, 3, b.Base
	return b
}

func set(key string, value string) api.Record { return api.Record{Key: key, Value: value} }

func bare(value string) api.Record { return api.Record{Bare: true, Value: value} }

func gone(key string, time int) api.Record { return api.Record{Key: key, Gone: true, Time: time} }

// at is a record at another place of its batch.
func at(n int, r api.Record) api.Record {
	r.At = n
	return r
}

// having is a batch as it is, but with these records.
func having(b api.Batch, records ...api.Record) api.Batch {
	b.Records = records
	return b
}

// same tells whether batches are, with lists that are nil or empty as the same.
func same(a, b []api.Batch) bool {
	return slices.EqualFunc(a, b, func(a, b api.Batch) bool { return reflect.DeepEqual(evened(a), evened(b)) })
}

func evened(b api.Batch) api.Batch {
	l := []api.Record{}
	for _, r := range b.Records {
		r.Headers = append([]api.Header{}, r.Headers...)
		l = append(l, r)
	}
	b.Records = l
	return b
}

func TestLatest(t *testing.T) {
	l := []api.Batch{
		of(0, set("a", "1"), set("b", "1"), bare("x")),
		having(of(5), at(3, set("a", "2")), at(7, gone("c", 0))),
		of(20, bare("x"), set("b", "2"), set("b", "3"), set("d", "1")),
		of(30, bare(""), bare("a")),
		of(40),
		{Base: 50, Records: []api.Record{{At: 1, Bare: true, Key: "d"}}},
	}
	for key, want := range map[string]int{"a": 8, "b": 22, "c": 12, "d": 23, "": -1, "x": -1, "ab": -1} {
		if n, ok := clean.Latest(l, key); n != max(want, 0) || ok != (want >= 0) {
			t.Errorf("P12.1: Latest of %q: %d, %t, want %d", key, n, ok, want)
		}
	}
	if n, ok := clean.Latest(nil, "a"); n != 0 || ok {
		t.Errorf("P12.1: Latest of nothing: %d, %t", n, ok)
	}
	if n, ok := clean.Latest([]api.Batch{of(3, set("", "v"))}, ""); n != 3 || !ok {
		t.Errorf("P12.1: Latest of the key without bytes: %d, %t", n, ok)
	}
	// The last one is that which comes last, wherever it stands.
	if n, ok := clean.Latest([]api.Batch{of(9, set("a", "1")), of(2, set("a", "2"))}, "a"); n != 2 || !ok {
		t.Errorf("P12.1: Latest of batches whose bases fall: %d, %t", n, ok)
	}
	clean.Latest([]api.Batch{{Base: math.MaxInt, Records: []api.Record{{At: math.MaxInt}}}}, "")
}

func TestExample(t *testing.T) {
	l := []api.Batch{of(0, set("a", "1")), of(1, set("b", "2")), of(2, set("a", "3"))}
	if got := clean.Clean(l, 3, 0); !same(got, l[1:]) {
		t.Errorf("example 1: %+v", got)
	}
	one := []api.Batch{of(0, set("a", "1"), set("b", "2"), set("a", "3"))}
	if got := clean.Clean(one, 3, 0); !same(got, []api.Batch{having(one[0], one[0].Records[1:]...)}) {
		t.Errorf("example 1, in one batch: %+v", got)
	}
}

func TestClean(t *testing.T) {
	a, b, x := set("a", "1"), set("b", "1"), bare("x")
	for _, c := range []struct {
		what   string
		l      []api.Batch
		upto   int
		before int
		want   []api.Batch
	}{
		{"nothing", nil, 9, 9, nil},
		{"nothing old", []api.Batch{of(0, a, x), of(2, b)}, 9, 9, []api.Batch{of(0, a, x), of(2, b)}},
		{"old in a later batch", []api.Batch{of(0, a, x), of(2, a)}, 9, 9, []api.Batch{having(of(0, a, x), at(1, x)), of(2, a)}},
		{"old by one behind upto", []api.Batch{of(0, a, x), of(2, a, a)}, 2, 9, []api.Batch{having(of(0, a, x), at(1, x)), of(2, a, a)}},
		{"one that ends just behind upto", []api.Batch{of(0, a, x), of(2, a)}, 1, 9, []api.Batch{of(0, a, x), of(2, a)}},
		{"upto below all", []api.Batch{of(0, a, x), of(2, a)}, math.MinInt, math.MaxInt, []api.Batch{of(0, a, x), of(2, a)}},
		{"bare ones are never old", []api.Batch{of(0, x, x), of(2, x)}, 9, 9, []api.Batch{of(0, x, x), of(2, x)}},
		{"bare ones make none old", []api.Batch{of(0, set("", "1")), of(1, x)}, 9, 9, []api.Batch{of(0, set("", "1")), of(1, x)}},
		{"the key without bytes", []api.Batch{of(0, set("", "1"), x), of(2, set("", "2"))}, 9, 9, []api.Batch{having(of(0, x, x), at(1, x)), of(2, set("", "2"))}},
		{"none left", []api.Batch{of(0, a), of(1, a)}, 9, 9, []api.Batch{of(1, a)}},
		{"none had", []api.Batch{of(0), of(1, a), of(2)}, 2, 9, []api.Batch{of(1, a), of(2)}},
		{"gone makes old, and stays as long as it is not too old", []api.Batch{of(0, a), of(1, gone("a", 9))}, 9, 9, []api.Batch{of(1, gone("a", 9))}},
		{"gone too long ago", []api.Batch{of(0, a), of(1, gone("a", 8)), of(2, x)}, 9, 9, []api.Batch{of(2, x)}},
		{"gone too long ago, behind upto", []api.Batch{of(0, a), of(1, gone("a", 8))}, 1, 9, []api.Batch{of(1, gone("a", 8))}},
		{"gone, and there again", []api.Batch{of(0, gone("a", 10)), of(1, a)}, 9, 9, []api.Batch{of(1, a)}},
		{"old only by one that goes itself", []api.Batch{of(0, a, b), of(2, gone("a", 3))}, 9, 4, []api.Batch{having(of(0, a, b), at(1, b))}},
		{"one that is not gone may be of any time", []api.Batch{of(0, a, x)}, 9, 9, []api.Batch{of(0, a, x)}},
		{"bare and gone may not be, but is bare", []api.Batch{of(0, api.Record{Bare: true, Gone: true})}, 9, 9, []api.Batch{of(0, api.Record{Bare: true, Gone: true})}},
		{"the last one of its producer", []api.Batch{by(0, of(0, a)), by(7, of(1, a)), by(0, of(2, a)), of(3, a)}, 9, 9, []api.Batch{having(by(7, of(1, a))), having(by(0, of(2, a))), of(3, a)}},
		{"the last one of its producer, that had none", []api.Batch{by(1, of(0)), by(1, of(1)), by(2, of(2))}, 9, 9, []api.Batch{by(1, of(1)), by(2, of(2))}},
		{"the last one of its producer behind upto", []api.Batch{by(1, of(0, a)), by(1, of(1, a))}, 1, 9, []api.Batch{by(1, of(1, a))}},
		{"no producer has none", []api.Batch{by(-1, of(0)), by(-2, of(1)), by(math.MinInt, of(2))}, 9, 9, nil},
	} {
		if got := clean.Clean(c.l, c.upto, c.before); !same(got, c.want) {
			t.Errorf("P12.2: %s: %+v, want %+v", c.what, got, c.want)
		}
	}
}

// plainly is Clean word by word as the document has it.
func plainly(l []api.Batch, upto int, before int) []api.Batch {
	later := func(i int, j int) bool {
		for m := i; m < len(l); m++ {
			for n, r := range l[m].Records {
				if (m > i || n > j) && !r.Bare && r.Key == l[i].Records[j].Key {
					return true
				}
			}
		}
		return false
	}
	var kept []api.Batch
	for i, b := range l {
		if b.Base+b.Span > upto {
			kept = append(kept, b)
			continue
		}
		records := b.Records
		b.Records = nil
		for j, r := range records {
			if old := !r.Bare && later(i, j); !old && !(r.Gone && !r.Bare && r.Time < before) {
				b.Records = append(b.Records, r)
			}
		}
		last := b.Producer >= 0 && !slices.ContainsFunc(l[i+1:], func(c api.Batch) bool { return c.Producer == b.Producer })
		if len(b.Records) > 0 || last {
			kept = append(kept, b)
		}
	}
	return kept
}

func someRecord(r *rand.Rand) api.Record {
	n := api.Record{Key: []string{"", "a", "b", "c", "dd", "e"}[r.Intn(6)], Value: "some text"[:r.Intn(10)], Time: r.Intn(20)}
	switch r.Intn(6) {
	case 0:
		n.Bare, n.Key = true, ""
	case 1:
		n.Gone, n.Value = true, ""
	}
	if r.Intn(3) == 0 {
		n.Headers = []api.Header{{Key: "h", Value: "v"}, {Key: "i"}}[:r.Intn(3)]
	}
	return n
}

func someBatch(r *rand.Rand, base int) api.Batch {
	b := api.Batch{Base: base, Span: 1 + r.Intn(6), Producer: -1, Epoch: -1, Seq: -1}
	if r.Intn(3) == 0 {
		b.Producer, b.Epoch, b.Seq = r.Intn(3), r.Intn(5), r.Intn(5)
	}
	for i := r.Intn(2); i < b.Span; i += 1 + r.Intn(3) {
		b.Records = append(b.Records, at(i, someRecord(r)))
	}
	return b
}

func TestCleanOfMany(t *testing.T) {
	for seed := range int64(3000) {
		r := rand.New(rand.NewSource(seed))
		var l, before []api.Batch
		base := 0
		for range r.Intn(12) {
			b := someBatch(r, base)
			l, before = append(l, b), append(before, evened(b))
			base = b.Base + b.Span + r.Intn(3)
			if r.Intn(20) == 0 {
				base = r.Intn(50) - 10
			}
		}
		upto, time := r.Intn(base+15)-5, r.Intn(25)-2
		got, want := clean.Clean(l, upto, time), plainly(l, upto, time)
		if !same(got, want) {
			t.Fatalf("P12.2: Clean(%+v, %d, %d): %+v, want %+v", l, upto, time, got, want)
		}
		if again := clean.Clean(got, upto, time); !same(again, got) {
			t.Fatalf("P12.4: cleaned again: %+v, want %+v", again, got)
		}
		if !same(l, before) {
			t.Fatalf("R5: the batches that were handed in are now %+v", l)
		}
		for _, key := range []string{"", "a", "b", "c", "dd", "e", "f"} {
			latest(t, l, got, key)
		}
	}
}

// latest asks whether a key whose last record is not gone still has that where it stood.
func latest(t *testing.T, ahead []api.Batch, behind []api.Batch, key string) {
	t.Helper()
	where, ok := 0, false
	var last api.Record
	for _, b := range ahead {
		for _, r := range b.Records {
			if !r.Bare && r.Key == key {
				where, ok, last = b.Base+r.At, true, r
			}
		}
	}
	if n, there := clean.Latest(ahead, key); there != ok || n != where {
		t.Fatalf("P12.1: Latest of %q in %+v: %d, %t, want %d", key, ahead, n, there, where)
	}
	if n, there := clean.Latest(behind, key); ok && !last.Gone && (n != where || !there) {
		t.Fatalf("P12.4: %q stood at %d, behind cleaning: %d, %t", key, where, n, there)
	}
}

// spoil overwrites all lists of some batches, and their spare room.
func spoil(l []api.Batch) {
	l = l[:cap(l)]
	for i := range l {
		r := l[i].Records[:cap(l[i].Records)]
		for j := range r {
			h := r[j].Headers[:cap(r[j].Headers)]
			for k := range h {
				h[k] = api.Header{Key: "spoilt"}
			}
			r[j] = api.Record{Key: "spoilt"}
		}
		l[i] = api.Batch{Base: -7}
	}
}

func TestMemoryOfClean(t *testing.T) {
	headed := api.Record{Key: "a", Headers: []api.Header{{Key: "h", Value: "v"}}}
	make := func() []api.Batch {
		l := []api.Batch{of(0, headed, bare("x")), of(2, bare("y"), headed), of(4, set("b", ""), headed)}
		for i := range l {
			l[i] = evened(l[i])
		}
		return l
	}
	l := make()
	first, other := clean.Clean(l, 4, 0), clean.Clean(l, 4, 0)
	want := plainly(make(), 4, 0)
	spoil(first[:1:1])
	if !same(first[1:], want[1:]) {
		t.Errorf("R5: two batches of one answer share lists: %+v", first)
	}
	spoil(first)
	if !same(l, make()) {
		t.Errorf("R5: an answer shares lists with what was handed in: %+v", l)
	}
	spoil(l)
	if !same(other, want) {
		t.Errorf("R5: an answer shares lists with another one, or with what was handed in: %+v", other)
	}
}
