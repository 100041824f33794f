package state_test

import (
	"cmp"
	"fmt"
	"math"
	"reflect"
	"slices"
	"strings"
	"testing"

	"flotsam/api"
	"flotsam/state"
	"flotsam/wire"
)

func machine(t *testing.T) *state.Machine {
	t.Helper()
	m, e := state.New(100, 30)
	if m == nil || e != api.OK {
		t.Fatalf("P20.1: New: %v, %d", m, e)
	}
	return m
}

// withTopics is a machine with topics of so many partitions, their ids from 0 on.
func withTopics(t *testing.T, l ...api.Topic) *state.Machine {
	t.Helper()
	m := machine(t)
	for i, topic := range l {
		replies(t, "P20.2: Create", m, wire.Request{Kind: wire.Create, Name: topic.Name, Count: topic.Parts}, 0, wire.Reply{At: i})
	}
	return m
}

// ofT is a machine with a topic t of two partitions.
func ofT(t *testing.T) *state.Machine {
	t.Helper()
	return withTopics(t, api.Topic{Name: "t", Parts: 2})
}

// short is something as a text that is not too long to be read.
func short(v any) string { return fmt.Sprintf("%.600s", fmt.Sprintf("%+v", v)) }

// replies holds a reply against what it has to be; lists that are empty may be nil.
func replies(t *testing.T, what string, m *state.Machine, q wire.Request, now int, want wire.Reply) {
	t.Helper()
	if r := m.Do(q, now); !same(r, want) {
		t.Errorf("%s: Do of %s at %d: %s, want %s", what, short(q), now, short(r), short(want))
	}
}

// refuses has an error, and nothing else.
func refuses(t *testing.T, what string, m *state.Machine, q wire.Request, now int, e api.Errno) {
	t.Helper()
	replies(t, what, m, q, now, wire.Reply{Error: e})
}

// same holds two replies against each other by their bytes: what an empty list is does not count there.
func same(r, want wire.Reply) bool {
	s, e := wire.Answer(r)
	s2, e2 := wire.Answer(want)
	return s == s2 && e == api.OK && e2 == api.OK
}

func ends(t *testing.T, what string, m *state.Machine, name string, index int, want int) {
	t.Helper()
	if n := m.End(name, index); n != want {
		t.Errorf("%s: End of %.20q, %d: %d, want %d", what, name, index, n, want)
	}
}

// kinds is how many kinds of requests there are.
const kinds = 14

func TestNew(t *testing.T) {
	for _, c := range []struct{ session, rebalance int }{{1, 1}, {100000, 100000}, {1, 100000}, {7, 3}} {
		if m, e := state.New(c.session, c.rebalance); m == nil || e != api.OK {
			t.Errorf("P20.1: New(%d, %d): %v, %d", c.session, c.rebalance, m, e)
		}
	}
	for _, n := range []int{math.MinInt, -1, 0, 100001, math.MaxInt} {
		for _, c := range []struct{ session, rebalance int }{{n, 1}, {1, n}, {n, n}} {
			if m, e := state.New(c.session, c.rebalance); m != nil || e != api.ErrArg {
				t.Errorf("P20.1: New(%d, %d): %v, %d, want nil, ErrArg", c.session, c.rebalance, m, e)
			}
		}
	}
	m := machine(t)
	replies(t, "P20.1: without topics", m, wire.Request{Kind: wire.Describe}, 0, wire.Reply{})
	ends(t, "P20.1: without topics", m, "t", 0, -1)
	replies(t, "P20.1: Next", m, wire.Request{Kind: wire.Identify}, 0, wire.Reply{})
	// What is done to one is not done to another one.
	replies(t, "P20.1: Next of another one", machine(t), wire.Request{Kind: wire.Identify}, 0, wire.Reply{})
	withTopics(t, api.Topic{Name: "t", Parts: 1})
	ends(t, "P20.1: another one", m, "t", 0, -1)
}

func TestNil(t *testing.T) {
	var m *state.Machine
	for kind := -1; kind <= kinds+1; kind++ {
		refuses(t, "P20.1: nil", m, wire.Request{Kind: kind, Name: "t", Count: 1, Group: "g", Member: -1}, 0, api.ErrArg)
	}
	m.Tick(0)
	m.Tick(math.MinInt)
	ends(t, "P20.1: nil", m, "t", 0, -1)
	ends(t, "P20.1: nil", m, "", math.MinInt, -1)
}

// TestNotMadeByNew has a machine that nobody promised anything of: but no call panics (R1).
func TestNotMadeByNew(t *testing.T) {
	var m state.Machine
	for kind := range kinds + 2 {
		m.Do(wire.Request{Kind: kind, Name: "t", Count: 1, Group: "g", Member: -1}, 0)
	}
	m.Tick(1)
	m.End("t", 0)
}

// TestMayNotBe: a request that may not be is ErrArg, ahead of all else, and nothing has changed.
func TestMayNotBe(t *testing.T) {
	m := ofT(t)
	for kind := 1; kind <= kinds; kind++ {
		right := wire.Request{Kind: kind, Name: "u", Count: 2, Group: "g", Member: -1, Generation: -1}
		for _, change := range []func(q *wire.Request){
			func(q *wire.Request) { q.Index = -2 },
			func(q *wire.Request) { q.Count = 1<<41 + 1 },
			func(q *wire.Request) { q.From = -2 },
			func(q *wire.Request) { q.Name = strings.Repeat("n", 101) },
			func(q *wire.Request) { q.Group = strings.Repeat("n", 101) },
			func(q *wire.Request) { q.Member = math.MinInt },
			func(q *wire.Request) { q.Generation = math.MaxInt },
			func(q *wire.Request) { q.Topics = make([]string, 21) },
			func(q *wire.Request) { q.Filter.Op = 8 },
			func(q *wire.Request) { q.Batch = api.Batch{Base: 1} },
			func(q *wire.Request) { q.Batch = great(t, 59990) },
		} {
			q := right
			change(&q)
			refuses(t, "P20.2: may not be", m, q, 5, api.ErrArg)
		}
	}
	for _, kind := range []int{math.MinInt, -1, 0, kinds + 1, math.MaxInt} {
		refuses(t, "P20.2: no kind", m, wire.Request{Kind: kind, Name: "u", Count: 2, Group: "g", Member: -1}, 5, api.ErrArg)
	}
	replies(t, "P20.2: behind what may not be", m, wire.Request{Kind: wire.Describe}, 0, wire.Reply{Topics: []api.Topic{{Name: "t", Parts: 2}}})
	replies(t, "P20.2: behind what may not be", m, wire.Request{Kind: wire.Identify}, 0, wire.Reply{})
	replies(t, "P20.2: behind what may not be", m, joining("g", -1), 5, wire.Reply{Generation: 1})
	// What a kind does not ask for counts for nothing, as long as it may be.
	q := wire.Request{
		Kind: wire.Create, Name: "u", Count: 3, Index: 1 << 41, From: -1, Flag: true, Batch: one("k", "v", 0),
		Filter: api.Expr{Op: api.Has, Name: "n"}, Group: "g", Member: 9, Generation: 9, Topics: []string{"z", "a"},
	}
	replies(t, "P20.2: more than is asked for", m, q, -5, wire.Reply{At: 1})
}

func TestCreate(t *testing.T) {
	m := machine(t)
	for i, c := range []struct {
		name  string
		count int
		at    int
		e     api.Errno
	}{
		{"b", 3, 0, api.OK}, {"a", 16, 1, api.OK}, {strings.Repeat("n", 100), 1, 2, api.OK}, {"", 1, 0, api.ErrArg}, {"c", 0, 0, api.ErrArg},
		{"c", 17, 0, api.ErrArg}, {"c", -1, 0, api.ErrArg}, {"b", 1, 0, api.ErrThere}, {"b", 0, 0, api.ErrArg}, {"\xff", 2, 3, api.OK},
	} {
		replies(t, fmt.Sprint("P20.2: Create, case ", i), m, wire.Request{Kind: wire.Create, Name: c.name, Count: c.count}, 0, wire.Reply{Error: c.e, At: c.at})
	}
	describes := func(what string, l ...api.Topic) {
		t.Helper()
		replies(t, what, m, wire.Request{Kind: wire.Describe}, 0, wire.Reply{Topics: l})
	}
	long := strings.Repeat("n", 100)
	describes("P20.2: Describe", api.Topic{Name: "a", Parts: 16}, api.Topic{Name: "b", Parts: 3}, api.Topic{Name: long, Parts: 1}, api.Topic{Name: "\xff", Parts: 2})
	for index := -2; index < 20; index++ {
		want := func(parts int) int {
			if index >= 0 && index < parts {
				return 0
			}
			return -1
		}
		ends(t, "P20.1: new", m, "a", index, want(16))
		ends(t, "P20.1: new", m, "b", index, want(3))
		ends(t, "P20.1: new", m, long, index, want(1))
		ends(t, "P20.1: not there", m, "c", index, -1)
		ends(t, "P20.1: not there", m, "", index, -1)
	}
	ends(t, "P20.1: not there", m, "a", math.MinInt, -1)
	ends(t, "P20.1: not there", m, "a", math.MaxInt, -1)
	for i := range 16 {
		replies(t, "P20.2: Create", m, wire.Request{Kind: wire.Create, Name: fmt.Sprint("t", i), Count: 1}, 0, wire.Reply{At: 4 + i})
	}
	refuses(t, "P20.2: Create of the 21st", m, wire.Request{Kind: wire.Create, Name: "z", Count: 1}, 0, api.ErrFull)
	refuses(t, "P20.2: Create of one that is there", m, wire.Request{Kind: wire.Create, Name: "a", Count: 1}, 0, api.ErrThere)
	ends(t, "P20.1: refused", m, "z", 0, -1)
}

func TestDelete(t *testing.T) {
	m := withTopics(t, api.Topic{Name: "t", Parts: 2}, api.Topic{Name: "u", Parts: 1})
	makes(t, m, 0, one("k", "v", 0), 0)
	commits(t, m, "g", "t", 0, 7, api.OK)
	commits(t, m, "h", "t", 1, 8, api.OK)
	commits(t, m, "g", "u", 0, 9, api.OK)
	refuses(t, "P20.2: Delete of none", m, wire.Request{Kind: wire.Delete, Name: "x"}, 0, api.ErrNone)
	refuses(t, "P20.2: Delete of none", m, wire.Request{Kind: wire.Delete}, 0, api.ErrNone)
	committed(t, m, "g", "t", 0, 7)

	replies(t, "P20.2: Delete", m, wire.Request{Kind: wire.Delete, Name: "t"}, 0, wire.Reply{})
	replies(t, "P20.2: Describe behind Delete", m, wire.Request{Kind: wire.Describe}, 0, wire.Reply{Topics: []api.Topic{{Name: "u", Parts: 1}}})
	ends(t, "P20.2: Delete", m, "t", 0, -1)
	ends(t, "P20.2: Delete", m, "t", 1, -1)
	ends(t, "P20.2: another one", m, "u", 0, 0)
	committed(t, m, "g", "t", 0, -1)
	committed(t, m, "h", "t", 1, -1)
	committed(t, m, "g", "u", 0, 9)
	for _, kind := range []int{wire.Produce, wire.Fetch, wire.Seek, wire.Trim, wire.Commit, wire.Delete} {
		refuses(t, "P20.2: behind Delete", m, wire.Request{Kind: kind, Name: "t", Batch: one("k", "v", 0), Group: "g", Member: -1, Generation: -1}, 0, api.ErrNone)
	}

	// One of the same name is another one, with nothing of the first one.
	replies(t, "P20.2: Create behind Delete", m, wire.Request{Kind: wire.Create, Name: "t", Count: 3}, 0, wire.Reply{At: 2})
	for index := range 3 {
		ends(t, "P20.2: made anew", m, "t", index, 0)
		fetches(t, "P20.2: made anew", m, index, 0, 1000, 0, 0)
		committed(t, m, "g", "t", index, -1)
	}
	makes(t, m, 0, one("k", "v", 0), 0)
	replies(t, "P20.2: Delete again", m, wire.Request{Kind: wire.Delete, Name: "t"}, 0, wire.Reply{At: 2})
	replies(t, "P20.2: Delete of the other one", m, wire.Request{Kind: wire.Delete, Name: "u"}, 0, wire.Reply{At: 1})
	replies(t, "P20.2: none is left", m, wire.Request{Kind: wire.Describe}, 0, wire.Reply{})
}

// TestDeleteForgetsProducers: in a topic that is made anew nobody has sent anything.
func TestDeleteForgetsProducers(t *testing.T) {
	m := ofT(t)
	makes(t, m, 0, sent(3, 0, 0, 2), 0)
	makes(t, m, 0, sent(3, 0, 2, 1), 2)
	m.Do(wire.Request{Kind: wire.Delete, Name: "t"}, 0)
	m.Do(wire.Request{Kind: wire.Create, Name: "t", Count: 1}, 0)
	makesNot(t, m, 0, sent(3, 0, 2, 1), api.ErrOrder)
	makesNot(t, m, 0, sent(3, 0, 3, 1), api.ErrOrder)
	makes(t, m, 0, sent(3, 0, 0, 2), 0)
	ends(t, "P20.2: made anew", m, "t", 0, 2)
}

func TestIdentify(t *testing.T) {
	m := machine(t)
	for id := range 300 {
		replies(t, "P20.2: Identify", m, wire.Request{Kind: wire.Identify, Index: id % 3, Member: -1, Name: "x"}, id-5, wire.Reply{At: id})
	}
	// No other kind takes one.
	m = ofT(t)
	for kind := 1; kind < kinds; kind++ {
		m.Do(wire.Request{Kind: kind, Name: "u", Count: 1, Batch: sent(0, 0, 0, 1), Group: "g", Member: -1, Generation: -1}, 0)
	}
	replies(t, "P20.2: Identify", m, wire.Request{Kind: wire.Identify}, 0, wire.Reply{})
	replies(t, "P20.2: Identify", m, wire.Request{Kind: wire.Identify}, 0, wire.Reply{At: 1})
}

func TestExample(t *testing.T) {
	m := machine(t)
	replies(t, "example 1", m, wire.Request{Kind: wire.Create, Name: "t", Count: 1}, 0, wire.Reply{})
	b := one("k", "v", 0)
	replies(t, "example 1", m, wire.Request{Kind: wire.Produce, Name: "t", Batch: b}, 0, wire.Reply{})
	replies(t, "example 1", m, wire.Request{Kind: wire.Fetch, Name: "t", Count: 1000}, 0, wire.Reply{End: 1, Batches: []api.Batch{b}})
}

// TestNotKept: the lists that are handed in may be changed behind a call (R5).
func TestNotKept(t *testing.T) {
	m := ofT(t)
	topics := []string{"t", "u"}
	replies(t, "P20.4: Join", m, wire.Request{Kind: wire.Join, Group: "g", Member: -1, Topics: topics}, 0, wire.Reply{Generation: 1})
	topics[0], topics[1] = "x", "y"
	replies(t, "R5: Share", m, wire.Request{Kind: wire.Share, Group: "g", Generation: 1}, 0, wire.Reply{Parts: []api.Part{{Topic: "t"}, {Topic: "t", Index: 1}}})

	b := one("k", "v", 3)
	b.Records[0].Headers = []api.Header{{Key: "h", Value: "1"}}
	want := one("k", "v", 3)
	want.Records[0].Headers = []api.Header{{Key: "h", Value: "1"}}
	makes(t, m, 0, b, 0)
	if !reflect.DeepEqual(b, want) {
		t.Errorf("R5: Produce: %+v, ahead of it %+v", b, want)
	}
	b.Records[0].Key = "other"
	b.Records[0].Headers[0].Value = "other"
	b.Records[0] = api.Record{}
	fetches(t, "R5: what was produced", m, 0, 0, 1000, 0, 1, want)
}

// TestAnswersAreNew: no two lists of what was answered share memory, nor do those of two answers (R5).
func TestAnswersAreNew(t *testing.T) {
	m := withTopics(t, api.Topic{Name: "t", Parts: 2}, api.Topic{Name: "u", Parts: 1})
	b := one("k", "v", 3)
	b.Records[0].Headers = []api.Header{{Key: "h", Value: "1"}}
	for range 3 {
		m.Do(wire.Request{Kind: wire.Produce, Name: "t", Batch: b}, 0)
	}
	m.Do(wire.Request{Kind: wire.Join, Group: "g", Member: -1, Topics: []string{"t", "u"}}, 0)
	for _, q := range []wire.Request{
		{Kind: wire.Fetch, Name: "t", Count: 1000}, {Kind: wire.Fetch, Name: "t", Count: 1000, Filter: api.Expr{Op: api.Has, Name: "h"}},
		{Kind: wire.Describe}, {Kind: wire.Share, Group: "g", Generation: 1},
	} {
		r, r2 := m.Do(q, 1), m.Do(q, 1)
		if r.Error != api.OK || len(r.Batches)+len(r.Topics)+len(r.Parts) < 2 {
			t.Fatalf("Do of %s: %s", short(q), short(r))
		}
		apart(t, "Do of "+short(q), r, r2)
	}
}

// room is where a list lies in memory, its spare room too.
type room struct{ from, to uintptr }

// rooms are those of all lists of something.
func rooms(v reflect.Value) []room {
	var l []room
	switch v.Kind() {
	case reflect.Struct:
		for i := range v.NumField() {
			l = append(l, rooms(v.Field(i))...)
		}
	case reflect.Slice:
		if v.Cap() > 0 {
			l = append(l, room{v.Pointer(), v.Pointer() + uintptr(v.Cap())*v.Type().Elem().Size()})
		}
		for i := range v.Len() {
			l = append(l, rooms(v.Index(i))...)
		}
	}
	return l
}

// apart has answers whose lists are all in memory of their own (R5).
func apart(t *testing.T, what string, answers ...any) {
	t.Helper()
	var l []room
	for _, v := range answers {
		l = append(l, rooms(reflect.ValueOf(v))...)
	}
	slices.SortFunc(l, func(a, b room) int { return cmp.Compare(a.from, b.from) })
	for i := 1; i < len(l); i++ {
		if l[i].from < l[i-1].to {
			t.Errorf("R5: %s: two lists share memory", what)
		}
	}
}
