package whole_test

import (
	"fmt"
	"math"
	"reflect"
	"slices"
	"strings"
	"testing"

	"flotsam/api"
	"flotsam/batch"
	"flotsam/broker"
	"flotsam/whole"
	"flotsam/wire"
)

var usual = broker.Config{Session: 100, Rebalance: 3, Limit: 50}

func fresh(t *testing.T) *whole.World { return made(t, api.MaxDisk, usual) }

func made(t *testing.T, room int, c broker.Config) *whole.World {
	t.Helper()
	w, e := whole.New(room, c)
	if w == nil || e != api.OK {
		t.Fatalf("P24.1: New(%d, %+v): %v, %d", room, c, w, e)
	}
	return w
}

func asking(t *testing.T, q wire.Request) string {
	t.Helper()
	s, e := wire.Encode(q)
	if e != api.OK {
		t.Fatalf("wire.Encode of %+v: %d", q, e)
	}
	f, _ := wire.Frame(s)
	return f
}

// asks feeds a request to a session that rests, and takes it through its three steps (P24.4).
func asks(t *testing.T, w *whole.World, id int, q wire.Request) wire.Reply {
	t.Helper()
	if e := w.Feed(id, asking(t, q)); e != api.OK {
		t.Fatalf("P24.2: Feed(%d): %d", id, e)
	}
	steps(t, "a request", w, id, "", true)
	steps(t, "a request", w, id, "", true)
	return answered(t, w, id)
}

// answered is the reply that the next step of a session tells.
func answered(t *testing.T, w *whole.World, id int) wire.Reply {
	t.Helper()
	s, ok := w.Step(id)
	text, n, e := wire.Next(s)
	r, wrong := wire.Read(text)
	if !ok || e != api.OK || n != len(s) || wrong != api.OK {
		t.Fatalf("P24.4: Step(%d): %x, %t, want a reply", id, s, ok)
	}
	return r
}

func steps(t *testing.T, what string, w *whole.World, id int, want string, ok bool) {
	t.Helper()
	if k := w.Waits(id); k != ok {
		t.Errorf("P24.2: %s: Waits(%d): %t, want %t", what, id, k, ok)
	}
	if s, k := w.Step(id); s != want || k != ok {
		t.Errorf("P24.2: %s: Step(%d): %x, %t, want %x, %t", what, id, s, k, want, ok)
	}
}

func replies(t *testing.T, what string, w *whole.World, q wire.Request, want wire.Reply) {
	t.Helper()
	if r := asks(t, w, 0, q); !same(r, want) {
		t.Errorf("%s: of %s: %s, want %s", what, short(q), short(r), short(want))
	}
}

func refuses(t *testing.T, what string, w *whole.World, q wire.Request, e api.Errno) {
	t.Helper()
	replies(t, what, w, q, wire.Reply{Error: e})
}

func ends(t *testing.T, what string, w *whole.World, name string, index int, want int) {
	t.Helper()
	if n := w.End(name, index); n != want {
		t.Errorf("%s: End of %q, %d: %d, want %d", what, name, index, n, want)
	}
}

func crashes(t *testing.T, what string, w *whole.World, keep ...int) {
	t.Helper()
	if e := w.Crash(keep); e != api.OK {
		t.Fatalf("P24.4: %s: Crash: %d", what, e)
	}
}

// same tells whether things are, by their bytes: a list that is nil and an empty one are the same.
func same(a, b wire.Reply) bool {
	s, e := wire.Answer(a)
	u, f := wire.Answer(b)
	return s == u && e == f && e == api.OK
}

func short(v any) string {
	s := fmt.Sprintf("%+v", v)
	return s[:min(len(s), 1000)]
}

func creating(name string, parts int) wire.Request {
	return wire.Request{Kind: wire.Create, Name: name, Count: parts}
}

func producing(b api.Batch, index int, flag bool) wire.Request {
	return wire.Request{Kind: wire.Produce, Name: "t", Index: index, Batch: b, Flag: flag}
}

func fetching(from int) wire.Request {
	return wire.Request{Kind: wire.Fetch, Name: "t", From: from, Count: 30000}
}

func trimming(to int) wire.Request { return wire.Request{Kind: wire.Trim, Name: "t", From: to} }

func joining(group string, m int, topics ...string) wire.Request {
	return wire.Request{Kind: wire.Join, Group: group, Member: m, Topics: topics}
}

func beating(group string, m int, generation int) wire.Request {
	return wire.Request{Kind: wire.Beat, Group: group, Member: m, Generation: generation}
}

func sharing(group string, m int, generation int) wire.Request {
	return wire.Request{Kind: wire.Share, Group: group, Member: m, Generation: generation}
}

func committing(group string, m int, generation int, at int) wire.Request {
	return wire.Request{Kind: wire.Commit, Group: group, Member: m, Generation: generation, Name: "t", From: at}
}

var committed = wire.Request{Kind: wire.Committed, Group: "g", Name: "t"}

// said is a batch of one record.
func said(key string, value string) api.Batch {
	return api.Batch{Span: 1, Producer: -1, Epoch: -1, Seq: -1, Records: []api.Record{{Key: key, Value: value}}}
}

func by(producer int, seq int, b api.Batch) api.Batch {
	b.Producer, b.Epoch, b.Seq = producer, 0, seq
	return b
}

func at(base int, b api.Batch) api.Batch {
	b.Base = base
	return b
}

func encoded(t *testing.T, b api.Batch) string {
	t.Helper()
	s, e := batch.Encode(b)
	if e != api.OK {
		t.Fatalf("batch.Encode: %d", e)
	}
	return s
}

// ofT is a world with a topic t of two partitions.
func ofT(t *testing.T) *whole.World {
	t.Helper()
	w := fresh(t)
	replies(t, "P24.4: Create", w, creating("t", 2), wire.Reply{})
	return w
}

func TestNew(t *testing.T) {
	for i, c := range []struct {
		room int
		c    broker.Config
		want api.Errno
	}{
		{1, usual, api.OK}, {api.MaxDisk, usual, api.OK}, {1, broker.Config{Session: 1, Rebalance: 1, Limit: 50}, api.OK},
		{100, broker.Config{Session: 100000, Rebalance: 100000, Limit: 1000000}, api.OK},
		{0, usual, api.ErrArg}, {-1, usual, api.ErrArg}, {api.MaxDisk + 1, usual, api.ErrArg}, {math.MinInt, usual, api.ErrArg}, {math.MaxInt, usual, api.ErrArg},
		{100, broker.Config{}, api.ErrArg}, {0, broker.Config{}, api.ErrArg},
		{100, broker.Config{Session: 0, Rebalance: 1, Limit: 50}, api.ErrArg}, {100, broker.Config{Session: 100001, Rebalance: 1, Limit: 50}, api.ErrArg},
		{100, broker.Config{Session: 1, Rebalance: 0, Limit: 50}, api.ErrArg}, {100, broker.Config{Session: 1, Rebalance: 100001, Limit: 50}, api.ErrArg},
		{100, broker.Config{Session: 1, Rebalance: 1, Limit: 49}, api.ErrArg}, {100, broker.Config{Session: 1, Rebalance: 1, Limit: 1000001}, api.ErrArg},
	} {
		if w, e := whole.New(c.room, c.c); e != c.want || (w == nil) != (e != api.OK) {
			t.Errorf("P24.1: case %d: New: %v, %d, want %d", i, w, e, c.want)
		}
	}
	w := fresh(t)
	if n := w.Now(); n != 0 {
		t.Errorf("P24.1: the clock of a new one is at %d", n)
	}
	for id := range 8 {
		steps(t, "a new one", w, id, "", false)
	}
	replies(t, "P24.1: a new one", w, wire.Request{Kind: wire.Describe}, wire.Reply{})
	replies(t, "P24.1: a new one", w, wire.Request{Kind: wire.Identify}, wire.Reply{})
}

// TestNil: so is one that New did not make, of which nothing is promised but that no call panics (R1).
func TestNil(t *testing.T) {
	for i, w := range []*whole.World{nil, new(whole.World)} {
		errors := []api.Errno{w.Feed(0, "x"), w.Feed(9, ""), w.Tidy("t", 0, 0, 0), w.Fuse(-1), w.Fuse(0), w.Crash(nil), w.Crash([]int{1})}
		for k, e := range errors {
			if e != api.ErrArg {
				t.Errorf("P24.1: nil, %d: call %d: %d, want ErrArg", i, k, e)
			}
		}
		steps(t, "nil", w, 0, "", false)
		steps(t, "nil", w, -1, "", false)
		if n := w.Now(); n != 0 {
			t.Errorf("P24.1: nil, %d: Now: %d", i, n)
		}
		w.Pass(1)
		ends(t, "P24.1: nil", w, "t", 0, -1)
	}
	var w *whole.World
	w.Pass(1)
	if n := w.Now(); n != 0 {
		t.Errorf("P24.1: nil: Now behind Pass: %d", n)
	}
}

// TestServer: the sessions are those of a server.
func TestServer(t *testing.T) {
	w := ofT(t)
	f := asking(t, fetching(0))
	for _, id := range []int{-1, 8, math.MinInt, math.MaxInt} {
		if e := w.Feed(id, f); e != api.ErrArg {
			t.Errorf("P24.2: Feed(%d): %d, want ErrArg", id, e)
		}
		steps(t, "no session", w, id, "", false)
	}
	if e := w.Feed(1, strings.Repeat("x", 200001)); e != api.ErrFull {
		t.Errorf("P24.2: Feed of too many bytes: %d, want ErrFull", e)
	}
	for cut := range len(f) {
		w.Feed(2, f[:cut])
		steps(t, "a part", w, 2, "", false)
		w.Feed(2, f[cut:])
		steps(t, "example 10", w, 2, "", true)
		steps(t, "example 10", w, 2, "", true)
		if r := answered(t, w, 2); !same(r, wire.Reply{}) {
			t.Errorf("P24.2: a frame in two parts: %+v", r)
		}
	}
	w.Feed(3, "\xff\xff\xff\xff"+f)
	steps(t, "example 9", w, 3, "", true)
	if w.Closed(3) {
		t.Error("P24.2: it is closed ahead of the reply")
	}
	if r := answered(t, w, 3); !same(r, wire.Reply{Error: api.ErrForm}) || !w.Closed(3) {
		t.Errorf("P24.2: example 9: %+v, closed %t", r, w.Closed(3))
	}
	if e := w.Feed(3, f); e != api.ErrDown {
		t.Errorf("P24.2: Feed of a closed one: %d, want ErrDown", e)
	}
	steps(t, "closed", w, 3, "", false)
	replies(t, "P24.2: another one", w, fetching(0), wire.Reply{})
}

func TestPass(t *testing.T) {
	w := fresh(t)
	now := 0
	for _, ticks := range []int{0, 1, -1, 2, math.MinInt, 100000, 100001, math.MaxInt, 7, -100000} {
		w.Pass(ticks)
		if ticks >= 1 && ticks <= 100000 {
			now += ticks
		}
		if n := w.Now(); n != now {
			t.Errorf("P24.2: behind Pass(%d) the clock is at %d, want %d", ticks, n, now)
		}
	}
}

// TestEachTick: of all ticks that pass at once the groups are told each.
func TestEachTick(t *testing.T) {
	w := ofT(t)
	replies(t, "P24.4: Join", w, joining("g", -1, "t"), wire.Reply{Generation: 1})
	replies(t, "P24.4: Join", w, joining("g", -1, "t"), wire.Reply{Member: 1, Generation: 1})
	// At 3 the first one is gone, as it has not joined again; at 6 the second one, as it has not shared.
	w.Pass(5)
	refuses(t, "P24.2: Pass(5)", w, beating("g", 0, 1), api.ErrMember)
	refuses(t, "P24.2: Pass(5)", w, beating("g", 1, 2), api.ErrWait)
	w.Pass(1)
	refuses(t, "P24.2: Pass(1)", w, beating("g", 1, 2), api.ErrMember)
}

// TestLife: a member lives for 100 ticks from the step on that does its request.
func TestLife(t *testing.T) {
	for _, wait := range []int{0, 1, 40} {
		w := ofT(t)
		w.Pass(9)
		w.Feed(0, asking(t, joining("g", -1, "t")))
		steps(t, "a Join", w, 0, "", true)
		if wait > 0 {
			w.Pass(wait)
		}
		steps(t, "a Join", w, 0, "", true)
		w.Pass(2)
		if r := answered(t, w, 0); !same(r, wire.Reply{Generation: 1}) {
			t.Errorf("P24.4: Join: %+v", r)
		}
		replies(t, "P24.4: Share", w, sharing("g", 0, 1), wire.Reply{Parts: []api.Part{{Topic: "t", Index: 0}, {Topic: "t", Index: 1}}})
		w.Pass(99)
		replies(t, "P24.2: lives", w, beating("g", 0, 1), wire.Reply{})
		w.Pass(100)
		refuses(t, "P24.2: lives no more", w, beating("g", 0, 1), api.ErrMember)
	}
}

// tidied is a world with three segments of two batches each, of which the first one has an old record, and the second one a Gone one of the time 3.
func tidied(t *testing.T) *whole.World {
	t.Helper()
	w := ofT(t)
	for i, key := range []string{"a", "b", "a", "c", "d", "e"} {
		b := said(key, "some text of some bytes")
		b.Records[0].Time = i
		if i == 3 {
			b.Records[0].Gone, b.Records[0].Value = true, ""
		}
		replies(t, "P24.4: Produce", w, producing(b, 0, false), wire.Reply{At: i})
	}
	return w
}

// left are where t starts, and where its batches stand.
func left(t *testing.T, w *whole.World) []int {
	t.Helper()
	start := asks(t, w, 0, fetching(w.End("t", 0))).Start
	l := []int{start}
	for _, b := range asks(t, w, 0, fetching(start)).Batches {
		l = append(l, b.Base)
	}
	return l
}

func TestTidy(t *testing.T) {
	all := []int{0, 0, 1, 2, 3, 4, 5}
	for i, c := range []struct {
		name   string
		index  int
		most   int
		before int
		e      api.Errno
		want   []int
	}{
		{"t", 0, 1000000, 0, api.OK, []int{0, 1, 2, 3, 4, 5}}, {"t", 0, 1000000, 3, api.OK, []int{0, 1, 2, 3, 4, 5}}, {"t", 0, 1000000, 4, api.OK, []int{0, 1, 2, 4, 5}},
		{"t", 0, 0, 0, api.OK, []int{4, 4, 5}}, {"t", 0, 180, 4, api.OK, []int{2, 2, 4, 5}}, {"t", 0, -1, 0, api.ErrArg, all},
		{"t", 1, 0, 0, api.OK, all}, {"t", 2, 0, 0, api.ErrNone, all}, {"u", 0, 0, 0, api.ErrNone, all}, {"t", -1, 0, 0, api.ErrNone, all},
	} {
		w := tidied(t)
		if e := w.Tidy(c.name, c.index, c.most, c.before); e != c.e {
			t.Errorf("P24.2: case %d: Tidy: %d, want %d", i, e, c.e)
		}
		if l := left(t, w); !slices.Equal(l, c.want) {
			t.Errorf("P24.2: case %d: behind Tidy there are %d, want %d", i, l, c.want)
		}
		ends(t, "P24.2: Tidy", w, "t", 0, 6)
		crashes(t, "tidied", w, 1000)
		if l := left(t, w); !slices.Equal(l, c.want) {
			t.Errorf("P24.4: case %d: behind Tidy and a crash there are %d, want %d", i, l, c.want)
		}
	}
}

func TestFuse(t *testing.T) {
	w := ofT(t)
	for _, n := range []int{-2, math.MinInt} {
		if e := w.Fuse(n); e != api.ErrArg {
			t.Errorf("P24.2: Fuse(%d): %d, want ErrArg", n, e)
		}
	}
	fuses := func(n int) {
		t.Helper()
		if e := w.Fuse(n); e != api.OK {
			t.Errorf("P24.2: Fuse(%d): %d", n, e)
		}
	}
	fuses(2)
	replies(t, "P24.2: a fuse of 2", w, producing(said("k", "v"), 0, false), wire.Reply{})
	replies(t, "P24.2: a fuse of 1", w, producing(said("k", "v"), 0, false), wire.Reply{At: 1})
	refuses(t, "P24.2: a fuse of 0", w, producing(said("k", "v"), 0, false), api.ErrDown)
	ends(t, "P24.2: a fuse of 0", w, "t", 0, 2)
	fuses(-1)
	replies(t, "P24.2: no fuse", w, producing(said("k", "v"), 0, false), wire.Reply{At: 2})
	fuses(0)
	refuses(t, "P24.2: a fuse of 0", w, creating("u", 1), api.ErrDown)
	crashes(t, "a fuse of 0", w)
	replies(t, "P24.3: a crash takes the fuse", w, creating("u", 1), wire.Reply{At: 1})
}

// TestCrashKeeps: of what was not synced just so many bytes stay as are told, but whole batches alone.
func TestCrashKeeps(t *testing.T) {
	size := len(encoded(t, said("k", "v")))
	for i, c := range []struct {
		keep []int
		want [2]int
	}{
		{nil, [2]int{0, 0}}, {[]int{1000}, [2]int{2, 0}}, {[]int{0, 1000}, [2]int{0, 2}}, {[]int{-1, 1000, 1000}, [2]int{0, 2}}, {[]int{1000, 1000}, [2]int{2, 2}},
		{[]int{size - 1, size}, [2]int{0, 1}}, {[]int{size, size - 1}, [2]int{1, 0}}, {[]int{2*size - 1, 2 * size}, [2]int{1, 2}}, {[]int{math.MaxInt, math.MinInt}, [2]int{2, 0}},
	} {
		w := ofT(t)
		for index := range 2 {
			for k := range 2 {
				replies(t, "P24.4: Produce", w, producing(said("k", "v"), index, false), wire.Reply{At: k})
			}
		}
		crashes(t, "not synced", w, c.keep...)
		for index, want := range c.want {
			ends(t, fmt.Sprint("P24.3: case ", i), w, "t", index, want)
		}
	}
}

// TestCrash: what was answered is there, the groups are gone, the sessions rest, and the clock stays.
func TestCrash(t *testing.T) {
	w := ofT(t)
	replies(t, "example 1", w, producing(said("k", "v"), 0, true), wire.Reply{})
	replies(t, "P24.4: Produce", w, producing(said("k", "w"), 0, true), wire.Reply{At: 1})
	replies(t, "P24.4: Produce", w, producing(said("k", "x"), 0, false), wire.Reply{At: 2})
	replies(t, "P24.4: Identify", w, wire.Request{Kind: wire.Identify}, wire.Reply{})
	replies(t, "P24.4: Join", w, joining("g", -1, "t"), wire.Reply{Generation: 1})
	replies(t, "P24.4: Commit", w, committing("g", 0, 1, 2), wire.Reply{})
	w.Pass(12)
	for id := 1; id < 8; id++ {
		w.Feed(id, asking(t, creating(fmt.Sprint("of", id), 1)))
		w.Feed(id, asking(t, fetching(0))[:id])
	}
	steps(t, "read", w, 1, "", true)
	steps(t, "read", w, 2, "", true)
	steps(t, "done", w, 2, "", true)
	w.Feed(3, "\xff\xff\xff\xff")
	w.Feed(0, "\xff\xff\xff\xff")
	steps(t, "to be closed", w, 0, "", true)
	answered(t, w, 0)
	if !w.Closed(0) {
		t.Error("P24.2: it is not closed")
	}
	crashes(t, "all of it", w)
	for id := range 8 {
		steps(t, "behind a crash", w, id, "", false)
		if w.Closed(id) {
			t.Errorf("P24.3: session %d is closed behind a crash", id)
		}
		r := asks(t, w, id, wire.Request{Kind: wire.Describe})
		// The request of session 2 was done, though not told.
		if want := []api.Topic{{Name: "of2", Parts: 1}, {Name: "t", Parts: 2}}; !reflect.DeepEqual(r.Topics, want) {
			t.Errorf("P24.3: session %d is told the topics %v, want %v", id, r.Topics, want)
		}
	}
	if n := w.Now(); n != 12 {
		t.Errorf("P24.3: the clock is at %d, want 12", n)
	}
	ends(t, "example 1", w, "t", 0, 2)
	replies(t, "P24.3", w, fetching(0), wire.Reply{End: 2, Batches: []api.Batch{at(0, said("k", "v")), at(1, said("k", "w"))}})
	replies(t, "P24.3", w, committed, wire.Reply{At: 2})
	replies(t, "P24.3", w, wire.Request{Kind: wire.Identify}, wire.Reply{At: 1})
	refuses(t, "P24.3: no group", w, beating("g", 0, 1), api.ErrMember)
	// With the config, and at the clock as it stands, it goes on.
	replies(t, "P24.3", w, joining("g", -1, "t"), wire.Reply{Generation: 1})
	replies(t, "P24.3", w, sharing("g", 0, 1), wire.Reply{Parts: []api.Part{{Topic: "t", Index: 0}, {Topic: "t", Index: 1}}})
	w.Pass(99)
	replies(t, "P24.3", w, beating("g", 0, 1), wire.Reply{})
	w.Pass(100)
	refuses(t, "P24.3", w, beating("g", 0, 1), api.ErrMember)
	crashes(t, "again", w, 1, 2, 3)
	ends(t, "example 1", w, "t", 0, 2)
	if n := w.Now(); n != 211 {
		t.Errorf("P24.3: the clock is at %d, want 211", n)
	}
}

// TestKeepUnchanged: what is handed in is as it was (R5).
func TestKeepUnchanged(t *testing.T) {
	w := ofT(t)
	replies(t, "P24.4: Produce", w, producing(said("k", "v"), 0, false), wire.Reply{})
	keep := []int{-5, 1000, 3}
	crashes(t, "unchanged", w, keep...)
	if !slices.Equal(keep, []int{-5, 1000, 3}) {
		t.Errorf("R5: keep is %d", keep)
	}
}

// TestExamples are the document's ten, of the whole.
func TestExamples(t *testing.T) {
	w := ofT(t)
	replies(t, "example 1", w, producing(said("k", "v"), 0, false), wire.Reply{})
	replies(t, "example 1", w, producing(said("l", "v"), 0, false), wire.Reply{At: 1})
	q := fetching(0)
	q.Filter = api.Expr{Op: api.Has, Name: "h"}
	empty := api.Batch{Span: 1, Producer: -1, Epoch: -1, Seq: -1}
	replies(t, "example 2", w, q, wire.Reply{End: 2, Batches: []api.Batch{at(0, empty), at(1, empty)}})
	for range 2 {
		replies(t, "example 3", w, producing(by(4, 0, said("k", "v")), 0, false), wire.Reply{At: 2})
	}
	replies(t, "example 4", w, producing(said("m", "v"), 1, true), wire.Reply{})
	crashes(t, "example 4", w, len(encoded(t, said("k", "v")))+len(encoded(t, at(1, said("l", "v"))))+5)
	ends(t, "example 4", w, "t", 1, 1)
	ends(t, "example 5", w, "t", 0, 2)
	replies(t, "example 6", w, trimming(1), wire.Reply{})
	refuses(t, "example 6", w, fetching(0), api.ErrRange)
	replies(t, "example 6", w, fetching(1), wire.Reply{Start: 1, End: 2, Batches: []api.Batch{at(1, said("l", "v"))}})
	replies(t, "example 7", w, creating("u", 3), wire.Reply{At: 1})
	replies(t, "example 7", w, joining("g", -1, "u"), wire.Reply{Generation: 1})
	replies(t, "example 7", w, joining("g", -1, "u"), wire.Reply{Member: 1, Generation: 1})
	replies(t, "example 7", w, joining("g", 0, "u"), wire.Reply{Generation: 2})
	replies(t, "example 7", w, sharing("g", 0, 2), wire.Reply{Parts: []api.Part{{Topic: "u", Index: 0}, {Topic: "u", Index: 1}}})
	replies(t, "example 7", w, sharing("g", 1, 2), wire.Reply{Parts: []api.Part{{Topic: "u", Index: 2}}})
	refuses(t, "example 8", w, committing("g", 0, 1, 1), api.ErrOld)
	replies(t, "example 8", w, committing("g", 0, 2, 1), wire.Reply{})
}
