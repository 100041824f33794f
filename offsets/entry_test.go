package offsets_test

import (
	"fmt"
	"math"
	"math/rand"
	"reflect"
	"slices"
	"strings"
	"testing"

	"flotsam/api"
	"flotsam/offsets"
	"flotsam/record"
	"flotsam/varint"
)

// entry is a commit's record, which has to be one that may be.
func entry(t *testing.T, k offsets.Key, at int, time int) api.Record {
	t.Helper()
	r, e := offsets.Entry(k, at, time)
	if e != api.OK || record.Check(r) != api.OK {
		t.Fatalf("P16.3: Entry of %+v, %d, %d: %+v, %d", k, at, time, r, e)
	}
	return r
}

func applies(t *testing.T, what string, x *offsets.Table, r api.Record, want api.Errno) {
	t.Helper()
	if e := x.Apply(r); e != want {
		t.Errorf("P16.3: %s: Apply of %+v: %d, want %d", what, r, e, want)
	}
}

// TestExample is example 1 of the chapter.
func TestExample(t *testing.T) {
	r := entry(t, key("g", "t", 2), 7, 0)
	if want := (api.Record{Key: "\x02g\x02t\x04", Value: "\x0e"}); !reflect.DeepEqual(r, want) {
		t.Errorf("example 1: %+v, want %+v", r, want)
	}
}

func TestEntry(t *testing.T) {
	for _, k := range mayBe() {
		for _, time := range []int{0, 1, 300, topTime} {
			for _, at := range []int{-1, 0, 7, 64, topOffset} {
				want := api.Record{Time: time, Key: varint.Text(k.Group) + varint.Text(k.Part.Topic) + varint.Put(k.Part.Index), Value: varint.Put(at)}
				if at == -1 {
					want.Gone, want.Value = true, ""
				}
				if r := entry(t, k, at, time); !reflect.DeepEqual(r, want) {
					t.Errorf("P16.3: Entry of %+v, %d, %d: %+v, want %+v", k, at, time, r, want)
				}
			}
		}
	}
	refused := func(k offsets.Key, at int, time int) {
		t.Helper()
		if r, e := offsets.Entry(k, at, time); !reflect.DeepEqual(r, api.Record{}) || e != api.ErrArg {
			t.Errorf("P16.3: Entry of %+v, %d, %d: %+v, %d, want nothing, ErrArg", k, at, time, r, e)
		}
	}
	for _, k := range mayNot() {
		refused(k, 7, 0)
		refused(k, -1, 0)
	}
	for _, wrong := range []int{math.MinInt, -2, topOffset + 1, math.MaxInt} {
		refused(key("g", "t", 0), wrong, 0)
	}
	for _, wrong := range []int{math.MinInt, -1, topTime + 1, math.MaxInt} {
		refused(key("g", "t", 0), 7, wrong)
		refused(key("g", "t", 0), -1, wrong)
	}
}

func TestApply(t *testing.T) {
	for _, k := range mayBe() {
		x := newTable(t, 1)
		for _, at := range []int{0, 7, topOffset, 5} {
			applies(t, "a commit", x, entry(t, k, at, 3), api.OK)
			has(t, "P16.3: applied", x, k, at)
		}
		other := key("other", "t", 0)
		applies(t, "a full table", x, entry(t, other, 1, 0), api.ErrFull)
		applies(t, "a full table, and one that goes that is not there", x, entry(t, other, -1, 0), api.OK)
		has(t, "P16.3: a full table", x, k, 5)
		applies(t, "one that goes", x, entry(t, k, -1, topTime), api.OK)
		hasNot(t, "P16.3: gone", x, k)
		applies(t, "one that has gone", x, entry(t, k, -1, 0), api.OK)
		is(t, "P16.3: gone", x, "")
		applies(t, "room again", x, entry(t, other, 1, 0), api.OK)
		is(t, "P16.3: room again", x, "other t0 at 1")
	}
	// One key alone goes, whatever stands beside it.
	x := filled(t)
	ahead := told(t, x)
	applies(t, "one that goes among others", x, entry(t, key("gg", "t", 1), -1, 0), api.OK)
	is(t, "P16.3: gone among others", x, strings.Replace(ahead, "gg t1 at 201; ", "", 1))
}

// noCommits are records of which each is just beside a commit's.
func noCommits() map[string]api.Record {
	long := strings.Repeat("x", 101)
	with := func(change func(r *api.Record)) api.Record {
		r := api.Record{Time: 5, Key: "\x02g\x02t\x04", Value: "\x0e"}
		change(&r)
		return r
	}
	l := map[string]api.Record{
		"an empty one":             {},
		"At":                       with(func(r *api.Record) { r.At = 1 }),
		"an At that may not be":    with(func(r *api.Record) { r.At = -1 }),
		"a Time below 0":           with(func(r *api.Record) { r.Time = -1 }),
		"a Time above 2^40":        with(func(r *api.Record) { r.Time = topTime + 1 }),
		"Bare":                     with(func(r *api.Record) { r.Bare = true }),
		"Bare without a Key":       with(func(r *api.Record) { r.Bare, r.Key = true, "" }),
		"Bare and Gone":            with(func(r *api.Record) { r.Bare, r.Gone, r.Value = true, true, "" }),
		"Gone with a Value":        with(func(r *api.Record) { r.Gone = true }),
		"Gone with the Value of 0": with(func(r *api.Record) { r.Gone, r.Value = true, "\x00" }),
		"Gone with At":             with(func(r *api.Record) { r.Gone, r.Value, r.At = true, "", 3 }),
		"Gone with a wrong Key":    with(func(r *api.Record) { r.Gone, r.Value, r.Key = true, "", "\x02g\x02t" }),
		"Gone with a Header":       with(func(r *api.Record) { r.Gone, r.Value, r.Headers = true, "", []api.Header{{Key: "h"}} }),
		"Gone with a wrong Time":   with(func(r *api.Record) { r.Gone, r.Value, r.Time = true, "", -1 }),
		"a Header":                 with(func(r *api.Record) { r.Headers = []api.Header{{Key: "h", Value: "1"}} }),
		"a Header that may not be": with(func(r *api.Record) { r.Headers = []api.Header{{}} }),
	}
	for _, s := range []string{
		"", "\x02g", "\x02g\x02t", "\x02g\x02", "\x02g\x02t\x80", "\x02g\x02t\x84\x00", "\x02g\x02t\x04\x00", "\x02g\x02t\x04\x04",
		"\x02g\x02t\x01", "\x02g\x02t\x20", "\x00\x02t\x04", "\x02g\x00\x04", "\x00\x00\x00", "\x01\x02t\x04", "\x02g\x01\x04", "\x82\x00g\x02t\x04",
		"\x02g\x82\x00t\x04", "g", "\x04g\x02t\x04", "\x02g\x02t\x04 ", " \x02g\x02t\x04",
		varint.Text(long) + "\x02t\x04", "\x02g" + varint.Text(long) + "\x04", varint.Text(strings.Repeat("x", 990)) + "\x02t\x04",
		"\x02g\x02t" + varint.Put(math.MaxInt), "\x02g\x02t" + varint.Put(math.MinInt), varint.Put(math.MaxInt) + "g\x02t\x04", strings.Repeat("x", 2000),
	} {
		l[fmt.Sprintf("the Key %.20x", s)] = with(func(r *api.Record) { r.Key = s })
	}
	for _, s := range []string{
		"", "\x80", "\x8e\x00", "\x0e\x00", "\x00\x00", "\x01", "\x03", varint.Put(topOffset + 1), varint.Put(math.MaxInt), varint.Put(math.MinInt),
		"\x02g", strings.Repeat("\x80", 10), strings.Repeat("\x00", 1001), "\x0e" + strings.Repeat("x", 5000),
	} {
		l[fmt.Sprintf("the Value %.20x", s)] = with(func(r *api.Record) { r.Value = s })
	}
	return l
}

func TestApplyOfNoCommit(t *testing.T) {
	full := newTable(t, 1)
	full.Commit(key("full", "t", 0), 4)
	for what, r := range noCommits() {
		x := filled(t)
		ahead := told(t, x)
		applies(t, what, x, r, api.ErrForm)
		is(t, "P16.3: "+what, x, ahead)
		applies(t, what+", a full table", full, r, api.ErrForm)
		applies(t, what+", an empty table", newTable(t, 1), r, api.ErrForm)
	}
	is(t, "P16.3: a full table", full, "full t0 at 4")
}

// TestApplyOfNoHeaders: a list that is empty is as good as none.
func TestApplyOfNoHeaders(t *testing.T) {
	x := newTable(t, 1)
	r := entry(t, key("g", "t", 2), 7, 0)
	r.Headers = []api.Header{}
	applies(t, "empty Headers", x, r, api.OK)
	is(t, "P16.3: empty Headers", x, "g t2 at 7")
}

// anyKey is one of few, so that keys come again.
func anyKey(r *rand.Rand) offsets.Key {
	return key([]string{"g", "h", "\xff"}[r.Intn(3)], []string{"t", "tt", "g"}[r.Intn(3)], r.Intn(3))
}

// TestApplyBytes turns bytes of records: whatever is taken is what Entry makes of some key, offset and time; all else is told, and changes nothing.
func TestApplyBytes(t *testing.T) {
	r := rand.New(rand.NewSource(1))
	taken := 0
	turned := func(s string) string {
		b := []byte(s)
		for range r.Intn(3) {
			if len(b) > 0 {
				b[r.Intn(len(b))] = byte(r.Intn(256))
			}
		}
		if r.Intn(6) == 0 && len(b) > 0 {
			b = b[:len(b)-1]
		}
		if r.Intn(6) == 0 {
			b = append(b, byte(r.Intn(5)))
		}
		return string(b)
	}
	for range 100000 {
		x := newTable(t, 1)
		sent := entry(t, anyKey(r), r.Intn(300)-1, r.Intn(300))
		sent.Key, sent.Value = turned(sent.Key), turned(sent.Value)
		e := x.Apply(sent)
		if want := wanted(sent); e != want {
			t.Fatalf("P16.3: Apply of %+v: %d, want %d", sent, e, want)
		}
		l := x.Keys()
		if e != api.OK || sent.Gone {
			if len(l) != 0 {
				t.Fatalf("P16.3: Apply of %+v, %d: %v", sent, e, l)
			}
			continue
		}
		taken++
		at, _ := x.Get(l[0])
		if made := entry(t, l[0], at, sent.Time); !reflect.DeepEqual(made, sent) {
			t.Fatalf("P16.3: Apply of %+v: %+v at %d, of which %+v is made", sent, l[0], at, made)
		}
	}
	if taken < 1000 {
		t.Errorf("only %d were taken", taken)
	}
}

// wanted is what Apply has to say to a record whose Key and Value alone may be wrong, as the words tell it, text by text.
func wanted(r api.Record) api.Errno {
	at := 0
	for range 2 {
		s, place, e := varint.Take(r.Key, at, 100)
		if e != api.OK || s == "" {
			return api.ErrForm
		}
		at = place
	}
	index, at, e := varint.Get(r.Key, at)
	if e != api.OK || index < 0 || index > 15 || at != len(r.Key) {
		return api.ErrForm
	}
	if r.Gone {
		if r.Value != "" {
			return api.ErrForm
		}
		return api.OK
	}
	n, at, e := varint.Get(r.Value, 0)
	if e != api.OK || n < 0 || n > topOffset || at != len(r.Value) {
		return api.ErrForm
	}
	return api.OK
}

// TestRecordsOfAllCommits does anything to a table and to a plain one; the records of all of it, applied one by one, make the same (P16.4).
func TestRecordsOfAllCommits(t *testing.T) {
	for seed := range 200 {
		r := rand.New(rand.NewSource(int64(seed)))
		room := 1 + r.Intn(30)
		x, plain := newTable(t, room), map[offsets.Key]int{}
		var log []api.Record
		gone := func(which func(k offsets.Key) bool) int {
			n := 0
			for k := range plain {
				if which(k) {
					log = append(log, entry(t, k, -1, len(log)))
					delete(plain, k)
					n++
				}
			}
			return n
		}
		for range 100 {
			k, at := anyKey(r), r.Intn(1000)
			switch r.Intn(12) {
			case 0:
				if n, want := x.Forget(k.Group), gone(func(o offsets.Key) bool { return o.Group == k.Group }); n != want {
					t.Fatalf("P16.2: Forget: %d, want %d", n, want)
				}
			case 1:
				if n, want := x.Drop(k.Part.Topic), gone(func(o offsets.Key) bool { return o.Part.Topic == k.Part.Topic }); n != want {
					t.Fatalf("P16.2: Drop: %d, want %d", n, want)
				}
			case 2:
				gone(func(o offsets.Key) bool { return o == k })
				applies(t, "one that goes", x, entry(t, k, -1, 0), api.OK)
			default:
				want := api.OK
				if _, ok := plain[k]; !ok && len(plain) == room {
					want = api.ErrFull
				}
				commits(t, "P16.2", x, k, at, want)
				if want == api.OK {
					plain[k] = at
					log = append(log, entry(t, k, at, len(log)))
				}
			}
			agrees(t, x, plain)
		}
		again := newTable(t, room)
		for _, r := range log {
			applies(t, "a log", again, r, api.OK)
		}
		is(t, "P16.4", again, told(t, x))
		is(t, "P16.4: of each key the last one alone", applied(t, room, lastOnes(log)), told(t, x))
	}
}

// agrees holds a table against a plain one.
func agrees(t *testing.T, x *offsets.Table, plain map[offsets.Key]int) {
	t.Helper()
	if n := len(x.Keys()); n != len(plain) {
		t.Fatalf("P16.2: %d keys, want %d", n, len(plain))
	}
	for k, at := range plain {
		has(t, "P16.2", x, k, at)
	}
}

// applied is a new table to which records are applied.
func applied(t *testing.T, room int, log []api.Record) *offsets.Table {
	t.Helper()
	x := newTable(t, room)
	for _, r := range log {
		applies(t, "of each key the last one", x, r, api.OK)
	}
	return x
}

// lastOnes are of each key the last record alone.
func lastOnes(log []api.Record) []api.Record {
	var l []api.Record
	seen := map[string]bool{}
	for _, r := range slices.Backward(log) {
		if !seen[r.Key] {
			l = append(l, r)
		}
		seen[r.Key] = true
	}
	slices.Reverse(l)
	return l
}

func TestNothingIsChanged(t *testing.T) {
	r := api.Record{Key: "\x02g\x02t\x04", Value: "\x0e", Headers: []api.Header{{Key: "h", Value: "1"}}}
	applies(t, "a Header", newTable(t, 1), r, api.ErrForm)
	if r.Headers[0] != (api.Header{Key: "h", Value: "1"}) || len(r.Headers) != 1 || r.Key != "\x02g\x02t\x04" {
		t.Errorf("R5: the record that was handed in is now %+v", r)
	}
}
