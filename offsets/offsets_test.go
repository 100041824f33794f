package offsets_test

import (
	"fmt"
	"math"
	"reflect"
	"slices"
	"strings"
	"testing"

	"flotsam/api"
	"flotsam/offsets"
)

// topOffset is the greatest offset, topTime the greatest time.
const (
	topOffset = 1 << 40
	topTime   = 1 << 40
)

func key(group string, topic string, index int) offsets.Key {
	return offsets.Key{Group: group, Part: api.Part{Topic: topic, Index: index}}
}

func newTable(t *testing.T, room int) *offsets.Table {
	t.Helper()
	x, e := offsets.New(room)
	if x == nil || e != api.OK {
		t.Fatalf("P16.1: New(%d): %v, %d", room, x, e)
	}
	return x
}

// told is a table as a text: "g t2 at 7; h t0 at 0".
func told(t *testing.T, x *offsets.Table) string {
	t.Helper()
	var all []string
	for _, k := range x.Keys() {
		at, ok := x.Get(k)
		if !ok {
			t.Errorf("P16.2: %+v is one of the Keys, and has no offset", k)
		}
		all = append(all, fmt.Sprint(k.Group, " ", k.Part.Topic, k.Part.Index, " at ", at))
	}
	return strings.Join(all, "; ")
}

func is(t *testing.T, what string, x *offsets.Table, want string) {
	t.Helper()
	if s := told(t, x); s != want {
		t.Errorf("%s: %q, want %q", what, s, want)
	}
}

func commits(t *testing.T, what string, x *offsets.Table, k offsets.Key, at int, want api.Errno) {
	t.Helper()
	if e := x.Commit(k, at); e != want {
		t.Errorf("%s: Commit of %+v at %d: %d, want %d", what, k, at, e, want)
	}
}

func has(t *testing.T, what string, x *offsets.Table, k offsets.Key, want int) {
	t.Helper()
	if at, ok := x.Get(k); at != want || !ok {
		t.Errorf("%s: Get of %+v: %d, %t, want %d", what, k, at, ok, want)
	}
}

func hasNot(t *testing.T, what string, x *offsets.Table, k offsets.Key) {
	t.Helper()
	if at, ok := x.Get(k); at != 0 || ok {
		t.Errorf("%s: Get of %+v: %d, %t, want none", what, k, at, ok)
	}
}

func TestNew(t *testing.T) {
	for _, room := range []int{1, 2, 9999, 10000} {
		x := newTable(t, room)
		is(t, "P16.1: a new one", x, "")
		hasNot(t, "P16.1: a new one", x, key("g", "t", 0))
		for i := range room {
			commits(t, "P16.1: room", x, key(fmt.Sprint(i/16), "t", i%16), i, api.OK)
		}
		commits(t, "P16.1: no room", x, key("g", "t", 0), 0, api.ErrFull)
		if n := len(x.Keys()); n != room {
			t.Errorf("P16.1: room for %d: %d keys", room, n)
		}
	}
	for _, room := range []int{math.MinInt, -1, 0, 10001, math.MaxInt} {
		if x, e := offsets.New(room); x != nil || e != api.ErrArg {
			t.Errorf("P16.1: New(%d): %v, %d, want nil, ErrArg", room, x, e)
		}
	}
}

func TestNil(t *testing.T) {
	var x *offsets.Table
	for _, k := range []offsets.Key{{}, key("g", "t", 0), key("g", "t", -1)} {
		for _, at := range []int{-1, 0, 7} {
			commits(t, "P16.1: nil", x, k, at, api.ErrArg)
			hasNot(t, "P16.1: nil", x, k)
		}
	}
	if n := x.Forget("g"); n != 0 {
		t.Errorf("P16.1: nil: Forget: %d", n)
	}
	if n := x.Drop("t"); n != 0 {
		t.Errorf("P16.1: nil: Drop: %d", n)
	}
	if l := x.Keys(); len(l) != 0 {
		t.Errorf("P16.1: nil: Keys: %v", l)
	}
	gone, _ := offsets.Entry(key("g", "t", 0), -1, 0)
	at, _ := offsets.Entry(key("g", "t", 0), 7, 0)
	for _, r := range []api.Record{{}, gone, at} {
		if e := x.Apply(r); e != api.ErrArg {
			t.Errorf("P16.1: nil: Apply of %+v: %d, want ErrArg", r, e)
		}
	}
}

// TestNotMadeByNew has a table that nobody promised anything of: but no call panics (R1).
func TestNotMadeByNew(t *testing.T) {
	x := &offsets.Table{}
	k := key("g", "t", 0)
	for _, at := range []int{-1, 7} {
		r, _ := offsets.Entry(k, at, 0)
		x.Apply(r)
		x.Commit(k, at)
		x.Get(k)
		x.Forget("g")
		x.Drop("t")
		x.Keys()
	}
}

// mayBe are keys at the edges of what may be, mayNot are just beyond them.
func mayBe() []offsets.Key {
	long := strings.Repeat("x", 100)
	return []offsets.Key{
		key("g", "t", 0), key("g", "t", 15), key(long, "t", 1), key("g", long, 1), key(long, long, 15),
		key("\x00", "\xff", 0), key(" ", "é", 3), key("\xff\xfe", "\x00\x00", 7), key(long[1:], long[1:], 14),
	}
}

func mayNot() []offsets.Key {
	long := strings.Repeat("x", 101)
	return []offsets.Key{
		{}, key("", "t", 0), key("g", "", 0), key("", "", 0), key(long, "t", 0), key("g", long, 0),
		key("g", "t", -1), key("g", "t", 16), key("g", "t", math.MinInt), key("g", "t", math.MaxInt),
		key(strings.Repeat("x", 5000), "t", 0), key("g", strings.Repeat("é", 51), 0),
	}
}

func TestCommit(t *testing.T) {
	for _, k := range mayBe() {
		x := newTable(t, 1)
		hasNot(t, "P16.2: ahead of it", x, k)
		for _, at := range []int{0, 1, 7, topOffset - 1, topOffset, 3} {
			commits(t, "P16.2", x, k, at, api.OK)
			has(t, "P16.2", x, k, at)
			for _, wrong := range []int{math.MinInt, -2, -1, topOffset + 1, math.MaxInt} {
				commits(t, "P16.2: an offset that may not be", x, k, wrong, api.ErrArg)
			}
			has(t, "P16.2: behind wrong ones", x, k, at)
		}
		if l := x.Keys(); !reflect.DeepEqual(l, []offsets.Key{k}) {
			t.Errorf("P16.2: Keys: %v, want %v alone", l, k)
		}
	}
	for _, k := range mayNot() {
		x := newTable(t, 1)
		for range 2 {
			for _, at := range []int{-1, 0, 7, topOffset} {
				commits(t, "P16.2: a key that may not be", x, k, at, api.ErrArg)
				hasNot(t, "P16.2: a key that may not be", x, k)
			}
			// Also of a full table it is ErrArg that is told.
			x.Commit(key("g", "t", 0), 1)
		}
		is(t, "P16.2: a key that may not be", x, "g t0 at 1")
	}
}

func TestCommitFull(t *testing.T) {
	x := newTable(t, 2)
	commits(t, "P16.2", x, key("g", "t", 0), 1, api.OK)
	commits(t, "P16.2", x, key("g", "t", 1), 2, api.OK)
	for _, k := range []offsets.Key{key("g", "t", 2), key("h", "t", 0), key("g", "u", 0)} {
		commits(t, "P16.2: full", x, k, 3, api.ErrFull)
		hasNot(t, "P16.2: full", x, k)
	}
	commits(t, "P16.2: full, and a wrong offset", x, key("g", "t", 2), -1, api.ErrArg)
	commits(t, "P16.2: full, a key again", x, key("g", "t", 1), 0, api.OK)
	commits(t, "P16.2: full, a key again", x, key("g", "t", 0), 9, api.OK)
	is(t, "P16.2: full", x, "g t0 at 9; g t1 at 0")
	if n := x.Forget("g"); n != 2 {
		t.Errorf("P16.2: Forget: %d", n)
	}
	commits(t, "P16.2: room again", x, key("h", "t", 0), 3, api.OK)
	commits(t, "P16.2: room again", x, key("h", "t", 1), 3, api.OK)
	commits(t, "P16.2: full again", x, key("g", "t", 0), 3, api.ErrFull)
	is(t, "P16.2: full again", x, "h t0 at 3; h t1 at 3")
}

// TestKeysApart: keys are apart by each of their parts.
func TestKeysApart(t *testing.T) {
	x := newTable(t, 100)
	l := []offsets.Key{key("a", "a", 0), key("a", "a", 1), key("a", "b", 0), key("b", "a", 0), key("b", "b", 1), key("aa", "a", 0), key("a", "aa", 0)}
	for i, k := range l {
		commits(t, "P16.2", x, k, 10+i, api.OK)
	}
	for i, k := range l {
		has(t, "P16.2: apart", x, k, 10+i)
	}
	for _, k := range []offsets.Key{key("b", "a", 1), key("b", "b", 0), key("aa", "aa", 0), key("", "aa", 0), key("aaa", "", 0)} {
		hasNot(t, "P16.2: apart", x, k)
	}
}

// filled has four groups with three topics, of each two partitions.
func filled(t *testing.T) *offsets.Table {
	t.Helper()
	x := newTable(t, 24)
	for i, group := range []string{"g", "t", "gg", "h"} {
		for j, topic := range []string{"t", "g", "tt"} {
			for index := range 2 {
				commits(t, "P16.2", x, key(group, topic, index), 100*i+10*j+index, api.OK)
			}
		}
	}
	return x
}

func TestForgetAndDrop(t *testing.T) {
	x := filled(t)
	for _, name := range []string{"", "x", "G", "g ", "ggg", "tt", strings.Repeat("g", 200)} {
		if n := x.Forget(name); n != 0 {
			t.Errorf("P16.2: Forget(%q): %d", name, n)
		}
	}
	for _, name := range []string{"", "x", "T", "gg", "h", "ttt"} {
		if n := x.Drop(name); n != 0 {
			t.Errorf("P16.2: Drop(%q): %d", name, n)
		}
	}
	if n := len(x.Keys()); n != 24 {
		t.Fatalf("P16.2: %d keys are left", n)
	}
	for _, want := range []int{6, 0} {
		if n := x.Forget("g"); n != want {
			t.Errorf("P16.2: Forget: %d, want %d", n, want)
		}
		is(t, "P16.2: Forget", x, "gg g0 at 210; gg g1 at 211; gg t0 at 200; gg t1 at 201; gg tt0 at 220; gg tt1 at 221; "+
			"h g0 at 310; h g1 at 311; h t0 at 300; h t1 at 301; h tt0 at 320; h tt1 at 321; "+
			"t g0 at 110; t g1 at 111; t t0 at 100; t t1 at 101; t tt0 at 120; t tt1 at 121")
	}
	for _, want := range []int{6, 0} {
		if n := x.Drop("t"); n != want {
			t.Errorf("P16.2: Drop: %d, want %d", n, want)
		}
		is(t, "P16.2: Drop", x, "gg g0 at 210; gg g1 at 211; gg tt0 at 220; gg tt1 at 221; "+
			"h g0 at 310; h g1 at 311; h tt0 at 320; h tt1 at 321; t g0 at 110; t g1 at 111; t tt0 at 120; t tt1 at 121")
	}
	hasNot(t, "P16.2: forgotten", x, key("g", "t", 0))
	hasNot(t, "P16.2: dropped", x, key("h", "t", 0))
	commits(t, "P16.2: forgotten, and here again", x, key("g", "t", 1), 5, api.OK)
	has(t, "P16.2: forgotten, and here again", x, key("g", "t", 1), 5)
	hasNot(t, "P16.2: forgotten", x, key("g", "t", 0))
	if n := x.Drop("t"); n != 1 {
		t.Errorf("P16.2: Drop: %d, want 1", n)
	}
}

func TestKeys(t *testing.T) {
	want := []offsets.Key{
		key("\x00", "t", 0), key("A", "t", 0),
		key("a", "\x00", 15), key("a", "B", 0), key("a", "a", 2), key("a", "a", 10), key("a", "a\x00", 0), key("a", "aa", 0), key("a", "b", 0), key("a", "é", 0), key("a", "\xff", 0),
		key("a\x00", "a", 0), key("aa", "A", 0), key("b", "A", 15), key("b", "a", 0), key("z", "t", 0), key("é", "t", 0), key("\xff", "A", 0),
	}
	for shift := range want {
		x := newTable(t, 100)
		for i := range want {
			// Seven apart, so that they come neither in their order nor in its reverse.
			commits(t, "P16.2", x, want[(7*i+shift)%len(want)], i, api.OK)
		}
		l := x.Keys()
		if !slices.Equal(l, want) {
			t.Fatalf("P16.2: Keys: %v, want %v", l, want)
		}
		clear(l)
		if !slices.Equal(x.Keys(), want) {
			t.Fatalf("R5: Keys are shared: %v", x.Keys())
		}
	}
}

// TestTablesApart: what one table keeps another one has not.
func TestTablesApart(t *testing.T) {
	x, y := newTable(t, 5), newTable(t, 5)
	commits(t, "P16.2", x, key("g", "t", 0), 1, api.OK)
	is(t, "P16.1: another one", y, "")
	commits(t, "P16.2", y, key("g", "t", 0), 2, api.OK)
	is(t, "P16.2: apart", x, "g t0 at 1")
}
