package match_test

import (
	"math"
	"math/rand"
	"reflect"
	"slices"
	"strings"
	"testing"
	"unsafe"

	"flotsam/api"
	"flotsam/expr"
	"flotsam/match"
	"flotsam/token"
)

func text(n int) string { return strings.Repeat("x", n) }

func and(l ...api.Expr) api.Expr { return api.Expr{Op: api.And, Kids: l} }

func or(l ...api.Expr) api.Expr { return api.Expr{Op: api.Or, Kids: l} }

func not(x api.Expr) api.Expr { return api.Expr{Op: api.Not, Kids: []api.Expr{x}} }

func has(name string) api.Expr { return api.Expr{Op: api.Has, Name: name} }

func is(name string, value string) api.Expr { return api.Expr{Op: api.Is, Name: name, Value: value} }

func prefix(value string) api.Expr { return api.Expr{Op: api.Prefix, Value: value} }

func word(value string) api.Expr { return api.Expr{Op: api.Word, Value: value} }

func all() api.Expr { return api.Expr{} }

func none() api.Expr { return not(all()) }

// full is a record that has something in all fields that go together.
func full() api.Record {
	return api.Record{At: 3, Time: 100, Key: "key/1", Value: "Foo! bar9,\xffqu\xffux", Headers: []api.Header{{Key: "h", Value: "1"}, {Key: "e"}, {Key: "h", Value: "2"}}}
}

// wrongFilters are filters that may not be, of each kind of fault one.
func wrongFilters() map[string]api.Expr {
	deep := all()
	for range 6 {
		deep = not(deep)
	}
	round := make([]api.Expr, 1)
	round[0] = api.Expr{Op: api.Not, Kids: round}
	return map[string]api.Expr{
		"an Op of 8":               {Op: 8},
		"an Op below 0":            {Op: -1},
		"the least Op":             {Op: math.MinInt},
		"And of none":              and(),
		"And of one":               and(all()),
		"Or of none":               or(),
		"Or of one":                or(all()),
		"Not of none":              {Op: api.Not},
		"Not of two":               {Op: api.Not, Kids: []api.Expr{all(), all()}},
		"All with a kid":           {Kids: []api.Expr{all()}},
		"All with a Name":          {Name: "h"},
		"Has without a Name":       has(""),
		"Has of a Name too long":   has(text(1001)),
		"Has with a Value":         {Op: api.Has, Name: "h", Value: "1"},
		"Is without a Name":        is("", "1"),
		"Is of a Value too long":   is("h", text(1001)),
		"Prefix of nothing":        prefix(""),
		"Prefix of 1001":           prefix(text(1001)),
		"Word of nothing":          word(""),
		"Word with a Name":         {Op: api.Word, Name: "h", Value: "foo"},
		"31 parts":                 or(make([]api.Expr, 30)...),
		"a Depth of seven":         deep,
		"a filter without an end":  round[0],
		"Or with a wrong last kid": or(all(), has("")),
		"And with a wrong one":     and(none(), word("")),
	}
}

// wrongRecords are records that may not be; some filter or other could do without what is wrong with them.
func wrongRecords() map[string]api.Record {
	return map[string]api.Record{
		"an At below 0":        {At: -1},
		"an At of 50":          {At: 50},
		"a Time below 0":       {Time: -1},
		"a Time above 2^40":    {Time: 1<<40 + 1},
		"a Key too long":       {Key: text(1001)},
		"a Value too long":     {Value: text(1001)},
		"Bare, and a Key":      {Bare: true, Key: "key/1"},
		"Gone, and a Value":    {Gone: true, Value: "foo"},
		"Bare and Gone":        {Bare: true, Gone: true},
		"11 Headers":           {Headers: slices.Repeat([]api.Header{{Key: "h", Value: "1"}}, 11)},
		"a Header without Key": {Headers: []api.Header{{Key: "h", Value: "1"}, {Value: "2"}}},
		"a Header too long":    {Headers: []api.Header{{Key: "h", Value: text(1001)}}},
	}
}

func wantMatch(t *testing.T, promise string, x api.Expr, r api.Record, want bool) {
	t.Helper()
	if got, e := match.Match(x, r); got != want || e != api.OK {
		t.Errorf("%s: Match of %+v, %+v: %v, %d, want %v", promise, x, r, got, e, want)
	}
	// Not turns it, whatever kind of filter it is, unless it has no room in one more.
	if expr.Check(not(x)) != api.OK {
		return
	}
	if got, e := match.Match(not(x), r); got == want || e != api.OK {
		t.Errorf("%s: Match of Not of %+v, %+v: %v, %d, want %v", promise, x, r, got, e, !want)
	}
}

func TestMatchOfOneKind(t *testing.T) {
	bare := api.Record{Bare: true, Value: "foo"}
	gone := api.Record{Gone: true, Key: "key", Headers: []api.Header{{Key: "foo", Value: "foo"}}}
	for _, c := range []struct {
		x    api.Expr
		r    api.Record
		want bool
	}{
		{all(), api.Record{}, true},
		{all(), full(), true},
		{all(), bare, true},
		{all(), gone, true},

		{has("h"), full(), true},
		{has("e"), full(), true},
		{has("H"), full(), false},
		{has("hh"), full(), false},
		{has("key/1"), full(), false},
		{has("h"), api.Record{}, false},
		{has("foo"), gone, true},
		{has("v"), api.Record{Bare: true, Headers: []api.Header{{Key: "v"}}}, true},
		{has(text(1000)), api.Record{Headers: []api.Header{{Key: text(999)}, {Key: text(1000)}}}, true},
		{has("j"), api.Record{Headers: []api.Header{{Key: "a"}, {Key: "b"}, {Key: "c"}, {Key: "d"}, {Key: "e"}, {Key: "f"}, {Key: "g"}, {Key: "h"}, {Key: "i"}, {Key: "j"}}}, true},

		{is("h", "1"), full(), true},
		// Of two headers with the name the first one is found.
		{is("h", "2"), full(), false},
		{is("h", ""), full(), false},
		{is("h", "11"), full(), false},
		{is("e", ""), full(), true},
		{is("e", "1"), full(), false},
		{is("f", ""), full(), false},
		{is("h", ""), api.Record{}, false},
		{is("foo", "foo"), gone, true},
		{is("foo", "FOO"), gone, false},
		{is("foo", "fo"), gone, false},
		{is("h", "\xff"), api.Record{Headers: []api.Header{{Key: "h", Value: "\xff"}}}, true},

		{prefix("k"), full(), true},
		{prefix("key/"), full(), true},
		{prefix("key/1"), full(), true},
		{prefix("key/11"), full(), false},
		{prefix("K"), full(), false},
		{prefix("ey"), full(), false},
		{prefix("Foo"), full(), false},
		{prefix("k"), api.Record{}, false},
		{prefix("k"), bare, false},
		{prefix("foo"), bare, false},
		{prefix("key"), gone, true},
		{prefix("\xff"), api.Record{Key: "\xff\xfe"}, true},
		{prefix("\xc3"), api.Record{Key: "é"}, true},
		{prefix(text(1000)), api.Record{Key: text(1000)}, true},
		{prefix(text(1000)), api.Record{Key: text(999)}, false},

		{word("foo"), api.Record{Value: "Foo!"}, true},
		{word("foo"), full(), true},
		{word("FOO"), full(), true},
		{word("bar9"), full(), true},
		{word("bar"), full(), false},
		{word("qu"), full(), true},
		{word("foo!"), full(), false},
		{word("foo bar9"), full(), false},
		{word("\xff"), full(), false},
		{word(" "), api.Record{Value: " "}, false},
		{word("key"), full(), false},
		{word("h"), full(), false},
		{word("foo"), api.Record{}, false},
		{word("foo"), bare, true},
		{word("foo"), gone, false},
		{word("key"), gone, false},
		{word(text(1000)), api.Record{Value: text(1000)}, true},
	} {
		wantMatch(t, "P8.1", c.x, c.r, c.want)
	}
}

// TestMatchOfKids has And and Or of two to ten kids, of which each lets all through, or nothing.
func TestMatchOfKids(t *testing.T) {
	kinds := []api.Expr{none(), all()}
	for n := 2; n <= 10; n++ {
		for bits := range 1 << n {
			var kids []api.Expr
			for i := range n {
				kids = append(kids, kinds[bits>>i&1])
			}
			if n < 10 || bits%7 == 0 || bits == 1<<n-1 {
				wantMatch(t, "P8.1", and(kids...), full(), bits == 1<<n-1)
				wantMatch(t, "P8.1", or(kids...), full(), bits != 0)
			}
		}
	}
}

func TestMatchOfTrees(t *testing.T) {
	r := full()
	for _, c := range []struct {
		x    api.Expr
		want bool
	}{
		{and(has("h"), prefix("key"), word("foo")), true},
		{and(has("h"), prefix("key"), word("no")), false},
		{or(has("no"), prefix("no"), word("bar9")), true},
		{or(has("no"), prefix("no"), word("no")), false},
		{not(not(not(not(all())))), true},
		{not(not(not(all()))), false},
		{and(or(none(), has("h")), not(and(has("h"), has("no")))), true},
		{or(and(all(), none()), not(or(all(), none()))), false},
		{and(all(), and(all(), and(all(), or(none(), word("qu"))))), true},
		{and(all(), and(all(), and(all(), or(none(), word("quux"))))), false},
		{or(slices.Repeat([]api.Expr{word("no")}, 28)...), false},
		{or(append(slices.Repeat([]api.Expr{word("no")}, 28), all())...), true},
		{and(append(slices.Repeat([]api.Expr{all()}, 28), word("no"))...), false},
	} {
		wantMatch(t, "P8.1", c.x, r, c.want)
	}
}

func TestWrongArguments(t *testing.T) {
	for name, x := range wrongFilters() {
		if got, e := match.Match(x, full()); got || e != api.ErrArg {
			t.Errorf("P8.1: Match of %s: %v, %d, want ErrArg", name, got, e)
		}
		for _, l := range [][]api.Record{nil, {}, {full()}, {{At: -1}}} {
			if got, e := match.Pick(x, l); len(got) != 0 || e != api.ErrArg {
				t.Errorf("P8.2: Pick of %s, of %d: %+v, %d, want ErrArg", name, len(l), got, e)
			}
		}
		for wrong, r := range wrongRecords() {
			if got, e := match.Match(x, r); got || e != api.ErrArg {
				t.Errorf("P8.1: Match of %s, %s: %v, %d, want ErrArg", name, wrong, got, e)
			}
		}
	}
	for name, r := range wrongRecords() {
		for _, x := range []api.Expr{all(), none(), has("h"), is("h", "1"), prefix("k"), word("foo"), and(none(), all()), or(all(), none())} {
			if got, e := match.Match(x, r); got || e != api.ErrArg {
				t.Errorf("P8.1: Match of %+v, %s: %v, %d, want ErrArg", x, name, got, e)
			}
			for _, l := range [][]api.Record{{r}, {r, full()}, {full(), r}, {full(), r, full()}} {
				if got, e := match.Pick(x, l); len(got) != 0 || e != api.ErrArg {
					t.Errorf("P8.2: Pick of %+v, %s, of %d: %+v, %d, want ErrArg", x, name, len(l), got, e)
				}
			}
		}
	}
}

// same tells whether two records are, with lists that are nil or empty as the same.
func same(a, b api.Record) bool {
	if !slices.Equal(a.Headers, b.Headers) {
		return false
	}
	a.Headers, b.Headers = nil, nil
	return reflect.DeepEqual(a, b)
}

func wantPick(t *testing.T, promise string, x api.Expr, l []api.Record, want []api.Record) {
	t.Helper()
	if got, e := match.Pick(x, l); !slices.EqualFunc(got, want, same) || e != api.OK {
		t.Errorf("%s: Pick of %+v, of %d: %+v, %d, want %+v", promise, x, len(l), got, e, want)
	}
}

func TestPick(t *testing.T) {
	l := []api.Record{
		full(),
		{At: 7, Key: "k", Value: "bar", Headers: []api.Header{}},
		{At: 5, Bare: true, Value: "foo", Time: 1 << 40},
		{At: 5, Gone: true, Key: "key"},
		{At: 7, Key: "k", Value: "bar"},
		{},
	}
	for _, c := range []struct {
		x    api.Expr
		want []api.Record
	}{
		{all(), l},
		{none(), nil},
		{has("h"), l[:1]},
		{not(has("h")), l[1:]},
		{prefix("k"), []api.Record{l[0], l[1], l[3], l[4]}},
		{prefix("key"), []api.Record{l[0], l[3]}},
		{word("Foo"), []api.Record{l[0], l[2]}},
		{word("bar"), []api.Record{l[1], l[4]}},
		{or(word("bar"), prefix("key")), []api.Record{l[0], l[1], l[3], l[4]}},
		{and(word("bar9"), prefix("key")), l[:1]},
		{not(or(prefix("k"), word("foo"))), l[5:]},
	} {
		wantPick(t, "P8.2", c.x, l, c.want)
		wantPick(t, "P8.3", c.x, c.want, c.want)
	}
	for _, x := range []api.Expr{all(), none(), word("foo")} {
		wantPick(t, "P8.2", x, nil, nil)
		wantPick(t, "P8.2", x, []api.Record{}, nil)
	}
}

func TestPickOfMany(t *testing.T) {
	l := make([]api.Record, 5000)
	var want []api.Record
	for i := range l {
		l[i] = api.Record{At: i % 50, Time: i, Key: string([]byte{byte('a' + i%3)}), Value: "a b c"}
		if i%3 == 1 {
			want = append(want, l[i])
		}
	}
	wantPick(t, "P8.2", and(prefix("b"), word("C")), l, want)
	wantPick(t, "P8.2", all(), l, l)
}

// letsThrough goes the way of the words of the chapter.
func letsThrough(x api.Expr, r api.Record) bool {
	var value *string
	for i := len(r.Headers) - 1; i >= 0; i-- {
		if r.Headers[i].Key == x.Name {
			value = &r.Headers[i].Value
		}
	}
	let := 0
	for _, kid := range x.Kids {
		if letsThrough(kid, r) {
			let++
		}
	}
	return []bool{
		true,
		let == len(x.Kids),
		let > 0,
		let == 0,
		value != nil,
		value != nil && *value == x.Value,
		!r.Bare && len(r.Key) >= len(x.Value) && r.Key[:min(len(r.Key), len(x.Value))] == x.Value,
		!r.Gone && slices.Contains(token.Words(r.Value), token.Fold(x.Value)),
	}[x.Op]
}

func one(r *rand.Rand, l ...string) string { return l[r.Intn(len(l))] }

func anyFilter(r *rand.Rand, levels int) api.Expr {
	op := r.Intn(8)
	if levels == 0 && op <= api.Not {
		op = api.Has + r.Intn(4)
	}
	switch op {
	case api.And, api.Or:
		x := api.Expr{Op: op}
		for range 2 + r.Intn(2) {
			x.Kids = append(x.Kids, anyFilter(r, levels-1))
		}
		return x
	case api.Not:
		return not(anyFilter(r, levels-1))
	case api.Has:
		return has(one(r, "h", "i", "j"))
	case api.Is:
		return is(one(r, "h", "i", "j"), one(r, "", "1", "2"))
	case api.Prefix:
		return prefix(one(r, "a", "b", "ab", "\xc3"))
	case api.Word:
		return word(one(r, "foo", "BAR", "é", "ba", "\xff"))
	}
	return all()
}

func anyRecord(r *rand.Rand) api.Record {
	rec := api.Record{At: r.Intn(50), Time: r.Intn(100), Key: one(r, "", "a", "ab", "b", "é"), Value: one(r, "", "foo", "Foo bar", "É,é", "\xfffoo\xff", "bar_")}
	switch r.Intn(4) {
	case 0:
		rec.Bare, rec.Key = true, ""
	case 1:
		rec.Gone, rec.Value = true, ""
	}
	for range r.Intn(4) {
		rec.Headers = append(rec.Headers, api.Header{Key: one(r, "h", "i", "j"), Value: one(r, "", "1", "2")})
	}
	return rec
}

func TestAnyFilters(t *testing.T) {
	r := rand.New(rand.NewSource(8))
	for range 4000 {
		x := anyFilter(r, 3-r.Intn(2))
		if expr.Check(x) != api.OK {
			if got, e := match.Match(x, api.Record{}); got || e != api.ErrArg {
				t.Fatalf("P8.1: Match of %+v: %v, %d", x, got, e)
			}
			continue
		}
		var l, want []api.Record
		for range r.Intn(12) {
			rec := anyRecord(r)
			wants := letsThrough(x, rec)
			if got, e := match.Match(x, rec); got != wants || e != api.OK {
				t.Fatalf("P8.1: Match of %+v, %+v: %v, %d, want %v", x, rec, got, e, wants)
			}
			l = append(l, rec)
			if wants {
				want = append(want, rec)
			}
		}
		wantPick(t, "P8.2", x, l, want)
		wantPick(t, "P8.3", x, want, want)
	}
}

// TestLaws holds filters against others that have to let just the same records through.
func TestLaws(t *testing.T) {
	r := rand.New(rand.NewSource(9))
	for range 3000 {
		a, b, c := anyFilter(r, 1), anyFilter(r, 1), anyFilter(r, 0)
		rec := anyRecord(r)
		for i, law := range [][2]api.Expr{
			{a, not(not(a))},
			{a, and(a, a)},
			{a, or(a, a)},
			{a, and(a, all())},
			{a, or(a, none())},
			{none(), and(a, none())},
			{all(), or(a, all())},
			{none(), and(a, not(a))},
			{all(), or(a, not(a))},
			{and(a, b), and(b, a)},
			{or(a, b), or(b, a)},
			{and(a, b, c), and(a, and(b, c))},
			{or(a, b, c), or(a, or(b, c))},
			{not(and(a, b)), or(not(a), not(b))},
			{not(or(a, b)), and(not(a), not(b))},
			{and(a, or(b, c)), or(and(a, b), and(a, c))},
			{or(a, and(b, c)), and(or(a, b), or(a, c))},
			{a, or(a, and(a, b))},
			{a, and(a, or(a, b))},
		} {
			one, e := match.Match(law[0], rec)
			other, f := match.Match(law[1], rec)
			if one != other || e != api.OK || f != api.OK {
				t.Fatalf("P8.3: law %d: %+v: %v, %d; %+v: %v, %d", i, law[0], one, e, law[1], other, f)
			}
		}
	}
}

// written is a text whose bytes can be changed.
func written(s string) (string, []byte) {
	b := []byte(s)
	return unsafe.String(&b[0], len(b)), b
}

// TestNewMemory changes all that was handed in to Pick, and then what it answered: neither changes the other, nor two answers one another.
func TestNewMemory(t *testing.T) {
	var texts [][]byte
	fresh := func(s string) string {
		w, b := written(s)
		texts = append(texts, b)
		return w
	}
	record := func() api.Record {
		headers := make([]api.Header, 0, 5)
		return api.Record{Key: fresh("key"), Value: fresh("value"), Headers: append(headers, api.Header{Key: fresh("h"), Value: fresh("1")}, api.Header{Key: fresh("i"), Value: fresh("2")})}
	}
	plain := api.Record{Key: "key", Value: "value", Headers: []api.Header{{Key: "h", Value: "1"}, {Key: "i", Value: "2"}}}
	l := []api.Record{record(), record()}
	l = append(l, l[0]) // with the same list as the first one
	got, _ := match.Pick(has("h"), l)
	again, _ := match.Pick(has("h"), l)
	for _, r := range got {
		_ = append(r.Headers[:2:cap(r.Headers)], slices.Repeat([]api.Header{{Key: "spare"}}, cap(r.Headers)-2)...)
	}
	if h := l[0].Headers[:3][2]; h != (api.Header{}) {
		t.Errorf("R5: Pick answers the spare room of what was handed in: %+v", h)
	}
	for _, b := range texts {
		for i := range b {
			b[i] = '!'
		}
	}
	for i := range l {
		l[i].Headers[0] = api.Header{Key: "other"}
		l[i] = api.Record{}
	}
	if !slices.EqualFunc(got, []api.Record{plain, plain, plain}, same) {
		t.Errorf("R5: Pick keeps what was handed in: %+v", got)
	}
	got[0].Headers[0].Key = "mine"
	got[0].Key = "mine"
	if !slices.EqualFunc(got[1:], []api.Record{plain, plain}, same) || !slices.EqualFunc(again, []api.Record{plain, plain, plain}, same) {
		t.Errorf("R5: answers share lists: %+v, %+v", got, again)
	}
}

func TestNothingIsChanged(t *testing.T) {
	x := and(or(has("h"), is("h", "1")), not(word("no")), prefix("k"))
	l := []api.Record{full(), {Key: "k"}, full()}
	r := full()
	match.Match(x, r)
	match.Pick(x, l)
	match.Pick(x, append(l, api.Record{At: -1}))
	if !reflect.DeepEqual(x, and(or(has("h"), is("h", "1")), not(word("no")), prefix("k"))) {
		t.Errorf("R5: the filter was changed: %+v", x)
	}
	if !reflect.DeepEqual(r, full()) || !reflect.DeepEqual(l, []api.Record{full(), {Key: "k"}, full()}) {
		t.Errorf("R5: the records were changed: %+v, %+v", r, l)
	}
}
