package expr_test

import (
	"math"
	"math/rand"
	"reflect"
	"slices"
	"strings"
	"testing"

	"flotsam/api"
	"flotsam/expr"
	"flotsam/varint"
)

func text(n int) string { return strings.Repeat("x", n) }

func and(l ...api.Expr) api.Expr { return api.Expr{Op: api.And, Kids: l} }

func or(l ...api.Expr) api.Expr { return api.Expr{Op: api.Or, Kids: l} }

func not(x api.Expr) api.Expr { return api.Expr{Op: api.Not, Kids: []api.Expr{x}} }

func has(name string) api.Expr { return api.Expr{Op: api.Has, Name: name} }

func is(name string, value string) api.Expr { return api.Expr{Op: api.Is, Name: name, Value: value} }

func prefix(value string) api.Expr { return api.Expr{Op: api.Prefix, Value: value} }

func word(value string) api.Expr { return api.Expr{Op: api.Word, Value: value} }

// alls are so many filters that let everything through.
func alls(n int) []api.Expr { return make([]api.Expr, n) }

// nots is x within so many of Not.
func nots(n int, x api.Expr) api.Expr {
	for range n {
		x = not(x)
	}
	return x
}

// full is a filter with all kinds of parts.
func full() api.Expr {
	return and(or(has("h"), is("i", "j"), is("k", "")), not(prefix("p")), word("w"), api.Expr{})
}

const fullText = "\x01\x04" + "\x02\x03" + "\x04\x02h" + "\x05\x02i\x02j" + "\x05\x02k\x00" + "\x03" + "\x06\x02p" + "\x07\x02w" + "\x00"

// mayBe are filters at the edges of what may be.
func mayBe() map[string]api.Expr {
	return map[string]api.Expr{
		"All":                      {},
		"All with no list":         {Kids: []api.Expr{}},
		"a full one":               full(),
		"And of two":               and(alls(2)...),
		"And of 29":                and(alls(29)...),
		"Or of two":                or(alls(2)...),
		"Or of 29":                 or(alls(29)...),
		"Not":                      not(api.Expr{}),
		"a Name of one byte":       has("h"),
		"a Name of 1000":           has(text(1000)),
		"Is of a Name of 1000":     is(text(1000), text(1000)),
		"Is of nothing":            is("h", ""),
		"Prefix of a byte":         prefix("\x00"),
		"Prefix of 1000":           prefix(text(1000)),
		"Word of a byte":           word("\xff"),
		"Word of 1000":             word(text(1000)),
		"Word that is no word":     word(" a,b "),
		"a Depth of six":           nots(5, api.Expr{}),
		"a Depth of six, late":     or(api.Expr{}, nots(4, has("h"))),
		"a Size of 30, and depth":  and(or(alls(14)...), or(alls(12)...), api.Expr{}),
		"30 parts, all but six":    nots(4, and(alls(25)...)),
		"many names":               and(slices.Repeat([]api.Expr{is(text(1000), text(1000))}, 29)...),
		"And of And and Or of Not": and(and(alls(2)...), or(not(has("a")), not(not(word("b"))))),
	}
}

// mayNot are filters just beyond those edges, or with what their kind does not have.
func mayNot() map[string]api.Expr {
	l := map[string]api.Expr{
		"And of none":               {Op: api.And},
		"And of an empty list":      {Op: api.And, Kids: []api.Expr{}},
		"And of one":                and(alls(1)...),
		"Or of none":                {Op: api.Or},
		"Or of one":                 or(alls(1)...),
		"Not of none":               {Op: api.Not},
		"Not of two":                {Op: api.Not, Kids: alls(2)},
		"a Size of 31":              and(alls(30)...),
		"a Size of 31, and depth":   and(or(alls(14)...), or(alls(13)...), api.Expr{}),
		"a Size far above":          or(alls(100000)...),
		"a Depth of seven":          nots(6, api.Expr{}),
		"a Depth of seven, late":    or(api.Expr{}, nots(5, has("h"))),
		"a Depth far above":         nots(100000, api.Expr{}),
		"no Name":                   has(""),
		"no Name with Is":           is("", "v"),
		"neither with Is":           is("", ""),
		"a Name of 1001":            has(text(1001)),
		"a Name of 1001 with Is":    is(text(1001), ""),
		"a Value of 1001 with Is":   is("h", text(1001)),
		"Prefix of nothing":         prefix(""),
		"Prefix of 1001":            prefix(text(1001)),
		"Word of nothing":           word(""),
		"Word of 1001":              word(text(1001)),
		"a wrong first kid":         and(has(""), api.Expr{}),
		"a wrong last kid":          and(api.Expr{}, or(api.Expr{}, word(""))),
		"a wrong kid of a kid":      not(not(not(not(not(prefix("")))))),
		"a wrong Op in a kid":       and(api.Expr{}, api.Expr{Op: 8}),
		"All with a kid":            {Kids: alls(1)},
		"And with a Name":           {Op: api.And, Name: "n", Kids: alls(2)},
		"And with a Value":          {Op: api.And, Value: "v", Kids: alls(2)},
		"Not with a Name, in a kid": and(api.Expr{}, api.Expr{Op: api.Not, Name: "n", Kids: alls(1)}),
	}
	for _, op := range []int{-1, 8, 9, 255, 256, 257, math.MinInt, math.MaxInt} {
		l["an Op that is none: "+varint.Put(op)] = api.Expr{Op: op}
		l["an Op that is none, with all: "+varint.Put(op)] = api.Expr{Op: op, Name: "n", Value: "v", Kids: alls(2)}
	}
	// What each kind needs not, one at a time.
	for _, x := range []api.Expr{{}, and(alls(2)...), or(alls(2)...), not(api.Expr{}), prefix("p"), word("w")} {
		x.Name = "n"
		l["a Name with "+string(rune('0'+x.Op))] = x
	}
	for _, x := range []api.Expr{{}, and(alls(2)...), or(alls(2)...), not(api.Expr{}), has("h")} {
		x.Value = "v"
		l["a Value with "+string(rune('0'+x.Op))] = x
	}
	for _, x := range []api.Expr{{}, has("h"), is("h", "v"), prefix("p"), word("w")} {
		x.Kids = alls(1)
		l["a kid with "+string(rune('0'+x.Op))] = x
		x.Kids = alls(2)
		l["two kids with "+string(rune('0'+x.Op))] = x
	}
	return l
}

// rounds are filters that are parts of their own: they have no end.
func rounds() map[string]api.Expr {
	one := alls(1)
	one[0] = api.Expr{Op: api.Not, Kids: one}
	two := alls(2)
	two[0], two[1] = and(two...), or(two...)
	two[0].Kids, two[1].Kids = two, two
	late := alls(3)
	late[1] = and(doubled(40), doubled(30))
	late[2] = api.Expr{Op: api.Or, Kids: late}
	ring := [][]api.Expr{alls(2), alls(2), alls(2)}
	for i := range ring {
		ring[i][1] = api.Expr{Op: api.And, Kids: ring[(i+1)%3]}
	}
	return map[string]api.Expr{"one round": one[0], "two rounds": two[1], "a late round": and(late...), "a ring": ring[0][1]}
}

// doubled is a filter of which each part has the same kids twice, so many levels of them.
func doubled(levels int) api.Expr {
	x := api.Expr{}
	for range levels - 1 {
		x = and(x, x)
	}
	return x
}

// same tells whether two filters are, with lists that are nil or empty as the same.
func same(a, b api.Expr) bool {
	return a.Op == b.Op && a.Name == b.Name && a.Value == b.Value && slices.EqualFunc(a.Kids, b.Kids, same)
}

func isZero(x api.Expr) bool { return same(x, api.Expr{}) }

// depthOf and sizeOf go the way of the words, without an end of their counting.
func depthOf(x api.Expr) int {
	n := 0
	for _, kid := range x.Kids {
		n = max(n, depthOf(kid))
	}
	return n + 1
}

func sizeOf(x api.Expr) int {
	n := 1
	for _, kid := range x.Kids {
		n += sizeOf(kid)
	}
	return n
}

// textOf writes a filter as it is, whether it may be or not.
func textOf(x api.Expr) string {
	s := string([]byte{byte(x.Op)})
	if x.Op == api.And || x.Op == api.Or {
		s += string([]byte{byte(len(x.Kids))})
	}
	if x.Op == api.Has || x.Op == api.Is {
		s += varint.Text(x.Name)
	}
	if x.Op == api.Is || x.Op == api.Prefix || x.Op == api.Word {
		s += varint.Text(x.Value)
	}
	for _, kid := range x.Kids {
		s += textOf(kid)
	}
	return s
}

func refused(t *testing.T, name string, s string, want api.Errno) {
	t.Helper()
	if x, e := expr.Parse(s); !isZero(x) || e != want {
		t.Errorf("P6.2: Parse of %s: %+v, %d, want nothing, %d", name, x, e, want)
	}
}

func TestDepthAndSize(t *testing.T) {
	for name, c := range map[string]struct {
		x           api.Expr
		depth, size int
	}{
		"All":                       {api.Expr{}, 1, 1},
		"Not":                       {not(api.Expr{}), 2, 2},
		"a full one":                {full(), 3, 9},
		"kids that may not be":      {api.Expr{Op: 77, Kids: []api.Expr{{Op: -1, Kids: alls(2)}, {}}}, 3, 5},
		"the deepest one first":     {or(nots(3, api.Expr{}), not(api.Expr{}), api.Expr{}), 5, 8},
		"the deepest one last":      {or(api.Expr{}, not(api.Expr{}), nots(3, api.Expr{})), 5, 8},
		"the deepest one between":   {or(api.Expr{}, nots(3, api.Expr{}), not(api.Expr{})), 5, 8},
		"99 deep":                   {nots(98, api.Expr{}), 99, 99},
		"100 deep":                  {nots(99, api.Expr{}), 100, 100},
		"101 deep":                  {nots(100, api.Expr{}), 100, 100},
		"102 deep":                  {nots(101, api.Expr{}), 100, 100},
		"very deep":                 {nots(100000, api.Expr{}), 100, 100},
		"99 wide":                   {or(alls(98)...), 2, 99},
		"100 wide":                  {or(alls(99)...), 2, 100},
		"101 wide":                  {or(alls(100)...), 2, 100},
		"very wide":                 {or(alls(100000)...), 2, 100},
		"very wide, then deep":      {or(append(alls(100000), nots(3, api.Expr{}))...), 5, 100},
		"wide below deep":           {nots(5, or(alls(1000)...)), 7, 100},
		"99 deep within two":        {or(api.Expr{}, nots(97, api.Expr{})), 99, 100},
		"100 deep within two":       {or(nots(98, api.Expr{}), api.Expr{}), 100, 100},
		"six levels of two":         {doubled(6), 6, 63},
		"seven levels of two":       {doubled(7), 7, 100},
		"60 levels of two":          {doubled(60), 60, 100},
		"99 levels of two":          {doubled(99), 99, 100},
		"100 levels of two":         {doubled(100), 100, 100},
		"1000 levels of two":        {doubled(1000), 100, 100},
		"60 levels, and 70 of them": {or(doubled(60), doubled(70), doubled(50)), 71, 100},
	} {
		if n := expr.Depth(c.x); n != c.depth {
			t.Errorf("P6.1: Depth of %s: %d, want %d", name, n, c.depth)
		}
		if n := expr.Size(c.x); n != c.size {
			t.Errorf("P6.1: Size of %s: %d, want %d", name, n, c.size)
		}
	}
	for name, x := range mayBe() {
		if d, n := expr.Depth(x), expr.Size(x); d != depthOf(x) || n != sizeOf(x) {
			t.Errorf("P6.1: Depth and Size of %s: %d, %d", name, d, n)
		}
	}
}

// TestSharedKids has the same list of kids at different depths, and parts of it: each way to it counts for itself.
func TestSharedKids(t *testing.T) {
	kids := []api.Expr{{}, nots(2, api.Expr{}), nots(4, api.Expr{})}
	for i, want := range []int{2, 4, 6} {
		x := and(kids[:i+1]...)
		if n := expr.Depth(x); n != want {
			t.Errorf("P6.1: Depth of the first %d kids: %d, want %d", i+1, n, want)
		}
		deeper := or(x, nots(9, x), not(x))
		if n := expr.Depth(deeper); n != want+10 {
			t.Errorf("P6.1: Depth of these, at three depths: %d, want %d", n, want+10)
		}
	}
	x := or(and(kids[:1]...), and(kids[:2]...), and(kids[1:2]...), and(kids[:1]...))
	if d, n := expr.Depth(x), expr.Size(x); d != 5 || n != 1+2+5+4+2 {
		t.Errorf("P6.1: Depth and Size of pieces of a list: %d, %d", d, n)
	}
	// As deep as is counted, by a way that is met behind a shorter one to the same part.
	shared := nots(60, api.Expr{})
	if n := expr.Depth(or(shared, nots(38, shared))); n != 100 {
		t.Errorf("P6.1: Depth of a part 40 deeper: %d", n)
	}
	if n := expr.Depth(or(shared, nots(36, shared))); n != 98 {
		t.Errorf("P6.1: Depth of a part 37 deeper: %d", n)
	}
}

func TestFiltersWithoutEnd(t *testing.T) {
	for name, x := range rounds() {
		if d, n := expr.Depth(x), expr.Size(x); d != 100 || n != 100 {
			t.Errorf("P6.1: Depth and Size of %s: %d, %d", name, d, n)
		}
		if e := expr.Check(x); e != api.ErrArg {
			t.Errorf("P6.1: Check of %s: %d", name, e)
		}
		if s, e := expr.Print(x); s != "" || e != api.ErrArg {
			t.Errorf("P6.2: Print of %s: %x, %d", name, s, e)
		}
	}
	for _, levels := range []int{7, 60, 1000} {
		if e := expr.Check(doubled(levels)); e != api.ErrArg {
			t.Errorf("P6.1: Check of %d levels of two: %d", levels, e)
		}
	}
}

func TestFiltersThatMayBe(t *testing.T) {
	for name, x := range mayBe() {
		if e := expr.Check(x); e != api.OK {
			t.Errorf("P6.1: Check of %s: %d", name, e)
		}
		s, e := expr.Print(x)
		if s != textOf(x) || e != api.OK {
			t.Errorf("P6.2: Print of %s: %x, %d", name, s, e)
		}
		if back, e := expr.Parse(s); !same(back, x) || e != api.OK {
			t.Errorf("P6.3: Parse of %s: %+v, %d", name, back, e)
		}
	}
}

func TestFiltersThatMayNotBe(t *testing.T) {
	for name, x := range mayNot() {
		if e := expr.Check(x); e != api.ErrArg {
			t.Errorf("P6.1: Check of %s: %d, want ErrArg", name, e)
		}
		if s, e := expr.Print(x); s != "" || e != api.ErrArg {
			t.Errorf("P6.2: Print of %s: %x, %d, want ErrArg", name, s, e)
		}
	}
}

func TestTexts(t *testing.T) {
	for _, c := range []struct {
		x api.Expr
		s string
	}{
		{api.Expr{}, "\x00"},
		{not(has("a")), "\x03\x04\x02a"},
		{full(), fullText},
		{and(api.Expr{}, or(alls(3)...)), "\x01\x02\x00\x02\x03\x00\x00\x00"},
		{is("name", "value"), "\x05\x08name\x0avalue"},
		{is("\x00", ""), "\x05\x02\x00\x00"},
		{prefix(text(64)), "\x06\x80\x01" + text(64)},
		{word("\xff\xfe"), "\x07\x04\xff\xfe"},
		{or(alls(29)...), "\x02\x1d" + strings.Repeat("\x00", 29)},
	} {
		if s, e := expr.Print(c.x); s != c.s || e != api.OK {
			t.Errorf("P6.2: Print of %+v: %x, %d, want %x", c.x, s, e, c.s)
		}
		if x, e := expr.Parse(c.s); !same(x, c.x) || e != api.OK {
			t.Errorf("P6.2: Parse of %x: %+v, %d, want %+v", c.s, x, e, c.x)
		}
	}
}

func TestParseOfTextsThatAreCutOff(t *testing.T) {
	for name, x := range mayBe() {
		s := textOf(x)
		for n := 0; n < len(s); n += 1 + len(s)/500 {
			refused(t, name+", cut off", s[:n], api.ErrCut)
		}
		refused(t, name+", without its last byte", s[:len(s)-1], api.ErrCut)
		refused(t, name+", and a byte", s+"\x00", api.ErrForm)
		refused(t, name+", twice", s+s, api.ErrForm)
	}
}

// TestFirstErrorIsTold has texts with two faults: the one that stands first is told, but what only the end tells comes last.
func TestFirstErrorIsTold(t *testing.T) {
	zeros := func(n int) string { return strings.Repeat("\x00", n) }
	wide := "\x01\x10\x01\x0e" + zeros(14) // 16 parts, and 15 more to come
	for _, c := range []struct {
		name string
		s    string
		e    api.Errno
	}{
		{"nothing", "", api.ErrCut},
		{"an Op of 8", "\x08", api.ErrForm},
		{"an Op of 255", "\xff", api.ErrForm},
		{"an Op that is none, in a kid, then an end", "\x01\x03\x00\x08", api.ErrForm},
		{"And without a count", "\x01", api.ErrCut},
		{"Or without a count", "\x02", api.ErrCut},
		{"And of 0", "\x01\x00", api.ErrForm},
		{"Or of 0", "\x02\x00", api.ErrForm},
		{"And of one, and no more", "\x01\x01", api.ErrForm},
		{"Or of one", "\x02\x01\x00", api.ErrForm},
		{"And of 31, and no more", "\x01\x1f", api.ErrForm},
		{"Or of 255, and no more", "\x02\xff", api.ErrForm},
		{"And of 30, and no more", "\x01\x1e", api.ErrCut},
		{"And of 30, with 29", "\x01\x1e" + zeros(29), api.ErrCut},
		{"And of 30", "\x01\x1e" + zeros(30), api.ErrForm},
		{"the 31st part, an Op that is none", "\x01\x1e" + zeros(29) + "\x09", api.ErrForm},
		{"the 31st part, behind kids", wide + zeros(15), api.ErrForm},
		{"30 parts, and no more of them", wide + zeros(14), api.ErrCut},
		{"the 31st part, and its count is missing", "\x02\x1e" + zeros(29) + "\x01", api.ErrForm},
		{"a part seven deep", "\x03\x03\x03\x03\x03\x03\x00", api.ErrForm},
		{"a part seven deep, an end", "\x03\x03\x03\x03\x03\x03", api.ErrCut},
		{"a part seven deep that is cut off", "\x03\x03\x03\x03\x03\x03\x04", api.ErrForm},
		{"And six deep, without a count", "\x03\x03\x03\x03\x03\x01", api.ErrCut},
		{"And six deep, of one", "\x03\x03\x03\x03\x03\x01\x01", api.ErrForm},
		{"And six deep, an end", "\x03\x03\x03\x03\x03\x01\x02", api.ErrCut},
		{"And six deep, and a kid", "\x03\x03\x03\x03\x03\x01\x02\x00", api.ErrForm},
		{"Has, an end", "\x04", api.ErrCut},
		{"Has, a length that is cut off", "\x04\x80", api.ErrCut},
		{"Has, a length that is too long", "\x04\x80\x00", api.ErrForm},
		{"Has, a length below 0", "\x04\x01", api.ErrForm},
		{"Has, a length of 1000, an end", "\x04" + varint.Put(1000), api.ErrCut},
		{"Has, a length of 1001, an end", "\x04" + varint.Put(1001), api.ErrForm},
		{"Has, a name of 1001", "\x04" + varint.Text(text(1001)), api.ErrForm},
		{"Is, a name, an end", "\x05\x02a", api.ErrCut},
		{"Is, half a name", "\x05\x04a", api.ErrCut},
		{"Is, a name of 1001, an end", "\x05" + varint.Put(1001), api.ErrForm},
		{"Is, a value of 1001, an end", "\x05\x02a" + varint.Put(1001), api.ErrForm},
		{"Is, a value of 1000, an end", "\x05\x02a" + varint.Put(1000), api.ErrCut},
		{"Is, a value below 0", "\x05\x02a\x03", api.ErrForm},
		{"Prefix, an end", "\x06", api.ErrCut},
		{"Prefix, a value of 1001, an end", "\x06" + varint.Put(1001), api.ErrForm},
		{"Word, a value of 1001, an end", "\x07" + varint.Put(1001), api.ErrForm},
		{"Word, half a value", "\x07\x06ab", api.ErrCut},
		{"Has of no name", "\x04\x00", api.ErrForm},
		{"Is of no name", "\x05\x00\x02a", api.ErrForm},
		{"Prefix of nothing", "\x06\x00", api.ErrForm},
		{"Word of nothing", "\x07\x00", api.ErrForm},
		{"Has of no name, then an end", "\x01\x02\x04\x00", api.ErrCut},
		{"Is of no name, then an end", "\x05\x00", api.ErrCut},
		{"Prefix of nothing, then an end", "\x02\x02\x06\x00\x07\x02", api.ErrCut},
		{"Word of nothing, and a byte", "\x07\x00\x00", api.ErrForm},
		{"a byte behind", "\x00\x00", api.ErrForm},
		{"a wrong byte behind", "\x03\x00\x08", api.ErrForm},
		{"Not of one too many", "\x03\x00\x00", api.ErrForm},
	} {
		refused(t, c.name, c.s, c.e)
	}
}

// model tells what Parse of a text is to answer, but for the filter: it goes from byte to byte, and keeps in todo how many kids are yet to come at each level.
func model(s string) api.Errno {
	at, parts, bad := 0, 0, false
	take := func(empty bool) api.Errno {
		n, place, e := varint.Get(s, at)
		switch {
		case e != api.OK:
			return e
		case n < 0 || n > 1000:
			return api.ErrForm
		case len(s) < place+n:
			return api.ErrCut
		}
		at, bad = place+n, bad || n == 0 && !empty
		return api.OK
	}
	todo := []int{1}
	for len(todo) > 0 {
		if todo[len(todo)-1] == 0 {
			todo = todo[:len(todo)-1]
			continue
		}
		todo[len(todo)-1]--
		if at >= len(s) {
			return api.ErrCut
		}
		op := s[at]
		at++
		parts++
		if len(todo) > 6 || parts > 30 || op > 7 {
			return api.ErrForm
		}
		var e api.Errno
		switch op {
		case 1, 2:
			if at >= len(s) {
				return api.ErrCut
			}
			if s[at] < 2 || s[at] > 30 {
				return api.ErrForm
			}
			todo = append(todo, int(s[at]))
			at++
		case 3:
			todo = append(todo, 1)
		case 4, 6, 7:
			e = take(false)
		case 5:
			if e = take(false); e == api.OK {
				e = take(true)
			}
		}
		if e != api.OK {
			return e
		}
	}
	if bad || at < len(s) {
		return api.ErrForm
	}
	return api.OK
}

func parsed(t *testing.T, s string) api.Errno {
	t.Helper()
	x, e := expr.Parse(s)
	if want := model(s); e != want {
		t.Fatalf("P6.2: Parse of %x: %d, want %d", s, e, want)
	}
	if e != api.OK {
		if !isZero(x) {
			t.Fatalf("P6.2: Parse of %x: %+v beside %d", s, x, e)
		}
		return e
	}
	if f := expr.Check(x); f != api.OK {
		t.Fatalf("P6.2: Parse of %x: %+v, Check %d", s, x, f)
	}
	if again, f := expr.Print(x); again != s || f != api.OK {
		t.Fatalf("P6.3: Parse of %x: %+v: printed %x, %d", s, x, again, f)
	}
	return e
}

// TestAllShortTexts goes through all texts of few bytes, of those that tell something.
func TestAllShortTexts(t *testing.T) {
	const some = "\x00\x01\x02\x03\x04\x05\x06\x07\x08\x1e\x80"
	var all func(s string, more int)
	all = func(s string, more int) {
		parsed(t, s)
		if more == 0 {
			return
		}
		for i := range len(some) {
			all(s+some[i:i+1], more-1)
		}
	}
	all("", 5)
	for a := range 256 {
		for b := range 256 {
			parsed(t, string([]byte{byte(a), byte(b)}))
			parsed(t, string([]byte{1, 2, byte(a), byte(b)}))
		}
	}
}

func someText(r *rand.Rand, least int) string {
	b := make([]byte, least+r.Intn(6))
	r.Read(b)
	return string(b)
}

// someFilter is one of any kind, of which kids are as deep as is left; it may have too many parts.
func someFilter(r *rand.Rand, left int) api.Expr {
	ops := []int{api.All, api.Has, api.Is, api.Prefix, api.Word}
	if left > 1 && r.Intn(3) > 0 {
		ops = []int{api.And, api.Or, api.Not}
	}
	x := api.Expr{Op: ops[r.Intn(len(ops))]}
	switch x.Op {
	case api.And, api.Or:
		for range 2 + r.Intn(3) {
			x.Kids = append(x.Kids, someFilter(r, left-1))
		}
	case api.Not:
		x.Kids = append(x.Kids, someFilter(r, left-1))
	case api.Has:
		x.Name = someText(r, 1)
	case api.Is:
		x.Name, x.Value = someText(r, 1), someText(r, 0)
	case api.Prefix, api.Word:
		x.Value = someText(r, 1)
	}
	return x
}

func TestSomeFilters(t *testing.T) {
	r := rand.New(rand.NewSource(1))
	good, bad := 0, 0
	for range 20000 {
		x := someFilter(r, 1+r.Intn(7))
		d, n := depthOf(x), sizeOf(x)
		if expr.Depth(x) != min(d, 100) || expr.Size(x) != min(n, 100) {
			t.Fatalf("P6.1: Depth and Size of %+v: %d, %d, want %d, %d", x, expr.Depth(x), expr.Size(x), d, n)
		}
		want, s := api.OK, textOf(x)
		if d > 6 || n > 30 {
			want, s = api.ErrArg, ""
			bad++
		} else {
			good++
		}
		if e := expr.Check(x); e != want {
			t.Fatalf("P6.1: Check of %+v: %d, want %d", x, e, want)
		}
		if got, e := expr.Print(x); got != s || e != want {
			t.Fatalf("P6.2: Print of %+v: %x, %d, want %x, %d", x, got, e, s, want)
		}
		if want != api.OK {
			refused(t, "one that may not be", textOf(x), api.ErrForm)
		} else if back, e := expr.Parse(s); !same(back, x) || e != api.OK {
			t.Fatalf("P6.3: Parse of %x: %+v, %d, want %+v", s, back, e, x)
		}
	}
	if good < 100 || bad < 100 {
		t.Errorf("only %d that may be, and %d that may not", good, bad)
	}
}

// TestTextsThatAreTurned changes bytes of texts, cuts them off or adds some: what is parsed then is what those bytes are of, all else is nothing.
func TestTextsThatAreTurned(t *testing.T) {
	r := rand.New(rand.NewSource(2))
	count := map[api.Errno]int{}
	for range 200000 {
		b := []byte(textOf(someFilter(r, 1+r.Intn(6))))
		if r.Intn(3) == 0 {
			b = []byte(fullText)
		}
		switch r.Intn(6) {
		case 0:
			b = b[:r.Intn(len(b)+1)]
		case 1:
			b = append(b, someText(r, 1)...)
		default:
			for range 1 + r.Intn(3) {
				b[r.Intn(len(b))] = byte(r.Intn(10) * (1 + 25*r.Intn(2)))
			}
		}
		count[parsed(t, string(b))]++
	}
	if count[api.OK] < 100 || count[api.ErrCut] < 100 || count[api.ErrForm] < 100 || len(count) != 3 {
		t.Errorf("P6.2: answered: %v", count)
	}
}

func TestNothingIsChanged(t *testing.T) {
	x := full()
	x.Kids = append(make([]api.Expr, 0, 9), x.Kids...)
	expr.Check(x)
	expr.Print(x)
	expr.Depth(x)
	expr.Size(x)
	if !same(x, full()) || !reflect.DeepEqual(x.Kids[:9][4:], make([]api.Expr, 5)) {
		t.Errorf("R5: the filter that was handed in is now %+v", x)
	}
}

// spoil overwrites all lists of a filter, and their spare room.
func spoil(x api.Expr) {
	for _, kid := range x.Kids {
		spoil(kid)
	}
	l := x.Kids[:cap(x.Kids)]
	for i := range l {
		l[i] = api.Expr{Op: api.Word, Name: "spoilt"}
	}
}

func TestAnswersAreNewMemory(t *testing.T) {
	one, _ := expr.Parse(fullText)
	other, _ := expr.Parse(fullText)
	spoil(one)
	if !same(other, full()) {
		t.Errorf("R5: two answers share lists: %+v", other)
	}
	twins := and(not(has("a")), not(has("a")), or(has("b"), has("c")))
	s, _ := expr.Print(twins)
	x, _ := expr.Parse(s)
	for i := range x.Kids {
		spoil(x.Kids[i])
		for j := range x.Kids {
			if j > i && !same(x.Kids[j], twins.Kids[j]) {
				t.Errorf("R5: kids %d and %d share lists: %+v", i, j, x.Kids[j])
			}
		}
	}
}
