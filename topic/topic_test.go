package topic_test

import (
	"fmt"
	"math"
	"slices"
	"strings"
	"testing"
	"unsafe"

	"flotsam/api"
	"flotsam/topic"
)

// endOfIDs is the next id when all have been given.
const endOfIDs = 1 << 30

// creates has a topic made, want is its id.
func creates(t *testing.T, x *topic.Table, name string, parts int, want int) {
	t.Helper()
	if id, e := x.Create(name, parts); id != want || e != api.OK {
		t.Errorf("P18.2: Create of %q, %d: %d, %d, want %d, OK", name, parts, id, e, want)
	}
	finds(t, "P18.2: created", x, name, want, parts)
}

// createsNot tells also that nothing has changed.
func createsNot(t *testing.T, what string, x *topic.Table, name string, parts int, want api.Errno) {
	t.Helper()
	ahead := x.Print()
	if id, e := x.Create(name, parts); id != 0 || e != want {
		t.Errorf("P18.2: %s: Create of %q, %d: %d, %d, want 0, %d", what, name, parts, id, e, want)
	}
	prints(t, "P18.2: "+what, x, ahead)
}

func deletes(t *testing.T, x *topic.Table, name string, want int) {
	t.Helper()
	if id, e := x.Delete(name); id != want || e != api.OK {
		t.Errorf("P18.2: Delete of %q: %d, %d, want %d, OK", name, id, e, want)
	}
	findsNot(t, "P18.2: deleted", x, name, api.ErrNone)
}

func deletesNot(t *testing.T, what string, x *topic.Table, name string, want api.Errno) {
	t.Helper()
	ahead := x.Print()
	if id, e := x.Delete(name); id != 0 || e != want {
		t.Errorf("P18.2: %s: Delete of %q: %d, %d, want 0, %d", what, name, id, e, want)
	}
	prints(t, "P18.2: "+what, x, ahead)
}

func finds(t *testing.T, what string, x *topic.Table, name string, id int, parts int) {
	t.Helper()
	if i, p, e := x.Find(name); i != id || p != parts || e != api.OK {
		t.Errorf("%s: Find of %q: %d, %d, %d, want %d, %d, OK", what, name, i, p, e, id, parts)
	}
}

func findsNot(t *testing.T, what string, x *topic.Table, name string, want api.Errno) {
	t.Helper()
	if i, p, e := x.Find(name); i != 0 || p != 0 || e != want {
		t.Errorf("%s: Find of %q: %d, %d, %d, want 0, 0, %d", what, name, i, p, e, want)
	}
}

// lists holds a table against the names and the parts that it has to have: "a3 b1".
func lists(t *testing.T, what string, x *topic.Table, want string) {
	t.Helper()
	var l []string
	for _, one := range x.List() {
		l = append(l, fmt.Sprint(one.Name, one.Parts))
	}
	if s := strings.Join(l, " "); s != want {
		t.Errorf("%s: List: %q, want %q", what, s, want)
	}
}

func prints(t *testing.T, what string, x *topic.Table, want string) {
	t.Helper()
	if s := x.Print(); s != want {
		t.Errorf("%s: Print: %x, want %x", what, s, want)
	}
}

// within tells whether a text's bytes lie within those of another one.
func within(s string, whole string) bool {
	first := uintptr(unsafe.Pointer(unsafe.StringData(whole)))
	at := uintptr(unsafe.Pointer(unsafe.StringData(s)))
	return at >= first && at < first+uintptr(len(whole))
}

// TestExample is example 1 of the chapter.
func TestExample(t *testing.T) {
	x := topic.New()
	creates(t, x, "a", 3, 0)
	deletes(t, x, "a", 0)
	creates(t, x, "a", 3, 1)
}

func TestNew(t *testing.T) {
	x, y := topic.New(), topic.New()
	if x == nil || y == nil {
		t.Fatal("P18.1: New: nil")
	}
	lists(t, "P18.1: a new one", x, "")
	prints(t, "P18.1: a new one", x, "\x00\x00")
	findsNot(t, "P18.1: a new one", x, "a", api.ErrNone)
	findsNot(t, "P18.1: a new one", x, "", api.ErrNone)
	deletesNot(t, "a new one", x, "a", api.ErrNone)
	// Each is one of its own.
	creates(t, x, "a", 3, 0)
	lists(t, "P18.1: another one", y, "")
	creates(t, y, "b", 1, 0)
	lists(t, "P18.1: apart", x, "a3")
	lists(t, "P18.1: apart", y, "b1")
}

func TestNil(t *testing.T) {
	var x *topic.Table
	for _, name := range []string{"", "a", strings.Repeat("x", 100), strings.Repeat("x", 101)} {
		for _, parts := range []int{-1, 0, 1, 16, 17} {
			createsNot(t, "nil", x, name, parts, api.ErrArg)
		}
		deletesNot(t, "nil", x, name, api.ErrArg)
		findsNot(t, "P18.1: nil", x, name, api.ErrArg)
	}
	lists(t, "P18.1: nil", x, "")
	prints(t, "P18.1: nil", x, "\x00\x00")
}

// TestNotMadeByNew has a table that nobody promised anything of: but no call panics (R1).
func TestNotMadeByNew(t *testing.T) {
	x := &topic.Table{}
	for range 2 {
		x.Find("a")
		x.List()
		x.Print()
		x.Create("a", 3)
		x.Create("b", 3)
		x.Delete("a")
	}
}

func TestCreateNames(t *testing.T) {
	long := strings.Repeat("x", 100)
	names := []string{"a", "ab", long[1:], long, "\x00", "\xff\xfe", " ", strings.Repeat("é", 50)}
	x := topic.New()
	for i, name := range names {
		findsNot(t, "P18.2: ahead of it", x, name, api.ErrNone)
		creates(t, x, name, 1+i, i)
	}
	for _, name := range []string{"", long + "x", strings.Repeat("é", 51), strings.Repeat("x", 5000)} {
		for _, parts := range []int{0, 1, 16, 17} {
			createsNot(t, "a name that may not be", x, name, parts, api.ErrArg)
		}
		deletesNot(t, "a name that may not be", x, name, api.ErrNone)
		findsNot(t, "P18.2: a name that may not be", x, name, api.ErrNone)
	}
	for i, name := range names {
		finds(t, "P18.2", x, name, i, 1+i)
	}
}

func TestCreateParts(t *testing.T) {
	x := topic.New()
	for i, parts := range []int{1, 2, 15, 16} {
		creates(t, x, fmt.Sprint("t", parts), parts, i)
	}
	for _, parts := range []int{math.MinInt, -1, 0, 17, 18, math.MaxInt} {
		createsNot(t, "parts that may not be", x, "u", parts, api.ErrArg)
		createsNot(t, "parts that may not be, of a name that is there", x, "t1", parts, api.ErrArg)
	}
	lists(t, "P18.2", x, "t11 t1515 t1616 t22")
	creates(t, x, "u", 16, 4)
}

func TestCreateThere(t *testing.T) {
	x := topic.New()
	creates(t, x, "a", 3, 0)
	creates(t, x, "b", 1, 1)
	for _, parts := range []int{1, 3, 16} {
		createsNot(t, "one is there", x, "a", parts, api.ErrThere)
		createsNot(t, "one is there", x, "b", parts, api.ErrThere)
	}
	finds(t, "P18.2: one is there", x, "a", 0, 3)
	// None of these is a, or b.
	for i, name := range []string{"A", "aa", "a\x00", "ab", " a"} {
		creates(t, x, name, 2, 2+i)
	}
	deletes(t, x, "a", 0)
	creates(t, x, "a", 5, 7)
	createsNot(t, "one is there again", x, "a", 5, api.ErrThere)
}

func TestCreateFull(t *testing.T) {
	x := topic.New()
	for i := range 20 {
		creates(t, x, fmt.Sprint("t", i), 1+i%16, i)
	}
	if n := len(x.List()); n != 20 {
		t.Fatalf("P18.2: %d topics", n)
	}
	createsNot(t, "the 21st", x, "a", 1, api.ErrFull)
	createsNot(t, "the 21st", x, "z", 16, api.ErrFull)
	createsNot(t, "full, and a name that may not be", x, "", 1, api.ErrArg)
	createsNot(t, "full, and parts that may not be", x, "z", 0, api.ErrArg)
	createsNot(t, "full, and one is there", x, "t7", 1, api.ErrThere)
	deletes(t, x, "t7", 7)
	// What was refused has been given no id.
	creates(t, x, "z", 2, 20)
	createsNot(t, "full again", x, "t7", 1, api.ErrFull)
	deletes(t, x, "z", 20)
	creates(t, x, "t7", 3, 21)
	createsNot(t, "full again", x, "z", 2, api.ErrFull)
}

// TestCreateLastID: behind the last id there is none, whatever goes.
func TestCreateLastID(t *testing.T) {
	x := parsed(t, text(endOfIDs-2, 0))
	creates(t, x, "a", 1, endOfIDs-2)
	creates(t, x, "b", 2, endOfIDs-1)
	createsNot(t, "no more ids", x, "c", 1, api.ErrFull)
	createsNot(t, "no more ids, one is there", x, "b", 1, api.ErrThere)
	createsNot(t, "no more ids, parts that may not be", x, "c", 17, api.ErrArg)
	createsNot(t, "no more ids, a name that may not be", x, "", 1, api.ErrArg)
	deletes(t, x, "b", endOfIDs-1)
	createsNot(t, "no more ids, the last one free", x, "b", 2, api.ErrFull)
	deletes(t, x, "a", endOfIDs-2)
	createsNot(t, "no more ids, and none is there", x, "a", 1, api.ErrFull)
	prints(t, "P18.2: no more ids", x, text(endOfIDs, 0))
	createsNot(t, "no more ids", parsed(t, text(endOfIDs, 0)), "a", 1, api.ErrFull)
}

func TestDeleteAndFind(t *testing.T) {
	x := topic.New()
	for i, name := range []string{"b", "a", "c"} {
		creates(t, x, name, 10+i, i)
	}
	for _, name := range []string{"", "A", "aa", "d", "a\x00", strings.Repeat("a", 101)} {
		deletesNot(t, "none such", x, name, api.ErrNone)
		findsNot(t, "P18.2: none such", x, name, api.ErrNone)
	}
	deletes(t, x, "a", 1)
	deletesNot(t, "gone", x, "a", api.ErrNone)
	finds(t, "P18.2: another one", x, "b", 0, 10)
	finds(t, "P18.2: another one", x, "c", 2, 12)
	lists(t, "P18.2: gone", x, "b10 c12")
	prints(t, "P18.2: gone", x, text(3, 2, "b", 0, 10, "c", 2, 12))
	deletes(t, x, "c", 2)
	deletes(t, x, "b", 0)
	lists(t, "P18.2: all gone", x, "")
	prints(t, "P18.2: all gone", x, text(3, 0))
	creates(t, x, "c", 1, 3)
}

func TestList(t *testing.T) {
	want := []string{"\x00", "A", "B", "a", "a\x00", "a b", "aa", "b", "ba", "z", "é", "\xff", "\xff\x00"}
	slices.Sort(want)
	for shift := range want {
		x := topic.New()
		for i := range want {
			// Five apart, so that they come neither in their order nor in its reverse.
			n := (5*i + shift) % len(want)
			creates(t, x, want[n], n+1, i)
		}
		var topics []api.Topic
		for i, name := range want {
			topics = append(topics, api.Topic{Name: name, Parts: i + 1})
		}
		l := x.List()
		if !slices.Equal(l, topics) {
			t.Fatalf("P18.2: List: %v, want %v", l, topics)
		}
		clear(l)
		if !slices.Equal(x.List(), topics) {
			t.Fatalf("R5: a List is shared: %v", x.List())
		}
	}
}

// TestMemory: names are kept and told as copies.
func TestMemory(t *testing.T) {
	x := topic.New()
	name := strings.Repeat("name", 5)
	given := []byte(name)
	creates(t, x, unsafe.String(&given[0], len(given)), 1, 0)
	// A name whose bytes change is none that Go's own code hands in: but what has not kept it does not see that.
	clear(given)
	finds(t, "R5: a name is not kept", x, name, 0, 1)
	if first, again := x.List()[0].Name, x.List()[0].Name; first != name || within(again, first) {
		t.Errorf("R5: a name is kept, or answered twice: %q", first)
	}
	s := []byte(x.Print())
	y := parsed(t, unsafe.String(&s[0], len(s)))
	clear(s)
	finds(t, "R5: a text is not kept", y, name, 0, 1)
	lists(t, "R5: a text is not kept", y, name+"1")
}

// TestIDs: none is given twice, whatever goes between.
func TestIDs(t *testing.T) {
	x := topic.New()
	next := 0
	for round := range 30 {
		for i := range 20 {
			name := fmt.Sprint("t", i)
			if _, _, e := x.Find(name); e == api.ErrNone {
				creates(t, x, name, 1, next)
				next++
			}
		}
		for i := round % 3; i < 20; i += 1 + round%4 {
			if _, e := x.Delete(fmt.Sprint("t", i)); e != api.OK {
				t.Errorf("P18.4: Delete of t%d: %d", i, e)
			}
		}
		if round%5 == 0 {
			x = parsed(t, x.Print())
		}
	}
	if next < 200 {
		t.Errorf("P18.4: %d ids alone", next)
	}
}
