package assign_test

import (
	"fmt"
	"math"
	"reflect"
	"slices"
	"strings"
	"testing"

	"flotsam/api"
	"flotsam/assign"
)

// topMember is the greatest number of a member.
const topMember = 1 << 30

// wants is a member, and the topics that it wants: words with blanks between them.
func wants(member int, topics string) api.Sub {
	return api.Sub{Member: member, Topics: strings.Fields(topics)}
}

// topics are some by their names, each with so many partitions.
func topics(names string, parts ...int) []api.Topic {
	var l []api.Topic
	for i, name := range strings.Fields(names) {
		l = append(l, api.Topic{Name: name, Parts: parts[i]})
	}
	return l
}

// told is shares as a text: "1: a0 a1 b0; 2: a2".
func told(l []api.Share) string {
	var all []string
	for _, s := range l {
		one := fmt.Sprint(s.Member, ":")
		for _, p := range s.Parts {
			one += fmt.Sprint(" ", p.Topic, p.Index)
		}
		all = append(all, one)
	}
	return strings.Join(all, "; ")
}

// dealt holds Range and Round against what they have to be, and tells that such members and topics may be.
func dealt(t *testing.T, what string, subs []api.Sub, topics []api.Topic, ranged string, round string) {
	t.Helper()
	if e := assign.Check(subs, topics); e != api.OK {
		t.Errorf("P14.1: %s: Check: %d", what, e)
	}
	if l, e := assign.Range(subs, topics); told(l) != ranged || e != api.OK {
		t.Errorf("P14.2: %s: Range: %q, %d, want %q", what, told(l), e, ranged)
	}
	if l, e := assign.Round(subs, topics); told(l) != round || e != api.OK {
		t.Errorf("P14.3: %s: Round: %q, %d, want %q", what, told(l), e, round)
	}
}

func refused(t *testing.T, what string, subs []api.Sub, topics []api.Topic) {
	t.Helper()
	if e := assign.Check(subs, topics); e != api.ErrArg {
		t.Errorf("P14.1: %s: Check: %d, want ErrArg", what, e)
	}
	if l, e := assign.Range(subs, topics); len(l) != 0 || e != api.ErrArg {
		t.Errorf("P14.2: %s: Range: %+v, %d, want ErrArg", what, l, e)
	}
	if l, e := assign.Round(subs, topics); len(l) != 0 || e != api.ErrArg {
		t.Errorf("P14.3: %s: Round: %+v, %d, want ErrArg", what, l, e)
	}
}

func TestExample(t *testing.T) {
	dealt(t, "example 1", []api.Sub{wants(1, "t"), wants(2, "t")}, topics("t", 3), "1: t0 t1; 2: t2", "1: t0 t2; 2: t1")
}

func TestNothing(t *testing.T) {
	for _, subs := range [][]api.Sub{nil, {}} {
		for _, l := range [][]api.Topic{nil, {}, topics("a b", 1, 16)} {
			dealt(t, "no members", subs, l, "", "")
		}
	}
	for _, l := range [][]api.Topic{nil, {}} {
		dealt(t, "no topics", []api.Sub{wants(3, ""), wants(4, "a")}, l, "3:; 4:", "3:; 4:")
	}
	dealt(t, "topics that nobody wants", []api.Sub{wants(3, ""), wants(4, "c x")}, topics("a b", 3, 2), "3:; 4:", "3:; 4:")
	dealt(t, "topics that nobody wants among others", []api.Sub{wants(3, "b"), wants(4, "b d")}, topics("a b c d e", 3, 2, 5, 2, 1), "3: b0; 4: b1 d0 d1", "3: b0; 4: b1 d0 d1")
	dealt(t, "a member that wants nothing", []api.Sub{wants(3, "a"), {Member: 4, Topics: []string{}}, wants(5, "a")}, topics("a", 3), "3: a0 a1; 4:; 5: a2", "3: a0 a2; 4:; 5: a1")
	dealt(t, "topics that are not there", []api.Sub{wants(3, "A a b"), wants(4, "a aa")}, topics("a", 3), "3: a0 a1; 4: a2", "3: a0 a2; 4: a1")
}

func TestRange(t *testing.T) {
	three := []api.Sub{wants(0, "a b"), wants(7, "a b"), wants(topMember, "a b")}
	for _, c := range []struct {
		what string
		subs []api.Sub
		l    []api.Topic
		want string
	}{
		{"one member", []api.Sub{wants(9, "a")}, topics("a", 4), "9: a0 a1 a2 a3"},
		{"nothing left over", three, topics("a", 6), "0: a0 a1; 7: a2 a3; 1073741824: a4 a5"},
		{"one left over", three, topics("a", 7), "0: a0 a1 a2; 7: a3 a4; 1073741824: a5 a6"},
		{"two left over", three, topics("a", 8), "0: a0 a1 a2; 7: a3 a4 a5; 1073741824: a6 a7"},
		{"more members than partitions", three, topics("a", 2), "0: a0; 7: a1; 1073741824:"},
		{"more members than partitions, twice: both begin with the first taker", three, topics("a b", 1, 2), "0: a0 b0; 7: b1; 1073741824:"},
		{"topic by topic", three, topics("a b", 4, 5), "0: a0 a1 b0 b1; 7: a2 b2 b3; 1073741824: a3 b4"},
		{"other takers", []api.Sub{wants(1, "b"), wants(2, "a"), wants(3, "a b"), wants(4, "b")}, topics("a b", 3, 5), "1: b0 b1; 2: a0 a1; 3: a2 b2 b3; 4: b4"},
		{"sixteen", []api.Sub{wants(1, "a"), wants(2, "a"), wants(3, "a"), wants(4, "a"), wants(5, "a")}, topics("a", 16), "1: a0 a1 a2 a3; 2: a4 a5 a6; 3: a7 a8 a9; 4: a10 a11 a12; 5: a13 a14 a15"},
	} {
		if l, e := assign.Range(c.subs, c.l); told(l) != c.want || e != api.OK {
			t.Errorf("P14.2: %s: %q, %d, want %q", c.what, told(l), e, c.want)
		}
	}
}

func TestRound(t *testing.T) {
	three := []api.Sub{wants(0, "a b"), wants(7, "a b"), wants(topMember, "a b")}
	for _, c := range []struct {
		what string
		subs []api.Sub
		l    []api.Topic
		want string
	}{
		{"one member", []api.Sub{wants(9, "a b")}, topics("a b", 2, 2), "9: a0 a1 b0 b1"},
		{"round about", three, topics("a", 7), "0: a0 a3 a6; 7: a1 a4; 1073741824: a2 a5"},
		{"more members than partitions", three, topics("a", 2), "0: a0; 7: a1; 1073741824:"},
		{"the next topic goes on behind the last one", three, topics("a b", 2, 2), "0: a0 b1; 7: a1; 1073741824: b0"},
		{"the next topic goes on behind the last one, round about", three, topics("a b", 3, 2), "0: a0 b0; 7: a1 b1; 1073741824: a2"},
		{"the last one takes the next topic not", []api.Sub{wants(1, "a b"), wants(2, "a"), wants(3, "b")}, topics("a b", 2, 2), "1: a0 b1; 2: a1; 3: b0"},
		{"all takers of the next topic are ahead of the last one", []api.Sub{wants(1, "b"), wants(2, "b"), wants(3, "a")}, topics("a b", 1, 3), "1: b0 b2; 2: b1; 3: a0"},
		{"all takers of the next topic are behind the last one", []api.Sub{wants(1, "a"), wants(2, "b"), wants(3, "b")}, topics("a b", 1, 3), "1: a0; 2: b0 b2; 3: b1"},
		{"the last one alone takes the next topic", []api.Sub{wants(1, "a"), wants(2, "a b"), wants(3, "")}, topics("a b", 2, 2), "1: a0; 2: a1 b0 b1; 3:"},
		{"at the beginning the first taker", []api.Sub{wants(1, "b"), wants(2, "a"), wants(3, "a")}, topics("a b", 2, 1), "1: b0; 2: a0; 3: a1"},
		{"a topic without takers changes nothing", []api.Sub{wants(1, "a c"), wants(2, "a c"), wants(3, "a c")}, topics("a b c", 1, 5, 1), "1: a0; 2: c0; 3:"},
		{"none ahead but one without takers", []api.Sub{wants(1, "b"), wants(2, "b")}, topics("a b", 1, 1), "1: b0; 2:"},
	} {
		if l, e := assign.Round(c.subs, c.l); told(l) != c.want || e != api.OK {
			t.Errorf("P14.3: %s: %q, %d, want %q", c.what, told(l), e, c.want)
		}
	}
}

// many are n members, each of which wants the topics a and b, and n names.
func many(n int) ([]api.Sub, []string) {
	var subs []api.Sub
	var names []string
	for i := range n {
		subs = append(subs, wants(10*i, "a b"))
		names = append(names, fmt.Sprintf("n%02d", i))
	}
	return subs, names
}

func TestHowMany(t *testing.T) {
	for _, n := range []int{19, 20} {
		subs, names := many(n)
		var l []api.Topic
		for _, name := range names {
			l = append(l, api.Topic{Name: name, Parts: 16})
		}
		ranged, round := "", ""
		for i := range n {
			parts := ""
			if i < 16 {
				parts = fmt.Sprint(" a", i)
			}
			ranged += fmt.Sprint("; ", 10*i, ":", parts)
		}
		round = ranged
		dealt(t, "many members", subs, topics("a", 16), ranged[2:], round[2:])
		one := []api.Sub{{Member: topMember, Topics: names}}
		want := fmt.Sprint(topMember, ":")
		for _, name := range names {
			for i := range 16 {
				want += fmt.Sprint(" ", name, i)
			}
		}
		dealt(t, "many topics", one, l, want, want)
	}
	subs, names := many(21)
	refused(t, "21 members", subs, topics("a", 1))
	refused(t, "21 members, and no topics", subs, nil)
	refused(t, "21 topics of a member", []api.Sub{{Member: 1, Topics: names}}, topics("a", 1))
	refused(t, "21 topics of a later member", []api.Sub{wants(0, "a"), {Member: 1, Topics: names}}, nil)
	var l []api.Topic
	for _, name := range names {
		l = append(l, api.Topic{Name: name, Parts: 1})
	}
	refused(t, "21 topics", subs[:1], l)
	refused(t, "21 topics, and no members", nil, l)
	if e := assign.Check(subs[:20], l[:20]); e != api.OK {
		t.Errorf("P14.1: 20 of each: %d", e)
	}
}

func TestMembers(t *testing.T) {
	for _, n := range []int{0, 1, topMember - 1, topMember} {
		want := fmt.Sprint(n, ": a0 a1")
		dealt(t, "a member's number", []api.Sub{wants(n, "a")}, topics("a", 2), want, want)
	}
	for _, n := range []int{math.MinInt, -1, topMember + 1, math.MaxInt} {
		refused(t, "a member's number", []api.Sub{wants(n, "a")}, topics("a", 2))
		refused(t, "a member's number, and no topics", []api.Sub{wants(n, "")}, nil)
	}
	refused(t, "the first one's number", []api.Sub{wants(-1, "a"), wants(0, "a")}, topics("a", 2))
	refused(t, "the last one's number", []api.Sub{wants(0, "a"), wants(topMember+1, "a")}, topics("a", 2))
	for _, l := range [][]int{{1, 1}, {2, 1}, {1, 3, 3}, {1, 3, 2}, {3, 1, 2}, {0, 0}, {topMember, topMember}, {topMember, 0}} {
		var subs []api.Sub
		for _, n := range l {
			subs = append(subs, wants(n, "a"))
		}
		refused(t, fmt.Sprint("members that do not rise: ", l), subs, topics("a", 2))
	}
}

func TestTopics(t *testing.T) {
	for _, n := range []int{1, 2, 15, 16} {
		if e := assign.Check(nil, topics("a", n)); e != api.OK {
			t.Errorf("P14.1: %d partitions: %d", n, e)
		}
	}
	for _, n := range []int{math.MinInt, -1, 0, 17, math.MaxInt} {
		refused(t, "how many partitions", []api.Sub{wants(1, "a")}, topics("a", n))
		refused(t, "how many partitions, of one that nobody wants", nil, topics("a b", 1, n))
		refused(t, "how many partitions, of the first one", nil, topics("a b", n, 1))
	}
	for _, names := range []string{"a a", "b a", "a c b", "a c c", "c a b", "a B", "b ab", "é z"} {
		refused(t, "names that do not rise: "+names, []api.Sub{wants(1, "a")}, topics(names, 1, 1, 1))
		refused(t, "a member's topics that do not rise: "+names, []api.Sub{wants(1, names)}, topics("a", 1))
		refused(t, "a later member's topics that do not rise: "+names, []api.Sub{wants(1, "a"), wants(2, names)}, topics("a", 1))
	}
	refused(t, "no name twice", nil, []api.Topic{{Parts: 1}, {Parts: 1}})
	refused(t, "no name twice", []api.Sub{{Topics: []string{"", ""}}}, nil)
}

// TestNames: names rise as Go orders strings, byte by byte; the document asks nothing else of them.
func TestNames(t *testing.T) {
	long := strings.Repeat("x", 5000)
	names := []string{"", "\x00", "B", "a", "aB", "aa", "ab", "b", long, "é", "\xff", "\xff\x00"}
	var l []api.Topic
	want := "5:"
	for i, name := range names {
		l = append(l, api.Topic{Name: name, Parts: 1 + i%2})
		for n := range 1 + i%2 {
			want += fmt.Sprint(" ", name, n)
		}
	}
	dealt(t, "names of any bytes", []api.Sub{{Member: 5, Topics: names}}, l, want, want)
}

// TestNotShared: what was handed in is as it was, and shares no memory with the answer; nor do two lists of one answer, their spare room too (R5).
func TestNotShared(t *testing.T) {
	made := func() ([]api.Sub, []api.Topic) {
		return []api.Sub{wants(1, "a b"), wants(2, "a c"), wants(3, "a b")}, topics("a b c", 5, 3, 4)
	}
	for name, deal := range map[string]func([]api.Sub, []api.Topic) ([]api.Share, api.Errno){"Range": assign.Range, "Round": assign.Round} {
		subs, l := made()
		first, _ := deal(subs, l)
		assign.Check(subs, l)
		want := told(first)
		if s, k := made(); !reflect.DeepEqual(subs, s) || !reflect.DeepEqual(l, k) {
			t.Errorf("R5: %s changed what was handed in: %+v, %+v", name, subs, l)
		}
		second, _ := deal(subs, l)
		if told(second) != want {
			t.Errorf("R6: %s: %q, and then %q", name, want, told(second))
		}
		for i := range subs {
			clear(subs[i].Topics)
		}
		clear(subs)
		clear(l)
		if told(first) != want {
			t.Errorf("R5: %s: the answer changed with what was handed in: %q", name, told(first))
		}
		for i := range first {
			parts := first[i].Parts
			for j := range parts[:cap(parts)] {
				parts[:cap(parts)][j] = api.Part{Topic: "x", Index: 99}
			}
			for k := range first {
				if k > i && slices.ContainsFunc(first[k].Parts, func(p api.Part) bool { return p.Topic == "x" }) {
					t.Errorf("R5: %s: the lists %d and %d of one answer share memory", name, i, k)
				}
			}
		}
		if told(second) != want {
			t.Errorf("R5: %s: two answers share memory: %q", name, told(second))
		}
	}
}
