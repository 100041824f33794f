package topic_test

import (
	"encoding/binary"
	"fmt"
	"math"
	"slices"
	"strings"
	"testing"

	"flotsam/api"
	"flotsam/topic"
)

// text is numbers and texts as bytes, by Go's own library.
func text(l ...any) string {
	var b []byte
	for _, v := range l {
		switch v := v.(type) {
		case int:
			b = binary.AppendVarint(b, int64(v))
		case string:
			b = append(binary.AppendVarint(b, int64(len(v))), v...)
		}
	}
	return string(b)
}

// parsed is what Parse makes of a text that is right; what it tells then is that text again.
func parsed(t *testing.T, s string) *topic.Table {
	t.Helper()
	x, e := topic.Parse(s)
	if x == nil || e != api.OK {
		t.Fatalf("P18.3: Parse of %x: %v, %d", s, x, e)
	}
	prints(t, "P18.3: what was parsed", x, s)
	return x
}

func refused(t *testing.T, what string, s string, want api.Errno) {
	t.Helper()
	if x, e := topic.Parse(s); x != nil || e != want {
		t.Errorf("P18.3: Parse of %s, %x: %v, %d, want nil, %d", what, s, x, e, want)
	}
}

func TestPrint(t *testing.T) {
	x := topic.New()
	prints(t, "P18.3: none", x, "\x00\x00")
	x.Create("b", 3)
	prints(t, "P18.3: one", x, "\x02\x02\x02b\x00\x06")
	x.Create("a", 16)
	x.Create("aa", 1)
	x.Create("\xff", 2)
	prints(t, "P18.3: by their names", x, text(4, 4, "a", 1, 16, "aa", 2, 1, "b", 0, 3, "\xff", 3, 2))
	x.Delete("a")
	prints(t, "P18.3: one is gone", x, text(4, 3, "aa", 2, 1, "b", 0, 3, "\xff", 3, 2))
	x.Create("a", 5)
	long := strings.Repeat("x", 100)
	x.Create(long, 7)
	prints(t, "P18.3: again", x, text(6, 5, "a", 4, 5, "aa", 2, 1, "b", 0, 3, long, 5, 7, "\xff", 3, 2))
	for range 70 {
		x.Create("z", 1)
		x.Delete("z")
	}
	x.Create("z", 1)
	prints(t, "P18.3: later", x, text(77, 6, "a", 4, 5, "aa", 2, 1, "b", 0, 3, long, 5, 7, "z", 76, 1, "\xff", 3, 2))
}

// full has as many topics as may be, with long names.
func full() *topic.Table {
	x := topic.New()
	for i := range 30 {
		x.Create("gone", 1)
		x.Delete("gone")
		x.Create(fmt.Sprintf("%02d%s", i*7%30, strings.Repeat("n", 98)), 1+i%16)
	}
	return x
}

func TestParse(t *testing.T) {
	parsed(t, "\x00\x00")
	parsed(t, text(1, 0))
	parsed(t, text(endOfIDs, 0))
	x := parsed(t, text(8, 3, "a", 7, 16, "b", 0, 1, "ba", 3, 2))
	finds(t, "P18.3", x, "a", 7, 16)
	finds(t, "P18.3", x, "b", 0, 1)
	finds(t, "P18.3", x, "ba", 3, 2)
	findsNot(t, "P18.3", x, "c", api.ErrNone)
	lists(t, "P18.3", x, "a16 b1 ba2")
	// It goes on as if it had given all of these ids itself.
	createsNot(t, "parsed", x, "b", 1, api.ErrThere)
	creates(t, x, "c", 4, 8)
	deletes(t, x, "a", 7)
	prints(t, "P18.3: parsed, and gone on", x, text(9, 3, "b", 0, 1, "ba", 3, 2, "c", 8, 4))

	x = full()
	if n := len(x.List()); n != 20 {
		t.Fatalf("P18.2: %d topics", n)
	}
	createsNot(t, "full, parsed", parsed(t, x.Print()), "z", 1, api.ErrFull)
}

// TestParseGoesOn: what Parse makes of an empty one is one that New might have made, each one of its own.
func TestParseGoesOn(t *testing.T) {
	x, y := parsed(t, "\x00\x00"), parsed(t, "\x00\x00")
	creates(t, x, "a", 3, 0)
	lists(t, "P18.3: another one", y, "")
	s := text(5, 1, "a", 4, 1)
	x, y = parsed(t, s), parsed(t, s)
	deletes(t, x, "a", 4)
	finds(t, "P18.3: another one", y, "a", 4, 1)
}

// TestParseNumbers has each number of a text at its edges, and beyond them.
func TestParseNumbers(t *testing.T) {
	right := []any{9, 2, "b", 5, 3, "c", 6, 16}
	parsed(t, text(right...))
	for _, c := range []struct {
		at          int
		what        string
		least, most int
	}{
		{0, "Next", 7, endOfIDs}, {3, "an id", 0, 8}, {4, "parts", 1, 16}, {6, "a later id", 0, 8}, {7, "later parts", 1, 16},
	} {
		with := func(n int) []any {
			l := slices.Clone(right)
			l[c.at] = n
			return l
		}
		parsed(t, text(with(c.least)...))
		parsed(t, text(with(c.most)...))
		for _, n := range []int{math.MinInt, c.least - 1, c.most + 1, math.MaxInt} {
			refused(t, c.what, text(with(n)...), api.ErrForm)
			if c.at > 0 || n < 0 || n > endOfIDs {
				// As soon as it is read: what is missing behind it is not met.
				refused(t, c.what+", and no more", text(with(n)[:c.at+1]...), api.ErrForm)
			}
		}
	}
	// With each Next the ids are those below it alone.
	for _, next := range []int{1, 2, 64, endOfIDs} {
		parsed(t, text(next, 1, "a", next-1, 1))
		refused(t, "an id that is Next", text(next, 1, "a", next, 1), api.ErrForm)
		refused(t, "an id that is above Next", text(next, 1, "a", next+1, 1), api.ErrForm)
		refused(t, "an id that is Next, and no more", text(next, 1, "a", next), api.ErrForm)
	}
	for _, id := range []int{-1, 0, 1} {
		refused(t, "an id, where none was given", text(0, 1, "a", id, 1), api.ErrForm)
		refused(t, "an id, where none was given, and no more", text(0, 1, "a", id), api.ErrForm)
	}
	refused(t, "one, where no id was given, cut ahead of it", text(0, 1, "a"), api.ErrCut)
}

func TestParseCounts(t *testing.T) {
	for _, n := range []int{math.MinInt, -1, 21, math.MaxInt} {
		refused(t, "so many", text(30, n), api.ErrForm)
		refused(t, "so many, and one", text(30, n, "a", 0, 1), api.ErrForm)
	}
	many := func(n int) []any {
		var l []any
		for i := range n {
			l = append(l, fmt.Sprintf("t%02d", i), i, 1)
		}
		return l
	}
	for n := range 21 {
		parsed(t, text(30, n)+text(many(n)...))
		parsed(t, text(n, n)+text(many(n)...))
		refused(t, "one more than it says", text(30, n)+text(many(n+1)...), api.ErrForm)
		if n > 0 {
			refused(t, "one less than it says", text(30, n)+text(many(n-1)...), api.ErrCut)
			refused(t, "more than ids were given", text(n-1, n)+text(many(n)...), api.ErrForm)
		}
	}
	refused(t, "21 that are there", text(30, 21)+text(many(21)...), api.ErrForm)
}

func TestParseNames(t *testing.T) {
	long := strings.Repeat("x", 100)
	for _, name := range []string{"a", "\x00", "\xff", long} {
		parsed(t, text(1, 1, name, 0, 1))
	}
	for _, l := range [][]string{{"a", "aa"}, {"a", "a\x00"}, {"B", "a"}, {"z", "é"}, {long[1:], long}, {"\x00", "\x00\x00"}, {"a", "b", "ba"}} {
		all, back := []any{9, len(l)}, []any{9, len(l)}
		for i, name := range l {
			all = append(all, name, i, 1)
			back = append(back, l[len(l)-1-i], i, 1)
		}
		parsed(t, text(all...))
		refused(t, "names that fall", text(back...), api.ErrForm)
		// As soon as the second name is read.
		refused(t, "names that fall, and no more", text(back[:6]...), api.ErrForm)
	}
	refused(t, "the same name twice", text(9, 2, "a", 0, 1, "a", 1, 1), api.ErrForm)
	refused(t, "the same name twice, and no more", text(9, 2, "a", 0, 1, "a"), api.ErrForm)
	refused(t, "the first name again", text(9, 3, "a", 0, 1, "c", 1, 1, "a", 2, 1), api.ErrForm)
	refused(t, "a later name between", text(9, 3, "a", 0, 1, "c", 1, 1, "b", 2, 1), api.ErrForm)
	refused(t, "an empty name", text(9, 1, "", 0, 1), api.ErrForm)
	refused(t, "an empty name, and no more", text(9, 1, ""), api.ErrForm)
	refused(t, "a later empty name", text(9, 2, "a", 0, 1, "", 1, 1), api.ErrForm)
	refused(t, "a name of 101 bytes", text(9, 1, long+"x", 0, 1), api.ErrForm)
	refused(t, "a name of 101 bytes, cut", text(9, 1, 101), api.ErrForm)
	refused(t, "a name of 100 bytes, cut", text(9, 1, 100)+long[1:], api.ErrCut)
	refused(t, "a name of less than none", text(9, 1, -1), api.ErrForm)
	refused(t, "a name of too many bytes for its length", text(9, 1)+"\x82\x00a"+text(0, 1), api.ErrForm)
}

// TestParseSameID: that two ids are the same is met at the end.
func TestParseSameID(t *testing.T) {
	refused(t, "the same id twice", text(9, 2, "a", 5, 1, "b", 5, 1), api.ErrForm)
	refused(t, "0 twice", text(9, 2, "a", 0, 1, "b", 0, 1), api.ErrForm)
	refused(t, "two that are not neighbours", text(9, 3, "a", 5, 1, "b", 6, 1, "c", 5, 2), api.ErrForm)
	refused(t, "the last ones", text(9, 3, "a", 5, 1, "b", 6, 1, "c", 6, 2), api.ErrForm)
	refused(t, "all", text(1, 3, "a", 0, 1, "b", 0, 1, "c", 0, 1), api.ErrForm)
	refused(t, "the same id twice, cut behind that", text(9, 3, "a", 5, 1, "b", 5, 1), api.ErrCut)
	refused(t, "the same id twice, cut ahead of the parts", text(9, 2, "a", 5, 1, "b", 5), api.ErrCut)
	refused(t, "the same id twice, and bytes are left", text(9, 2, "a", 5, 1, "b", 5, 1)+"\x00", api.ErrForm)
	for _, l := range [][]any{{"a", 5, 1, "b", 6, 1, "c", 7, 1}, {"a", 7, 1, "b", 6, 1, "c", 5, 1}, {"a", 6, 1, "b", 7, 1, "c", 5, 1}} {
		parsed(t, text(9, 3)+text(l...))
	}
}

// TestParseFirstMet: of several errors the one that stands first is told.
func TestParseFirstMet(t *testing.T) {
	refused(t, "nothing", "", api.ErrCut)
	refused(t, "half a number", "\x80", api.ErrCut)
	refused(t, "Next alone", "\x00", api.ErrCut)
	refused(t, "a number of too many bytes", "\x80\x00\x00", api.ErrForm)
	refused(t, "no end in ten bytes", strings.Repeat("\x80", 10), api.ErrForm)
	refused(t, "no end in nine bytes", strings.Repeat("\x80", 9), api.ErrCut)
	refused(t, "a count of too many bytes", "\x00\x80\x00", api.ErrForm)
	refused(t, "none, and more", "\x00\x00\x00", api.ErrForm)
	refused(t, "none, and half a number", "\x00\x00\x80", api.ErrForm)
	refused(t, "wrong parts, ahead of what is left", text(9, 1, "a", 0, 0, 0), api.ErrForm)
	refused(t, "wrong parts, ahead of the end", text(9, 2, "a", 0, 17), api.ErrForm)
	refused(t, "a wrong id, ahead of the end", text(9, 1, "a", 9), api.ErrForm)
	refused(t, "half a number, ahead of a wrong one", text(9, 2, "b", 0)+"\xff", api.ErrCut)
	refused(t, "a name that is cut, that would not rise", text(9, 2, "b", 0, 1, 3)+"aa", api.ErrCut)
	refused(t, "an id of too many bytes", text(9, 1, "a")+"\x80\x00"+text(1), api.ErrForm)
	refused(t, "parts of too many bytes", text(9, 1, "a", 0)+"\x82\x00", api.ErrForm)
}

// TestParseCut: of a text no beginning is one, and none that has more behind it.
func TestParseCut(t *testing.T) {
	for _, s := range []string{full().Print(), text(endOfIDs, 3, "a", 0, 1, "b", endOfIDs-1, 16, "c", 70, 2)} {
		parsed(t, s)
		for n := range len(s) {
			refused(t, "a beginning", s[:n], api.ErrCut)
		}
		for _, more := range []string{"\x00", "\x02", "\x80", "\xff", s} {
			refused(t, "a text that goes on", s+more, api.ErrForm)
		}
	}
}
