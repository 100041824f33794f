package wire_test

import (
	"fmt"
	"strings"
	"testing"

	"flotsam/api"
	"flotsam/wire"
)

// head is the four bytes of a length, the highest first.
func head(n int) string { return string([]byte{byte(n >> 24), byte(n >> 16), byte(n >> 8), byte(n)}) }

func nexts(t *testing.T, what string, s string, want string, size int, e api.Errno) {
	t.Helper()
	if got, n, err := wire.Next(s); got != want || n != size || err != e {
		t.Errorf("P19.3: Next of %s: %d bytes, %d, %d, want %d, %d, %d", what, len(got), n, err, len(want), size, e)
	}
}

func TestFrame(t *testing.T) {
	if s, e := wire.Frame("ab"); s != "\x00\x00\x00\x02ab" || e != api.OK {
		t.Errorf("P19.3: example 1: %x, %d", s, e)
	}
	if s, e := wire.Frame(""); s != "\x00\x00\x00\x00" || e != api.OK {
		t.Errorf("P19.3: nothing: %x, %d", s, e)
	}
	for _, n := range []int{0, 1, 2, 127, 128, 255, 256, 257, 32768, 59999, 60000} {
		s := strings.Repeat("\xff", n)
		f, e := wire.Frame(s)
		if f != head(n)+s || e != api.OK {
			t.Errorf("P19.3: Frame of %d bytes: %d bytes, %d", n, len(f), e)
		}
		nexts(t, fmt.Sprint("a frame of ", n), f, s, n+4, api.OK)
		nexts(t, fmt.Sprint("a frame of ", n, ", and more"), f+"\xff\xff\xff\xff\xff", s, n+4, api.OK)
		for _, cut := range []int{1, 2, n, n + 1} {
			if cut >= 1 && cut <= n+4 {
				nexts(t, fmt.Sprint("a frame of ", n, ", cut by ", cut), f[:n+4-cut], "", 0, api.ErrCut)
			}
		}
	}
	for _, n := range []int{60001, 60002, 65536, 1 << 20} {
		if s, e := wire.Frame(strings.Repeat("a", n)); s != "" || e != api.ErrArg {
			t.Errorf("P19.3: Frame of %d bytes: %d bytes, %d", n, len(s), e)
		}
	}
}

func TestNext(t *testing.T) {
	for _, s := range []string{"", "\x00", "\xff", "\x00\x00\x00", "\xff\xff\xff", "abc"} {
		nexts(t, "fewer than four bytes", s, "", 0, api.ErrCut)
	}
	// That the number is too great is told ahead of what is missing behind it, and whatever stands there.
	for _, n := range []int{60001, 60002, 65535, 65536, 1 << 24, 1<<31 - 1, 1 << 31, 1<<32 - 1} {
		nexts(t, fmt.Sprint("a frame of ", n), head(n), "", 0, api.ErrForm)
		nexts(t, fmt.Sprint("a frame of ", n), head(n)+"a", "", 0, api.ErrForm)
		nexts(t, fmt.Sprint("a frame of ", n), head(n)+strings.Repeat("a", 70000), "", 0, api.ErrForm)
	}
	nexts(t, "four bytes alone", head(60000), "", 0, api.ErrCut)
	nexts(t, "four bytes alone", head(1), "", 0, api.ErrCut)
	nexts(t, "an empty frame", head(0), "", 4, api.OK)
	nexts(t, "an empty frame, and another one", head(0)+head(1)+"a", "", 4, api.OK)
	nexts(t, "an empty frame, and a wrong one", head(0)+head(60001), "", 4, api.OK)
}

// TestFrames: of frames, one behind the other, each comes out in turn, however much of the last one is there.
func TestFrames(t *testing.T) {
	want := []string{"a", "", "bc", strings.Repeat("x", 60000), "\x00\x00\x00\x02ab", "", strings.Repeat("\xff", 300)}
	all := ""
	for _, s := range want {
		f, e := wire.Frame(s)
		if e != api.OK {
			t.Fatalf("P19.3: %d", e)
		}
		all += f
	}
	for _, tail := range []string{"", "\x00", "\x00\x00\x00\x01", "\x00\x00\x00\x03ab"} {
		rest := all + tail
		for i, s := range want {
			got, n, e := wire.Next(rest)
			if got != s || n != 4+len(s) || e != api.OK {
				t.Fatalf("P19.4: frame %d: %d bytes, %d, %d", i, len(got), n, e)
			}
			rest = rest[n:]
		}
		if rest != tail {
			t.Errorf("P19.4: left: %x, want %x", rest, tail)
		}
		nexts(t, "what is left", rest, "", 0, api.ErrCut)
	}
}
