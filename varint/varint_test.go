package varint_test

import (
	"encoding/binary"
	"math"
	"strings"
	"testing"
	"unsafe"

	"flotsam/api"
	"flotsam/varint"
)

// byLibrary is Put as Go's own library has it: its codes are made in another way, and are the same.
func byLibrary(n int) string {
	return string(binary.AppendVarint(nil, int64(n)))
}

// edges are numbers round each place at which a code gets longer, and the first and last ones.
func edges() []int {
	l := []int{0, math.MaxInt, math.MinInt, math.MaxInt - 1, math.MinInt + 1}
	for bit := 0; bit < 63; bit++ {
		for d := -2; d <= 2; d++ {
			l = append(l, 1<<bit+d, -(1<<bit)+d)
		}
	}
	return l
}

type getCase struct {
	name string
	s    string
	at   int
	e    api.Errno
}

func TestPutOfNumbers(t *testing.T) {
	for n, want := range map[int]string{
		0: "\x00", -1: "\x01", 1: "\x02", -2: "\x03", 63: "\x7e", -64: "\x7f",
		64: "\x80\x01", -65: "\x81\x01", 8191: "\xfe\x7f", -8192: "\xff\x7f", 8192: "\x80\x80\x01",
		math.MaxInt: "\xfe" + strings.Repeat("\xff", 8) + "\x01",
		math.MinInt: strings.Repeat("\xff", 9) + "\x01",
	} {
		if s := varint.Put(n); s != want {
			t.Errorf("P1.1: Put(%d): %x, want %x", n, s, want)
		}
	}
	for _, n := range edges() {
		if s := varint.Put(n); s != byLibrary(n) {
			t.Errorf("P1.1: Put(%d): %x, want %x", n, s, byLibrary(n))
		}
	}
}

func TestGetOfWhatWasPut(t *testing.T) {
	for _, n := range edges() {
		code := byLibrary(n)
		for _, ahead := range []string{"", "\x80", "\xff\xff"} {
			for _, behind := range []string{"", "\x00", "\x80", "\xff\xff\xff\xff\xff\xff\xff\xff\xff\xff"} {
				m, place, e := varint.Get(ahead+code+behind, len(ahead))
				if m != n || place != len(ahead)+len(code) || e != api.OK {
					t.Fatalf("P1.1: Get of %d behind %x, ahead of %x: %d, %d, %d", n, ahead, behind, m, place, e)
				}
			}
		}
	}
}

func TestGetOfWrongBytes(t *testing.T) {
	full := strings.Repeat("\xff", 20)
	zeros := strings.Repeat("\x80", 20)
	for _, c := range []getCase{
		{"ahead of all", "\x00", -1, api.ErrArg},
		{"far ahead of all", "\x00", math.MinInt, api.ErrArg},
		{"behind the end", "\x00", 2, api.ErrArg},
		{"far behind the end", "\x00", math.MaxInt, api.ErrArg},
		{"behind the end of nothing", "", 1, api.ErrArg},
		{"nothing", "", 0, api.ErrCut},
		{"at the end", "\x00", 1, api.ErrCut},
		{"one byte that goes on", "\x80", 0, api.ErrCut},
		{"a byte that goes on at the end", "\x00\xff", 1, api.ErrCut},
		{"nine that go on", full[:9], 0, api.ErrCut},
		{"nine empty ones that go on", zeros[:9], 0, api.ErrCut},
		{"ten that go on", full[:10], 0, api.ErrForm},
		{"ten empty ones that go on", zeros[:10], 0, api.ErrForm},
		{"ten that go on, and an end", full[:10] + "\x01", 0, api.ErrForm},
		{"twenty that go on", full, 0, api.ErrForm},
		{"nine of twenty that go on", full, 11, api.ErrCut},
		{"ten of twenty that go on", full, 10, api.ErrForm},
		{"0 in two bytes", "\x80\x00", 0, api.ErrForm},
		{"-64 in two bytes", "\xff\x00", 0, api.ErrForm},
		{"0 in three bytes", "\x80\x80\x00", 0, api.ErrForm},
		{"64 in three bytes", "\x80\x81\x00", 0, api.ErrForm},
		{"nine bytes in ten", full[:9] + "\x00", 0, api.ErrForm},
		{"0 in ten bytes", zeros[:9] + "\x00", 0, api.ErrForm},
		{"65 bits", full[:9] + "\x02", 0, api.ErrForm},
		{"65 bits, the last one too", full[:9] + "\x03", 0, api.ErrForm},
		{"70 bits", full[:9] + "\x7f", 0, api.ErrForm},
		{"66 bits behind nothing", zeros[:9] + "\x04", 0, api.ErrForm},
	} {
		if n, place, e := varint.Get(c.s, c.at); n != 0 || place != 0 || e != c.e {
			t.Errorf("P1.1: Get of %s: %d, %d, %d, want 0, 0, %d", c.name, n, place, e, c.e)
		}
	}
}

// TestGetOfAllShortTexts holds Get against Put at all texts of two bytes: what it takes is just what Put makes.
func TestGetOfAllShortTexts(t *testing.T) {
	made := map[string]int{}
	for n := -8192; n < 8192; n++ {
		made[byLibrary(n)] = n
	}
	for first := range 256 {
		for second := range 256 {
			s := string([]byte{byte(first), byte(second)})
			n, place, e := varint.Get(s, 0)
			want, size := made[s[:1]], 1
			wantE := api.OK
			if first > 0x7f {
				want, size = made[s], 2
				if _, ok := made[s]; !ok {
					size, wantE = 0, api.ErrForm
					if second > 0x7f {
						wantE = api.ErrCut
					}
				}
			}
			if n != want || place != size || e != wantE {
				t.Fatalf("P1.1: Get of %x: %d, %d, %d, want %d, %d, %d", s, n, place, e, want, size, wantE)
			}
		}
	}
}

func TestFixedAndRead(t *testing.T) {
	for width := 1; width <= 8; width++ {
		most := math.MaxInt
		if width < 8 {
			most = 1<<(8*width) - 1
		}
		for _, n := range []int{0, 1, 127, 128, 255, most / 2, most - 1, most} {
			var whole [8]byte
			binary.BigEndian.PutUint64(whole[:], uint64(n))
			want := string(whole[8-width:])
			if s, e := varint.Fixed(n, width); s != want || e != api.OK {
				t.Errorf("P1.2: Fixed(%d, %d): %x, %d, want %x", n, width, s, e, want)
			}
			for _, ahead := range []string{"", "\xff", "\x00\x01"} {
				for _, behind := range []string{"", "\x80"} {
					m, place, e := varint.Read(ahead+want+behind, len(ahead), width)
					if m != n || place != len(ahead)+width || e != api.OK {
						t.Errorf("P1.2: Read of %d in %d bytes behind %x: %d, %d, %d", n, width, ahead, m, place, e)
					}
				}
			}
		}
	}
}

func TestFixedOfWrongNumbers(t *testing.T) {
	for width := 1; width <= 8; width++ {
		wrong := []int{-1, math.MinInt, math.MinInt + 1}
		if width < 8 {
			wrong = append(wrong, 1<<(8*width), 1<<(8*width)+1, math.MaxInt)
		}
		for _, n := range wrong {
			if s, e := varint.Fixed(n, width); s != "" || e != api.ErrArg {
				t.Errorf("P1.2: Fixed(%d, %d): %x, %d, want ErrArg", n, width, s, e)
			}
		}
	}
	for _, width := range []int{0, 9, -1, 16, 64, math.MaxInt, math.MinInt} {
		for _, n := range []int{0, 1, -1} {
			if s, e := varint.Fixed(n, width); s != "" || e != api.ErrArg {
				t.Errorf("P1.2: Fixed(%d, %d): %x, %d, want ErrArg", n, width, s, e)
			}
		}
	}
}

func TestReadOfWrongBytes(t *testing.T) {
	for _, c := range []struct {
		name      string
		s         string
		at, width int
		e         api.Errno
	}{
		{"ahead of all", "abcdefgh", -1, 1, api.ErrArg},
		{"far ahead of all", "abcdefgh", math.MinInt, 8, api.ErrArg},
		{"behind the end", "abcdefgh", 9, 1, api.ErrArg},
		{"far behind the end", "abcdefgh", math.MaxInt, 8, api.ErrArg},
		{"no width", "abcdefgh", 0, 0, api.ErrArg},
		{"a width below 0", "abcdefgh", 0, -1, api.ErrArg},
		{"the least width", "abcdefgh", 0, math.MinInt, api.ErrArg},
		{"a width of 9", "abcdefghi", 0, 9, api.ErrArg},
		{"a width of 9, cut", "", 0, 9, api.ErrArg},
		{"the greatest width", "abcdefgh", 0, math.MaxInt, api.ErrArg},
		{"nothing", "", 0, 1, api.ErrCut},
		{"at the end", "abcdefgh", 8, 1, api.ErrCut},
		{"one byte too few", "abcdefgh", 1, 8, api.ErrCut},
		{"seven bytes, the highest bit set", "\xff\xff\xff\xff\xff\xff\xff", 0, 8, api.ErrCut},
		{"2^63", "\x80\x00\x00\x00\x00\x00\x00\x00", 0, 8, api.ErrForm},
		{"2^64 - 1", "\xff\xff\xff\xff\xff\xff\xff\xff", 0, 8, api.ErrForm},
	} {
		if n, place, e := varint.Read(c.s, c.at, c.width); n != 0 || place != 0 || e != c.e {
			t.Errorf("P1.2: Read of %s: %d, %d, %d, want 0, 0, %d", c.name, n, place, e, c.e)
		}
	}
}

func TestTextAndTake(t *testing.T) {
	for s, want := range map[string]string{"": "\x00", "a": "\x02a", "ab": "\x04ab", "\xff\x00": "\x04\xff\x00", "ä": "\x04\xc3\xa4"} {
		if got := varint.Text(s); got != want {
			t.Errorf("P1.3: Text(%x): %x, want %x", s, got, want)
		}
	}
	for _, size := range []int{0, 1, 63, 64, 1000, 8191, 8192, 60000} {
		s := strings.Repeat("\x80", size)
		text := varint.Text(s)
		if text != byLibrary(size)+s {
			t.Errorf("P1.3: Text of %d bytes begins with %x", size, text[:min(4, len(text))])
		}
		for _, most := range []int{size, size + 1, math.MaxInt} {
			for _, behind := range []string{"", "z"} {
				got, place, e := varint.Take("xy"+text+behind, 2, most)
				if got != s || place != 2+len(text) || e != api.OK {
					t.Errorf("P1.3: Take of %d bytes, at most %d: %d bytes, %d, %d", size, most, len(got), place, e)
				}
			}
		}
	}
}

func TestTakeOfWrongBytes(t *testing.T) {
	for _, c := range []struct {
		name     string
		s        string
		at, most int
		e        api.Errno
	}{
		{"ahead of all", "\x00", -1, 9, api.ErrArg},
		{"behind the end", "\x00", 2, 9, api.ErrArg},
		{"nothing", "", 0, 9, api.ErrCut},
		{"a number that is cut off", "\x80", 0, 9, api.ErrCut},
		{"a number that is too long", "\x82\x00a", 0, 9, api.ErrForm},
		{"ten bytes that go on", strings.Repeat("\x80", 10), 0, 9, api.ErrForm},
		{"a number below 0", "\x01", 0, 9, api.ErrForm},
		{"the least number", byLibrary(math.MinInt) + "a", 0, math.MaxInt, api.ErrForm},
		{"one byte above the most", "\x06abc", 0, 2, api.ErrForm},
		{"above the most, and cut off", "\x06", 0, 2, api.ErrForm},
		{"nothing, where the most is below 0", "\x00", 0, -1, api.ErrForm},
		{"a number not above a most below 0", "\x03", 0, -1, api.ErrForm},
		{"one byte too few", "\x06ab", 0, 3, api.ErrCut},
		{"no byte of one", "\x02", 0, 9, api.ErrCut},
		{"the greatest number", byLibrary(math.MaxInt) + "abc", 0, math.MaxInt, api.ErrCut},
	} {
		if s, place, e := varint.Take(c.s, c.at, c.most); s != "" || place != 0 || e != c.e {
			t.Errorf("P1.3: Take of %s: %x, %d, %d, want nothing, 0, %d", c.name, s, place, e, c.e)
		}
	}
}

func TestTakenTextsAreNewMemory(t *testing.T) {
	s := varint.Text("some bytes of a text")
	got, _, _ := varint.Take(s, 0, 100)
	first := uintptr(unsafe.Pointer(unsafe.StringData(s)))
	taken := uintptr(unsafe.Pointer(unsafe.StringData(got)))
	if taken >= first && taken < first+uintptr(len(s)) {
		t.Error("R5: Take answers a piece of what it was handed")
	}
}

// TestOneBehindTheOther writes numbers and texts of all kinds into one text, and reads each in its turn.
func TestOneBehindTheOther(t *testing.T) {
	numbers := edges()
	var all strings.Builder
	for i, n := range numbers {
		all.WriteString(varint.Put(n))
		all.WriteString(varint.Text(textOf(i)))
		fixed, _ := varint.Fixed(n&math.MaxInt, 8)
		all.WriteString(fixed)
	}
	s := all.String()
	at := 0
	for i, n := range numbers {
		m, place, e := varint.Get(s, at)
		if m != n || e != api.OK {
			t.Fatalf("P1.4: the %d-th number: %d, %d, want %d", i, m, e, n)
		}
		text, place, e := varint.Take(s, place, 1000)
		if text != textOf(i) || e != api.OK {
			t.Fatalf("P1.4: the %d-th text: %x, %d", i, text, e)
		}
		m, place, e = varint.Read(s, place, 8)
		if m != n&math.MaxInt || e != api.OK {
			t.Fatalf("P1.4: the %d-th number of eight bytes: %d, %d, want %d", i, m, e, n&math.MaxInt)
		}
		at = place
	}
	if at != len(s) {
		t.Errorf("P1.4: read up to %d of %d", at, len(s))
	}
}

func textOf(i int) string { return strings.Repeat(string([]byte{byte(i), 0x80, 0xff}), i%100) }
