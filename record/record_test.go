package record_test

import (
	"math"
	"math/rand"
	"reflect"
	"slices"
	"strings"
	"testing"
	"unsafe"

	"flotsam/api"
	"flotsam/record"
	"flotsam/varint"
)

// full is a record that has something in all fields that go together.
func full() api.Record {
	return api.Record{At: 3, Time: 100, Key: "k", Value: "val", Headers: []api.Header{{Key: "h", Value: "1"}, {Key: "i"}}}
}

const fullBytes = "\x06\xc8\x01\x00\x02k\x06val\x04\x02h\x021\x02i\x00"

func text(n int) string { return strings.Repeat("x", n) }

func headers(n int) []api.Header {
	l := make([]api.Header, n)
	for i := range l {
		l[i] = api.Header{Key: text(i + 1), Value: text(i)}
	}
	return l
}

func ones(keys ...string) []api.Header {
	var l []api.Header
	for _, key := range keys {
		l = append(l, api.Header{Key: key})
	}
	return l
}

// mayBe are records at the edges of what may be.
func mayBe() map[string]api.Record {
	return map[string]api.Record{
		"an empty one":        {},
		"a full one":          full(),
		"the last At":         {At: 49},
		"the last Time":       {Time: 1 << 40},
		"a long Key":          {Key: text(1000)},
		"a long Value":        {Value: text(1000)},
		"a Bare one":          {Bare: true},
		"a Bare one's Value":  {Bare: true, Value: "v"},
		"a Gone one":          {Gone: true},
		"a Gone one's Key":    {Gone: true, Key: "k"},
		"a Bare one's Header": {Bare: true, Headers: ones("h")},
		"a Gone one's Header": {Gone: true, Headers: ones("h")},
		"ten Headers":         {Headers: headers(10)},
		"alike Headers":       {Headers: ones("h", "h")},
		"long Headers":        {Headers: []api.Header{{Key: text(1000), Value: text(1000)}, {Key: text(1000), Value: text(1000)}}},
		"bytes of all kinds":  {Key: "\x00\xff\x80", Value: "\xff\xfe", Headers: ones("\x00")},
		"no Headers":          {Headers: []api.Header{}},
	}
}

// mayNot are records just beyond those edges.
func mayNot() map[string]api.Record {
	return map[string]api.Record{
		"an At below 0":             {At: -1},
		"the least At":              {At: math.MinInt},
		"an At of 50":               {At: 50},
		"the greatest At":           {At: math.MaxInt},
		"a Time below 0":            {Time: -1},
		"the least Time":            {Time: math.MinInt},
		"a Time above 2^40":         {Time: 1<<40 + 1},
		"the greatest Time":         {Time: math.MaxInt},
		"a Key of 1001":             {Key: text(1001)},
		"a Value of 1001":           {Value: text(1001)},
		"a Bare one with a Key":     {Bare: true, Key: "k"},
		"a Gone one with a Value":   {Gone: true, Value: "v"},
		"one Bare and Gone":         {Bare: true, Gone: true},
		"eleven Headers":            {Headers: headers(11)},
		"a Header without Key":      {Headers: []api.Header{{Value: "v"}}},
		"a last Header without Key": {Headers: ones("a", "b", "")},
		"a Header's Key of 1001":    {Headers: ones("a", text(1001))},
		"a Header's Value of 1001":  {Headers: []api.Header{{Key: "a", Value: text(1001)}, {Key: "b"}}},
	}
}

// same tells whether two records are, with lists that are nil or empty as the same.
func same(a, b api.Record) bool {
	if !slices.Equal(a.Headers, b.Headers) {
		return false
	}
	a.Headers, b.Headers = nil, nil
	return reflect.DeepEqual(a, b)
}

func isZero(r api.Record) bool {
	return len(r.Headers) == 0 && same(r, api.Record{})
}

func TestRecordsThatMayBe(t *testing.T) {
	for name, r := range mayBe() {
		if e := record.Check(r); e != api.OK {
			t.Errorf("P4.1: Check of %s: %d", name, e)
		}
		s, e := record.Encode(r)
		if s == "" || e != api.OK {
			t.Errorf("P4.1: Encode of %s: %x, %d", name, s, e)
		}
		for _, ahead := range []string{"", "\x80", text(70)} {
			for _, behind := range []string{"", "\x00", "\xff\xff"} {
				back, at, e := record.Decode(ahead+s+behind, len(ahead))
				if !same(back, r) || at != len(ahead)+len(s) || e != api.OK {
					t.Errorf("P4.4: Decode of %s behind %d bytes: %+v, %d, %d", name, len(ahead), back, at, e)
				}
			}
		}
	}
}

func TestRecordsThatMayNotBe(t *testing.T) {
	for name, r := range mayNot() {
		if e := record.Check(r); e != api.ErrArg {
			t.Errorf("P4.1: Check of %s: %d, want ErrArg", name, e)
		}
		if s, e := record.Encode(r); s != "" || e != api.ErrArg {
			t.Errorf("P4.1: Encode of %s: %x, %d, want ErrArg", name, s, e)
		}
	}
}

func TestEncodedBytes(t *testing.T) {
	for _, c := range []struct {
		r    api.Record
		want string
	}{
		{api.Record{}, "\x00\x00\x00\x00\x00\x00"},
		{full(), fullBytes},
		{api.Record{At: 49, Time: 1 << 40, Bare: true, Value: "v"}, "\x62\x80\x80\x80\x80\x80\x40\x02\x00\x02v\x00"},
		{api.Record{Gone: true, Key: "key"}, "\x00\x00\x04\x06key\x00\x00"},
		{api.Record{Headers: ones("a", "b")}, "\x00\x00\x00\x00\x00\x04\x02a\x00\x02b\x00"},
	} {
		if s, e := record.Encode(c.r); s != c.want || e != api.OK {
			t.Errorf("P4.1: Encode of %+v: %x, %d, want %x", c.r, s, e, c.want)
		}
	}
}

// bytesOf writes a record's fields as they are, whether it may be or not, with a number of its own behind the time.
func bytesOf(r api.Record, marks int) string {
	s := varint.Put(r.At) + varint.Put(r.Time) + varint.Put(marks) + varint.Text(r.Key) + varint.Text(r.Value)
	s += varint.Put(len(r.Headers))
	for _, h := range r.Headers {
		s += varint.Text(h.Key) + varint.Text(h.Value)
	}
	return s
}

func marksOf(r api.Record) int {
	marks := 0
	if r.Bare {
		marks = 1
	}
	if r.Gone {
		marks += 2
	}
	return marks
}

func refused(t *testing.T, name string, s string, at int, want api.Errno) {
	t.Helper()
	r, place, e := record.Decode(s, at)
	if !isZero(r) || place != 0 || e != want {
		t.Errorf("P4.2: Decode of %s: %+v, %d, %d, want nothing, 0, %d", name, r, place, e, want)
	}
}

func TestDecodeOfRecordsThatMayNotBe(t *testing.T) {
	for name, r := range mayNot() {
		refused(t, name, bytesOf(r, marksOf(r)), 0, api.ErrForm)
		refused(t, name+", and more", "ab"+bytesOf(r, marksOf(r))+"cd", 2, api.ErrForm)
	}
	for _, marks := range []int{-1, -2, -3, -4, 4, 5, 6, 7, 8, 256, math.MaxInt, math.MinInt, 1 << 32} {
		refused(t, "a wrong number behind Time", bytesOf(api.Record{}, marks), 0, api.ErrForm)
	}
	for name, r := range mayBe() {
		back, _, e := record.Decode(bytesOf(r, marksOf(r)), 0)
		if !same(back, r) || e != api.OK {
			t.Errorf("P4.2: Decode of %s: %+v, %d", name, back, e)
		}
	}
}

func TestDecodeAtWrongPlaces(t *testing.T) {
	for _, s := range []string{"", fullBytes, "\x00\x00\x00\x00\x00\x00"} {
		for _, at := range []int{-1, math.MinInt, len(s) + 1, math.MaxInt} {
			refused(t, "a place beyond", s, at, api.ErrArg)
		}
		refused(t, "the end", s, len(s), api.ErrCut)
	}
}

func TestDecodeOfBytesThatAreCutOff(t *testing.T) {
	for name, r := range mayBe() {
		s, _ := record.Encode(r)
		for n := range len(s) {
			refused(t, name+", cut off", s[:n], 0, api.ErrCut)
			refused(t, name+", cut off behind others", "\xff"+s[:n], 1, api.ErrCut)
		}
	}
}

// TestFirstErrorIsTold has bytes with two faults: the one that stands first is told, but what only the end tells comes last.
func TestFirstErrorIsTold(t *testing.T) {
	for _, c := range []struct {
		name string
		s    string
		e    api.Errno
	}{
		{"an At that is too long", "\x80\x00", api.ErrForm},
		{"an At that is too long, and no more", "\x86\x00", api.ErrForm},
		{"a Time that is too long", "\x00\x80\x00", api.ErrForm},
		{"marks that are too long", "\x00\x00\x80\x00", api.ErrForm},
		{"a Key below 0", "\x00\x00\x00\x01", api.ErrForm},
		{"a Key above 1000, and cut off", "\x00\x00\x00" + varint.Put(1001), api.ErrForm},
		{"a Key of 1000, and cut off", "\x00\x00\x00" + varint.Put(1000), api.ErrCut},
		{"a Value below 0", "\x00\x00\x00\x00\x01", api.ErrForm},
		{"a Value above 1000, and cut off", "\x00\x00\x00\x00" + varint.Put(1001), api.ErrForm},
		{"a Value of 1000, and cut off", "\x00\x00\x00\x00" + varint.Put(1000), api.ErrCut},
		{"Headers below 0", "\x00\x00\x00\x00\x00\x01", api.ErrForm},
		{"far below 0", "\x00\x00\x00\x00\x00" + varint.Put(math.MinInt), api.ErrForm},
		{"eleven Headers, and no more", "\x00\x00\x00\x00\x00\x16", api.ErrForm},
		{"many Headers, and no more", "\x00\x00\x00\x00\x00" + varint.Put(math.MaxInt), api.ErrForm},
		{"ten Headers, and no more", "\x00\x00\x00\x00\x00\x14", api.ErrCut},
		{"a Header's Key below 0", "\x00\x00\x00\x00\x00\x02\x01", api.ErrForm},
		{"a Header's Key above 1000, and cut off", "\x00\x00\x00\x00\x00\x02" + varint.Put(1001), api.ErrForm},
		{"a Header's Value above 1000, and cut off", "\x00\x00\x00\x00\x00\x02\x02a" + varint.Put(1001), api.ErrForm},
		{"a second Header that is cut off", "\x00\x00\x00\x00\x00\x04\x02a\x00\x02", api.ErrCut},
		{"an At of 50, then an end", "\x64\x00", api.ErrCut},
		{"a Time below 0, then an end", "\x00\x01\x00\x00", api.ErrCut},
		{"a number of 4, then an end", "\x00\x00\x08\x00\x00", api.ErrCut},
		{"a number below 0, then an end", "\x00\x00\x01", api.ErrCut},
		{"Bare and Gone, then an end", "\x00\x00\x06\x00", api.ErrCut},
		{"Bare with a Key, then an end", "\x00\x00\x02\x02k\x00", api.ErrCut},
		{"a Header without Key, then an end", "\x00\x00\x00\x00\x00\x04\x00\x00", api.ErrCut},
		{"a Key cut off, and a Value above 1000 nowhere", "\x00\x00\x00\x80", api.ErrCut},
		{"a Key cut off by too long a Value", "\x00\x00\x00\x04\x81", api.ErrCut},
		{"a number of 4, and eleven Headers", "\x00\x00\x08\x00\x00\x16", api.ErrForm},
	} {
		refused(t, c.name, c.s, 0, c.e)
		refused(t, c.name+", behind others", "\x00\x00"+c.s, 2, c.e)
	}
}

func TestHeader(t *testing.T) {
	r := api.Record{Headers: []api.Header{{Key: "a", Value: "1"}, {Key: "b", Value: "2"}, {Key: "a", Value: "3"}, {Key: "none"}, {Key: "A", Value: "4"}}}
	for name, want := range map[string]string{"a": "1", "b": "2", "none": "", "A": "4"} {
		if s, ok := record.Header(r, name); s != want || !ok {
			t.Errorf("P4.3: Header(%q): %q, %t, want %q", name, s, ok, want)
		}
	}
	for _, name := range []string{"", "c", "B", "ab", "a ", "non", "1"} {
		if s, ok := record.Header(r, name); s != "" || ok {
			t.Errorf("P4.3: Header(%q): %q, %t, want none", name, s, ok)
		}
	}
	if s, ok := record.Header(api.Record{Key: "a", Value: "b"}, "a"); s != "" || ok {
		t.Errorf("P4.3: Header of a record without any: %q, %t", s, ok)
	}
	wrong := api.Record{At: -1, Bare: true, Gone: true, Headers: []api.Header{{Key: "", Value: "1"}}}
	if s, ok := record.Header(wrong, ""); s != "1" || !ok {
		t.Errorf("P4.3: Header of a record that may not be: %q, %t", s, ok)
	}
}

func someRecord(r *rand.Rand) api.Record {
	some := func(n int) string {
		b := make([]byte, r.Intn(n))
		r.Read(b)
		return string(b)
	}
	x := api.Record{At: r.Intn(50), Time: r.Intn(1<<40 + 1), Key: some(90), Value: some(90)}
	switch r.Intn(3) {
	case 0:
		x.Bare, x.Key = true, ""
	case 1:
		x.Gone, x.Value = true, ""
	}
	for range r.Intn(11) {
		x.Headers = append(x.Headers, api.Header{Key: "k" + some(5), Value: some(5)})
	}
	return x
}

func TestRecordsOneBehindTheOther(t *testing.T) {
	r := rand.New(rand.NewSource(1))
	var l []api.Record
	all := ""
	for range 500 {
		x := someRecord(r)
		s, e := record.Encode(x)
		if s != bytesOf(x, marksOf(x)) || e != api.OK {
			t.Fatalf("P4.1: Encode of %+v: %x, %d", x, s, e)
		}
		l, all = append(l, x), all+s
	}
	at := 0
	for _, x := range l {
		back, place, e := record.Decode(all, at)
		if !same(back, x) || e != api.OK {
			t.Fatalf("P4.4: Decode at %d: %+v, %d, want %+v", at, back, e, x)
		}
		at = place
	}
	if at != len(all) {
		t.Errorf("P4.4: decoded up to %d of %d", at, len(all))
	}
}

// TestWhatIsDecodedIsEncodedToTheSame turns bytes of records: what is taken then is what those bytes are of, all else is nothing.
func TestWhatIsDecodedIsEncodedToTheSame(t *testing.T) {
	r := rand.New(rand.NewSource(2))
	taken := 0
	for range 50000 {
		b := []byte(fullBytes)
		if r.Intn(2) == 0 {
			x := someRecord(r)
			b = []byte(bytesOf(x, marksOf(x)))
		}
		for range 1 + r.Intn(3) {
			b[r.Intn(len(b))] = byte(r.Intn(256))
		}
		s := string(b)
		x, at, e := record.Decode(s, 0)
		if e != api.OK {
			if !isZero(x) || at != 0 || e != api.ErrForm && e != api.ErrCut {
				t.Fatalf("P4.2: Decode of %x: %+v, %d, %d", s, x, at, e)
			}
			continue
		}
		taken++
		if again, e := record.Encode(x); at > len(s) || again != s[:at] || e != api.OK {
			t.Fatalf("P4.4: Decode of %x: %+v, %d: encoded %x, %d", s, x, at, again, e)
		}
	}
	if taken < 100 {
		t.Errorf("only %d were taken", taken)
	}
}

func TestNothingIsChangedOrShared(t *testing.T) {
	x := full()
	record.Check(x)
	record.Encode(x)
	record.Header(x, "i")
	if !same(x, full()) {
		t.Errorf("R5: the record that was handed in is now %+v", x)
	}
	one, _, _ := record.Decode(fullBytes, 0)
	other, _, _ := record.Decode(fullBytes, 0)
	one.Headers[0].Key = "changed"
	if !same(other, full()) {
		t.Errorf("R5: two answers share headers: %+v", other)
	}
	value := strings.Repeat("long", 10)
	got, _ := record.Header(api.Record{Headers: []api.Header{{Key: "k", Value: value}}}, "k")
	if got != value || unsafe.StringData(got) == unsafe.StringData(value) {
		t.Error("R5: Header answers what it was handed")
	}
}
