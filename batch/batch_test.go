package batch_test

import (
	"encoding/binary"
	"hash/crc32"
	"math"
	"math/rand"
	"reflect"
	"slices"
	"strings"
	"testing"

	"flotsam/api"
	"flotsam/batch"
	"flotsam/varint"
)

func text(n int) string { return strings.Repeat("x", n) }

// plain is a batch of no producer.
func plain(base int, span int, l ...api.Record) api.Batch {
	return api.Batch{Base: base, Span: span, Producer: -1, Epoch: -1, Seq: -1, Records: l}
}

// full is a batch that has something in all fields.
func full() api.Batch {
	return api.Batch{Base: 70, Span: 3, Producer: 5, Epoch: 6, Seq: 7, Records: []api.Record{
		{At: 0, Time: 9, Key: "k", Value: "v", Headers: []api.Header{{Key: "h", Value: "1"}}},
		{At: 2, Time: 8, Bare: true, Value: "w", Headers: []api.Header{{Key: "i"}, {Key: "j", Value: "2"}}},
	}}
}

const fullBody = "\x8c\x01\x06\x0a\x0c\x0e\x04" + "\x00\x12\x00\x02k\x02v\x02\x02h\x021" + "\x04\x10\x02\x00\x02w\x04\x02i\x00\x02j\x022"

// places are records that have nothing but their places.
func places(l ...int) []api.Record {
	var r []api.Record
	for _, at := range l {
		r = append(r, api.Record{At: at})
	}
	return r
}

func rising(n int) []int {
	l := make([]int, n)
	for i := range l {
		l[i] = i
	}
	return l
}

// large is a batch whose body has 60000 bytes, and so many more.
func large(more int) api.Batch {
	b := plain(0, 50)
	for i := range 29 {
		b.Records = append(b.Records, api.Record{At: i, Key: text(1000), Value: text(1000)})
	}
	b.Records = append(b.Records, api.Record{At: 29, Key: text(1000), Value: text(754 + more)})
	return b
}

// huge is as many records as there may be, each as long as one may be.
func huge() api.Batch {
	b := plain(0, 50)
	for i := range 50 {
		r := api.Record{At: i, Key: text(1000), Value: text(1000)}
		for range 10 {
			r.Headers = append(r.Headers, api.Header{Key: text(1000), Value: text(1000)})
		}
		b.Records = append(b.Records, r)
	}
	return b
}

// mayBe are batches at the edges of what may be.
func mayBe() map[string]api.Batch {
	return map[string]api.Batch{
		"the least one":        plain(0, 1),
		"a full one":           full(),
		"the last Base":        plain(1<<40, 50),
		"the least numbers":    {Span: 1},
		"the last Producer":    {Span: 1, Producer: 1 << 30},
		"the last Epoch":       {Span: 1, Epoch: 1 << 15},
		"the last Seq":         {Span: 1, Seq: 1 << 30},
		"all last ones":        {Base: 1 << 40, Span: 50, Producer: 1 << 30, Epoch: 1 << 15, Seq: 1 << 30},
		"one record":           plain(0, 1, places(0)...),
		"the last place":       plain(0, 50, places(49)...),
		"gaps":                 plain(3, 50, places(4, 5, 17, 48)...),
		"just below the span":  plain(3, 6, places(0, 5)...),
		"fifty records":        plain(0, 50, places(rising(50)...)...),
		"a body of 60000":      large(0),
		"a body of 59999":      large(-1),
		"no records":           {Span: 50, Records: []api.Record{}},
		"times that fall":      plain(0, 3, api.Record{At: 0, Time: 1 << 40}, api.Record{At: 1, Time: 1}, api.Record{At: 2}),
		"a key that is gone":   plain(0, 1, api.Record{Key: "k", Gone: true}),
		"a key that is empty":  plain(0, 1, api.Record{Value: "v"}),
		"a record without key": plain(0, 1, api.Record{Bare: true, Value: "\x00\xff"}),
	}
}

// mayNot are batches just beyond those edges, but for the length of their bodies.
func mayNot() map[string]api.Batch {
	return map[string]api.Batch{
		"an empty one":               {},
		"a Base below 0":             plain(-1, 1),
		"the least Base":             plain(math.MinInt, 1),
		"a Base above 2^40":          plain(1<<40+1, 1),
		"the greatest Base":          plain(math.MaxInt, 1),
		"a Span of 0":                plain(0, 0),
		"a Span below 0":             plain(0, -1),
		"a Span of 51":               plain(0, 51),
		"the greatest Span":          plain(0, math.MaxInt, places(0)...),
		"a Producer above 2^30":      {Span: 1, Producer: 1<<30 + 1},
		"an Epoch above 2^15":        {Span: 1, Epoch: 1<<15 + 1},
		"a Seq above 2^30":           {Span: 1, Seq: 1<<30 + 1},
		"no Producer, but the rest":  {Span: 1, Producer: -1},
		"no Epoch, but the rest":     {Span: 1, Epoch: -1},
		"no Seq, but the rest":       {Span: 1, Seq: -1},
		"a Producer alone":           {Span: 1, Epoch: -1, Seq: -1},
		"an Epoch alone":             {Span: 1, Producer: -1, Seq: -1},
		"a Seq alone":                {Span: 1, Producer: -1, Epoch: -1},
		"all three -2":               {Span: 1, Producer: -2, Epoch: -2, Seq: -2},
		"a Producer of -2":           {Span: 1, Producer: -2, Epoch: -1, Seq: -1},
		"an Epoch of -2":             {Span: 1, Producer: -1, Epoch: -2, Seq: -1},
		"a Seq of -2":                {Span: 1, Producer: -1, Epoch: -1, Seq: -2},
		"a place twice":              plain(0, 50, places(0, 1, 1)...),
		"places that fall":           plain(0, 50, places(1, 0)...),
		"a place of the span":        plain(0, 1, places(1)...),
		"a place above the span":     plain(0, 3, places(0, 1, 4)...),
		"a place below 0":            plain(0, 3, places(-1)...),
		"places below 0":             plain(0, 3, places(math.MinInt, -1, 0)...),
		"a place of 50":              plain(0, 50, places(50)...),
		"51 records":                 plain(0, 50, places(append(rising(50), 50)...)...),
		"51 records at one place":    plain(0, 50, make([]api.Record, 51)...),
		"many records":               plain(0, 50, make([]api.Record, 1000)...),
		"a record that may not be":   plain(0, 1, api.Record{Bare: true, Gone: true}),
		"a last one that may not be": plain(0, 3, api.Record{}, api.Record{At: 1}, api.Record{At: 2, Time: -1}),
		"a Key of 1001":              plain(0, 1, api.Record{Key: text(1001)}),
		"a Header without Key":       plain(0, 1, api.Record{Headers: []api.Header{{}}}),
	}
}

// tooLong are batches that may not be, just for the length of their bodies.
func tooLong() map[string]api.Batch {
	return map[string]api.Batch{
		"a body of 60001":  large(1),
		"the longest body": huge(),
		"a body of 60040":  large(40),
		"larger numbers":   {Base: 1 << 40, Span: 50, Producer: 1, Epoch: 1, Seq: 1, Records: large(0).Records},
	}
}

// bodyOf writes a batch's fields as they are, whether it may be or not.
func bodyOf(b api.Batch) string {
	s := varint.Put(b.Base) + varint.Put(b.Span) + varint.Put(b.Producer) + varint.Put(b.Epoch) + varint.Put(b.Seq)
	s += varint.Put(len(b.Records))
	for _, r := range b.Records {
		marks := 0
		if r.Bare {
			marks = 1
		}
		if r.Gone {
			marks += 2
		}
		s += varint.Put(r.At) + varint.Put(r.Time) + varint.Put(marks) + varint.Text(r.Key) + varint.Text(r.Value)
		s += varint.Put(len(r.Headers))
		for _, h := range r.Headers {
			s += varint.Text(h.Key) + varint.Text(h.Value)
		}
	}
	return s
}

// framed puts a length and a sum ahead of a body.
func framed(body string) string {
	b := binary.BigEndian.AppendUint32(nil, uint32(len(body)))
	b = binary.BigEndian.AppendUint32(b, crc32.Checksum([]byte(body), crc32.MakeTable(crc32.Castagnoli)))
	return string(b) + body
}

// same tells whether two batches are, with lists that are nil or empty as the same.
func same(a, b api.Batch) bool {
	return reflect.DeepEqual(evened(a), evened(b))
}

func evened(b api.Batch) api.Batch {
	l := []api.Record{}
	for _, r := range b.Records {
		r.Headers = append([]api.Header{}, r.Headers...)
		l = append(l, r)
	}
	b.Records = l
	return b
}

func sameAll(a, b []api.Batch) bool { return slices.EqualFunc(a, b, same) }

func encode(t *testing.T, b api.Batch) string {
	t.Helper()
	s, e := batch.Encode(b)
	if s == "" || e != api.OK {
		t.Fatalf("P5.1: Encode of %+v: %x, %d", b, s, e)
	}
	return s
}

func refused(t *testing.T, name string, s string, at int, want api.Errno) {
	t.Helper()
	b, place, e := batch.Decode(s, at)
	if len(b.Records) > 0 || !same(b, api.Batch{}) || place != 0 || e != want {
		t.Errorf("P5.2: Decode of %s: %+v, %d, %d, want nothing, 0, %d", name, b, place, e, want)
	}
}

func TestBatchesThatMayBe(t *testing.T) {
	for name, b := range mayBe() {
		if e := batch.Check(b); e != api.OK {
			t.Errorf("P5.1: Check of %s: %d", name, e)
		}
		s := encode(t, b)
		if s != framed(bodyOf(b)) {
			t.Errorf("P5.1: Encode of %s: %x", name, s)
		}
		for _, ahead := range []string{"", "\x00", text(70)} {
			for _, behind := range []string{"", "\x00", s} {
				back, at, e := batch.Decode(ahead+s+behind, len(ahead))
				if !same(back, b) || at != len(ahead)+len(s) || e != api.OK {
					t.Errorf("P5.4: Decode of %s behind %d bytes: %+v, %d, %d", name, len(ahead), back, at, e)
				}
			}
		}
	}
}

func TestBatchesThatMayNotBe(t *testing.T) {
	for _, l := range []map[string]api.Batch{mayNot(), tooLong()} {
		for name, b := range l {
			if e := batch.Check(b); e != api.ErrArg {
				t.Errorf("P5.1: Check of %s: %d, want ErrArg", name, e)
			}
			if s, e := batch.Encode(b); s != "" || e != api.ErrArg {
				t.Errorf("P5.1: Encode of %s: %x, %d, want ErrArg", name, s, e)
			}
		}
	}
}

func TestLargestBody(t *testing.T) {
	if n := len(bodyOf(large(0))); n != api.MaxFrame {
		t.Fatalf("large is of %d bytes", n)
	}
	if s := encode(t, large(0)); len(s) != 60008 || s[:4] != "\x00\x00\xea\x60" {
		t.Errorf("P5.1: Encode of a body of 60000: %x of %d bytes", s[:4], len(s))
	}
}

func TestEncodedBytes(t *testing.T) {
	for _, c := range []struct {
		b    api.Batch
		body string
	}{
		{plain(0, 1), "\x00\x02\x01\x01\x01\x00"},
		{full(), fullBody},
		{api.Batch{Base: 1 << 40, Span: 50, Producer: 1 << 30, Epoch: 1 << 15, Seq: 1 << 30}, "\x80\x80\x80\x80\x80\x40\x64\x80\x80\x80\x80\x08\x80\x80\x04\x80\x80\x80\x80\x08\x00"},
		{plain(2, 1, places(0)...), "\x04\x02\x01\x01\x01\x02\x00\x00\x00\x00\x00\x00"},
	} {
		if s := encode(t, c.b); s != framed(c.body) {
			t.Errorf("P5.1: Encode of %+v: %x, want %x", c.b, s, framed(c.body))
		}
	}
	// Not by way of a sum that the test makes.
	if s := encode(t, plain(0, 1)); s != "\x00\x00\x00\x06\x4c\xae\x03\x63\x00\x02\x01\x01\x01\x00" {
		t.Errorf("P5.1: Encode of the least batch: %x", s)
	}
}

func TestDecodeAtWrongPlaces(t *testing.T) {
	for _, s := range []string{"", "\xff\xff\xff\xff", framed(fullBody)} {
		for _, at := range []int{-1, math.MinInt, len(s) + 1, math.MaxInt} {
			refused(t, "a place beyond", s, at, api.ErrArg)
		}
		refused(t, "the end", s, len(s), api.ErrCut)
	}
}

// TestFirstErrorIsTold has bytes with two faults: the one that the promise names first is told.
func TestFirstErrorIsTold(t *testing.T) {
	good := framed(fullBody)
	sum := good[4:8]
	for _, c := range []struct {
		name string
		s    string
		e    api.Errno
	}{
		{"seven bytes", good[:7], api.ErrCut},
		{"a length that is too great, and no sum", "\xff\xff\xff\xff", api.ErrCut},
		{"a length that is too great, and half a sum", "\xff\xff\xff\xff\x00\x00\x00", api.ErrCut},
		{"a length that is too great", "\xff\xff\xff\xff\x00\x00\x00\x00", api.ErrForm},
		{"a length of 60001, cut off", "\x00\x00\xea\x61" + sum, api.ErrForm},
		{"a length of 60001, whole", framed(text(60001)), api.ErrForm},
		{"a length of 60001, a wrong sum", "\x00\x00\xea\x61\x00\x00\x00\x00" + text(60001), api.ErrForm},
		{"a body of 60001", framed(bodyOf(large(1))), api.ErrForm},
		{"a length of 60000, cut off", "\x00\x00\xea\x60" + sum, api.ErrCut},
		{"a length of 60000, short of a byte", "\x00\x00\xea\x60" + sum + text(59999), api.ErrCut},
		{"a length of 60000, a wrong sum", "\x00\x00\xea\x60" + sum + text(60000), api.ErrSum},
		{"a length of 60000, no body", framed(text(60000)), api.ErrForm},
		{"a wrong sum, short of a byte", "\x00\x00\x00\x02\x00\x00\x00\x00a", api.ErrCut},
		{"a wrong sum, no body", "\x00\x00\x00\x02\x00\x00\x00\x00ab", api.ErrSum},
		{"a sum of the other order", good[:4] + string([]byte{sum[3], sum[2], sum[1], sum[0]}) + fullBody, api.ErrSum},
		{"a sum whose highest bit is turned", good[:4] + string([]byte{sum[0] ^ 0x80}) + good[5:], api.ErrSum},
		{"a length of the other order", "\x27\x00\x00\x00" + sum + fullBody, api.ErrForm},
		{"nothing, with its sum", framed(""), api.ErrForm},
		{"nothing, with another sum", "\x00\x00\x00\x00\x00\x00\x00\x01", api.ErrSum},
	} {
		refused(t, c.name, c.s, 0, c.e)
		refused(t, c.name+", behind others", good+c.s, len(good), c.e)
	}
}

func TestDecodeOfBytesThatAreCutOff(t *testing.T) {
	for name, b := range mayBe() {
		s := encode(t, b)
		for n := 0; n < len(s); n += 1 + len(s)/500 {
			refused(t, name+", cut off", s[:n], 0, api.ErrCut)
			refused(t, name+", cut off behind others", "\xff"+s[:n], 1, api.ErrCut)
		}
		refused(t, name+", without its last byte", s[:len(s)-1], 0, api.ErrCut)
	}
}

func TestDecodeOfBodiesThatMayNotBe(t *testing.T) {
	for name, b := range mayNot() {
		refused(t, name, framed(bodyOf(b)), 0, api.ErrForm)
		refused(t, name+", and more", framed(bodyOf(b))+framed(fullBody), 0, api.ErrForm)
	}
	numbers := "\x00\x64\x01\x01\x01"
	bare := "\x00\x00\x00\x00\x00\x00"
	for name, body := range map[string]string{
		"a byte too many":                 fullBody + "\x00",
		"a record too many":               numbers + "\x02" + bare + bare,
		"a batch behind":                  fullBody + fullBody,
		"a record too few":                numbers + "\x04" + bare,
		"a count below 0":                 numbers + "\x01",
		"a count below 0, and a record":   numbers + "\x01" + bare,
		"the least count":                 numbers + varint.Put(math.MinInt),
		"a count of 51":                   numbers + "\x66",
		"the greatest count":              numbers + varint.Put(math.MaxInt),
		"a number that is too long":       "\x80\x00\x64\x01\x01\x01\x00",
		"a count that is too long":        numbers + "\x80\x00",
		"a number in a record, too long":  numbers + "\x02" + "\x80\x00\x00\x00\x00\x00\x00",
		"a wrong number behind a time":    numbers + "\x02" + "\x00\x00\x06\x00\x00\x00",
		"a number of ten bytes":           "\xff\xff\xff\xff\xff\xff\xff\xff\xff\x02\x64\x01\x01\x01\x00",
		"a record of what is behind":      numbers + "\x02",
		"numbers alone":                   numbers,
		"half a number":                   "\x00\x64\x01\x01\x81",
		"bytes that are nothing":          text(100),
		"a last record without its end":   numbers + "\x02" + bare[:5],
		"records that stand at one place": numbers + "\x04" + bare + bare,
	} {
		// What stands behind the body would make a good one of those that end too early.
		refused(t, name, framed(body), 0, api.ErrForm)
		refused(t, name+", and zeros behind it", framed(body)+strings.Repeat("\x00", 40), 0, api.ErrForm)
		refused(t, name+", behind others", framed(fullBody)+framed(body), 8+len(fullBody), api.ErrForm)
	}
	for n := range len(fullBody) {
		refused(t, "a body that is cut off", framed(fullBody[:n]), 0, api.ErrForm)
	}
}

func TestScan(t *testing.T) {
	one, two, three := full(), plain(0, 1), plain(9, 2, places(1)...)
	s1, s2, s3 := encode(t, one), encode(t, two), encode(t, three)
	turned := func(s string) string { return s[:len(s)-1] + string([]byte{s[len(s)-1] ^ 1}) }
	for _, c := range []struct {
		name string
		s    string
		want []api.Batch
		n    int
	}{
		{"nothing", "", nil, 0},
		{"no batch", text(20), nil, 0},
		{"one", s1, []api.Batch{one}, len(s1)},
		{"one, and half of another one", s1 + s3[:len(s3)/2], []api.Batch{one}, len(s1)},
		{"one, and no other's last byte", s1 + s3[:len(s3)-1], []api.Batch{one}, len(s1)},
		{"three", s1 + s2 + s3, []api.Batch{one, two, three}, len(s1 + s2 + s3)},
		{"one three times", s2 + s2 + s2, []api.Batch{two, two, two}, 3 * len(s2)},
		{"a byte ahead", "\x00" + s1, nil, 0},
		{"a byte between", s1 + "\x00" + s2, []api.Batch{one}, len(s1)},
		{"zeros behind", s1 + strings.Repeat("\x00", 50), []api.Batch{one}, len(s1)},
		{"the first one turned", turned(s1) + s2, nil, 0},
		{"the second one turned", s1 + turned(s2) + s3, []api.Batch{one}, len(s1)},
		{"the last one turned", s1 + s2 + turned(s3), []api.Batch{one, two}, len(s1 + s2)},
		{"one that may not be between", s1 + framed(bodyOf(plain(0, 51))) + s2, []api.Batch{one}, len(s1)},
		{"one that is too long between", s2 + framed(bodyOf(large(1))) + s2, []api.Batch{two}, len(s2)},
		{"a longest one between", s2 + encode(t, large(0)) + s2, []api.Batch{two, large(0), two}, 2*len(s2) + 60008},
	} {
		if l, n := batch.Scan(c.s); !sameAll(l, c.want) || n != c.n {
			t.Errorf("P5.3: Scan of %s: %+v, %d, want %d", c.name, l, n, c.n)
		}
	}
}

func TestScanOfBytesThatAreCutOff(t *testing.T) {
	r := rand.New(rand.NewSource(1))
	var l []api.Batch
	all := ""
	ends := []int{0}
	for range 12 {
		b := someBatch(r)
		l, all = append(l, b), all+encode(t, b)
		ends = append(ends, len(all))
	}
	whole := 0
	for n := range len(all) + 1 {
		for whole < len(l) && ends[whole+1] <= n {
			whole++
		}
		if got, end := batch.Scan(all[:n]); end != ends[whole] || len(got) != whole || n%17 == 0 && !sameAll(got, l[:whole]) {
			t.Fatalf("P5.3: Scan of the first %d of %d bytes: %d batches of %d bytes, want %d of %d", n, len(all), len(got), end, whole, ends[whole])
		}
	}
}

func TestScanOfMany(t *testing.T) {
	s := encode(t, plain(0, 1))
	const many = 20000
	if l, n := batch.Scan(strings.Repeat(s, many) + s[:9]); len(l) != many || n != many*len(s) || !same(l[many-1], plain(0, 1)) {
		t.Errorf("P5.3: Scan of %d batches: %d, %d", many, len(l), n)
	}
}

func someBatch(r *rand.Rand) api.Batch {
	some := func(n int) string {
		b := make([]byte, r.Intn(n))
		r.Read(b)
		return string(b)
	}
	b := plain(r.Intn(1<<40+1), 1+r.Intn(50))
	if r.Intn(2) == 0 {
		b.Producer, b.Epoch, b.Seq = r.Intn(1<<30+1), r.Intn(1<<15+1), r.Intn(1<<30+1)
	}
	for at := r.Intn(5); at < b.Span; at += 1 + r.Intn(20) {
		x := api.Record{At: at, Time: r.Intn(1<<40 + 1), Key: some(9), Value: some(70)}
		switch r.Intn(3) {
		case 0:
			x.Bare, x.Key = true, ""
		case 1:
			x.Gone, x.Value = true, ""
		}
		for range r.Intn(4) {
			x.Headers = append(x.Headers, api.Header{Key: "k" + some(5), Value: some(5)})
		}
		b.Records = append(b.Records, x)
	}
	return b
}

func TestBatchesOneBehindTheOther(t *testing.T) {
	r := rand.New(rand.NewSource(2))
	var l []api.Batch
	all := ""
	for range 500 {
		b := someBatch(r)
		s := encode(t, b)
		if s != framed(bodyOf(b)) {
			t.Fatalf("P5.1: Encode of %+v: %x", b, s)
		}
		l, all = append(l, b), all+s
	}
	at := 0
	for _, b := range l {
		back, place, e := batch.Decode(all, at)
		if !same(back, b) || e != api.OK {
			t.Fatalf("P5.4: Decode at %d: %+v, %d, want %+v", at, back, e, b)
		}
		at = place
	}
	if at != len(all) {
		t.Errorf("P5.4: decoded up to %d of %d", at, len(all))
	}
	if got, n := batch.Scan(all); !sameAll(got, l) || n != len(all) {
		t.Errorf("P5.3: Scan of %d batches: %d of %d bytes", len(l), len(got), n)
	}
}

// TestBitsThatAreTurned turns any bits of a body within 32 that stand one behind the other: each is told by the sum.
func TestBitsThatAreTurned(t *testing.T) {
	r := rand.New(rand.NewSource(3))
	s := framed(fullBody)
	turn := func(first int, pattern uint32) string {
		b := []byte(s)
		for i := range 32 {
			if bit := first + i; pattern>>i&1 == 1 && bit < 8*len(fullBody) {
				b[8+bit/8] ^= 1 << (bit % 8)
			}
		}
		return string(b)
	}
	for first := range 8 * len(fullBody) {
		patterns := []uint32{1, 3, 5, 0xff, 0x80000001, 0xffffffff, 0x82f63b79, 0x105ec76f}
		for range 100 {
			patterns = append(patterns, r.Uint32()|1)
		}
		for _, p := range patterns {
			bad := turn(first, p)
			refused(t, "turned bits", bad, 0, api.ErrSum)
			if l, n := batch.Scan(s + bad); len(l) != 1 || n != len(s) {
				t.Fatalf("P5.4: Scan of bits %x turned at %d: %d batches of %d bytes", p, first, len(l), n)
			}
		}
	}
}

// TestWhatIsDecodedIsEncodedToTheSame turns bytes of bodies, and sums them anew: what is taken then is what those bytes are of, all else is nothing.
func TestWhatIsDecodedIsEncodedToTheSame(t *testing.T) {
	r := rand.New(rand.NewSource(4))
	taken := 0
	for range 50000 {
		body := []byte(bodyOf(someBatch(r)))
		if r.Intn(2) == 0 {
			body = []byte(fullBody)
		}
		for range 1 + r.Intn(2) {
			body[r.Intn(len(body))] = byte(r.Intn(256))
		}
		s := framed(string(body))
		b, at, e := batch.Decode(s, 0)
		if e != api.OK {
			if !same(b, api.Batch{}) || at != 0 || e != api.ErrForm {
				t.Fatalf("P5.2: Decode of %x: %+v, %d, %d", s, b, at, e)
			}
			continue
		}
		taken++
		if again, e := batch.Encode(b); at != len(s) || again != s || e != api.OK {
			t.Fatalf("P5.4: Decode of %x: %+v, %d: encoded %x, %d", s, b, at, again, e)
		}
	}
	if taken < 100 {
		t.Errorf("only %d were taken", taken)
	}
}

// TestAnyBytes has bytes of any kind: whatever they are, each call ends, and tells what is told for them again.
func TestAnyBytes(t *testing.T) {
	r := rand.New(rand.NewSource(5))
	for range 20000 {
		b := make([]byte, r.Intn(40))
		for i := range b {
			b[i] = byte(r.Intn(3) * r.Intn(128))
		}
		s := string(b)
		at := r.Intn(45) - 2
		x, place, e := batch.Decode(s, at)
		y, again, f := batch.Decode(s, at)
		if !same(x, y) || place != again || e != f {
			t.Fatalf("R6: Decode of %x at %d: %+v, then %+v", s, at, x, y)
		}
		if _, n := batch.Scan(s); n < 0 || n > len(s) {
			t.Fatalf("P5.3: Scan of %x: %d", s, n)
		}
	}
}

func TestNothingIsChanged(t *testing.T) {
	b := full()
	b.Records = append(make([]api.Record, 0, 9), b.Records...)
	batch.Check(b)
	batch.Encode(b)
	if !same(b, full()) || !reflect.DeepEqual(b.Records[:9][2:], make([]api.Record, 7)) {
		t.Errorf("R5: the batch that was handed in is now %+v", b)
	}
}

// spoil overwrites all lists of a batch, and their spare room.
func spoil(b api.Batch) {
	for _, r := range b.Records[:cap(b.Records)] {
		l := r.Headers[:cap(r.Headers)]
		for i := range l {
			l[i] = api.Header{Key: "spoilt"}
		}
	}
	l := b.Records[:cap(b.Records)]
	for i := range l {
		l[i] = api.Record{Key: "spoilt"}
	}
}

func TestAnswersAreNewMemory(t *testing.T) {
	s := framed(fullBody)
	one, _, _ := batch.Decode(s, 0)
	other, _, _ := batch.Decode(s, 0)
	spoil(one)
	if !same(other, full()) {
		t.Errorf("R5: two answers share lists: %+v", other)
	}
	l, _ := batch.Scan(s + s + s)
	m, _ := batch.Scan(s + s + s)
	spoil(l[1])
	for _, b := range []api.Batch{l[0], l[2], m[0], m[1], m[2]} {
		if !same(b, full()) {
			t.Errorf("R5: two batches of Scan share lists: %+v", b)
		}
	}
}
