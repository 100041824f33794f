package wire_test

import (
	"encoding/binary"
	"fmt"
	"math"
	"reflect"
	"strings"
	"testing"

	"flotsam/api"
	"flotsam/batch"
	"flotsam/expr"
	"flotsam/wire"
)

const (
	topNumber = 1 << 41
	topBytes  = 60000
)

// bytesOf is numbers and texts as bytes, by Go's own library.
func bytesOf(l ...any) string {
	var b []byte
	for _, v := range l {
		switch v := v.(type) {
		case int:
			b = binary.AppendVarint(b, int64(v))
		case string:
			b = append(binary.AppendVarint(b, int64(len(v))), v...)
		}
	}
	return string(b)
}

// with is a list with something else in a place.
func with(l []any, at int, v any) []any {
	return append(append(append([]any{}, l[:at]...), v), l[at+1:]...)
}

// one is a batch of a record, that nobody has sent.
func one(base int, key, value string) api.Batch {
	return api.Batch{Base: base, Span: 1, Producer: -1, Epoch: -1, Seq: -1, Records: []api.Record{{Key: key, Value: value}}}
}

// batchBytes are a batch's.
func batchBytes(t *testing.T, b api.Batch) string {
	t.Helper()
	s, e := batch.Encode(b)
	if e != api.OK {
		t.Fatalf("P5.1: %.200s: %d", fmt.Sprint(b), e)
	}
	return s
}

// filterBytes are a filter's.
func filterBytes(t *testing.T, x api.Expr) string {
	t.Helper()
	s, e := expr.Print(x)
	if e != api.OK {
		t.Fatalf("P6.2: %.200s: %d", fmt.Sprint(x), e)
	}
	return s
}

// encodes holds a request against its bytes, both ways.
func encodes(t *testing.T, what string, q wire.Request, want string) {
	t.Helper()
	if s, e := wire.Encode(q); s != want || e != api.OK {
		t.Errorf("P19.1: Encode of %s: %x, %d, want %x", what, s, e, want)
	}
	got, e := wire.Decode(want)
	if e != api.OK || !reflect.DeepEqual(got, q) {
		t.Errorf("P19.1: Decode of %s: %+v, %d, want %+v", what, got, e, q)
	}
	if s, e := wire.Encode(got); s != want || e != api.OK {
		t.Errorf("P19.4: Encode of what was decoded of %s: %x, %d", what, s, e)
	}
}

// mayNot has a request that may not be.
func mayNot(t *testing.T, what string, q wire.Request) {
	t.Helper()
	if s, e := wire.Encode(q); s != "" || e != api.ErrArg {
		t.Errorf("P19.1: Encode of %s: %d bytes, %d, want ErrArg", what, len(s), e)
	}
}

// isNone has bytes that are no request's.
func isNone(t *testing.T, what string, s string) {
	t.Helper()
	if q, e := wire.Decode(s); e != api.ErrForm || !reflect.DeepEqual(q, wire.Request{}) {
		t.Errorf("P19.1: Decode of %s: %+v, %d, want ErrForm", what, q, e)
	}
}

// full has something else in each field.
func full() wire.Request {
	return wire.Request{
		Kind: wire.Produce, Name: "name", Index: 1, Count: 2, From: 3, Flag: true,
		Batch: one(5, "k", "v"), Filter: api.Expr{Op: api.Not, Kids: []api.Expr{{Op: api.Has, Name: "a"}}},
		Group: "group", Member: 6, Generation: 7, Topics: []string{"x", "", "yy"},
	}
}

// fullParts are the numbers and texts of full, as they stand.
func fullParts(t *testing.T) []any {
	return []any{4, "name", 1, 2, 3, 1, batchBytes(t, one(5, "k", "v")), "\x03\x04\x02a", "group", 6, 7, 3, "x", "", "yy"}
}

func TestRequest(t *testing.T) {
	encodes(t, "the least one", wire.Request{Kind: 1}, "\x02\x00\x00\x00\x00\x00\x00\x02\x00\x00\x00\x00\x00")
	encodes(t, "a full one", full(), bytesOf(fullParts(t)...))
	encodes(t, "one with great numbers", wire.Request{
		Kind: 14, Name: "\xff\x00", Index: topNumber, Count: -1, From: topNumber - 1, Filter: api.Expr{Op: api.Is, Name: "n", Value: "v"},
		Group: "é", Member: -1, Generation: topNumber, Topics: []string{""},
	}, bytesOf(14, "\xff\x00", topNumber, -1, topNumber-1, 0, "", "\x05\x02n\x02v", "é", -1, topNumber, 1, ""))
	// Each field alone.
	none := []any{1, "", 0, 0, 0, 0, "", "\x00", "", 0, 0, 0}
	for _, c := range []struct {
		at int
		v  any
		q  wire.Request
	}{
		{1, "n", wire.Request{Name: "n"}}, {2, 9, wire.Request{Index: 9}}, {3, 9, wire.Request{Count: 9}}, {4, 9, wire.Request{From: 9}},
		{5, 1, wire.Request{Flag: true}}, {6, batchBytes(t, one(0, "", "")), wire.Request{Batch: one(0, "", "")}},
		{7, "\x07\x02w", wire.Request{Filter: api.Expr{Op: api.Word, Value: "w"}}}, {8, "g", wire.Request{Group: "g"}},
		{9, 9, wire.Request{Member: 9}}, {10, 9, wire.Request{Generation: 9}},
	} {
		c.q.Kind = 1
		encodes(t, "one with one field", c.q, bytesOf(with(none, c.at, c.v)...))
	}
}

func TestKinds(t *testing.T) {
	kinds := []int{
		wire.Create, wire.Delete, wire.Describe, wire.Produce, wire.Fetch, wire.Seek, wire.Trim,
		wire.Join, wire.Share, wire.Beat, wire.Leave, wire.Commit, wire.Committed, wire.Identify,
	}
	parts := fullParts(t)
	for i, kind := range kinds {
		if kind != i+1 {
			t.Errorf("P19.1: a kind: %d, want %d", kind, i+1)
		}
		q := full()
		q.Kind = kind
		encodes(t, "a kind", q, bytesOf(with(parts, 0, kind)...))
	}
	for _, kind := range []int{math.MinInt, -1, 0, 15, 1<<32 + 1, math.MaxInt} {
		q := full()
		q.Kind = kind
		mayNot(t, "no kind", q)
		isNone(t, "no kind", bytesOf(with(parts, 0, kind)...))
	}
}

func TestNumbers(t *testing.T) {
	parts := fullParts(t)
	for at, field := range map[int]func(q *wire.Request) *int{
		2:  func(q *wire.Request) *int { return &q.Index },
		3:  func(q *wire.Request) *int { return &q.Count },
		4:  func(q *wire.Request) *int { return &q.From },
		9:  func(q *wire.Request) *int { return &q.Member },
		10: func(q *wire.Request) *int { return &q.Generation },
	} {
		q := full()
		for _, n := range []int{-1, 0, 1, 1 << 31, 1 << 40, 1<<40 + 1, topNumber - 1, topNumber} {
			*field(&q) = n
			encodes(t, "a number", q, bytesOf(with(parts, at, n)...))
		}
		for _, n := range []int{math.MinInt, -topNumber, -2, topNumber + 1, 1 << 42, math.MaxInt} {
			*field(&q) = n
			mayNot(t, "a number that may not be", q)
			isNone(t, "a number that may not be", bytesOf(with(parts, at, n)...))
		}
	}
}

func TestNames(t *testing.T) {
	parts := fullParts(t)
	for at, field := range map[int]func(q *wire.Request) *string{
		1:  func(q *wire.Request) *string { return &q.Name },
		8:  func(q *wire.Request) *string { return &q.Group },
		12: func(q *wire.Request) *string { return &q.Topics[0] },
		14: func(q *wire.Request) *string { return &q.Topics[2] },
	} {
		q := full()
		for _, s := range []string{"", "a", "\x00", "\xff\xfe", strings.Repeat("n", 63), strings.Repeat("n", 64), strings.Repeat("n", 99), strings.Repeat("n", 100)} {
			*field(&q) = s
			encodes(t, "a name", q, bytesOf(with(parts, at, s)...))
		}
		for _, n := range []int{101, 102, 1000, 70000} {
			s := strings.Repeat("n", n)
			*field(&q) = s
			mayNot(t, "a name that may not be", q)
			isNone(t, "a name that may not be", bytesOf(with(parts, at, s)...))
		}
		// Characters of more bytes than one count by their bytes.
		*field(&q) = strings.Repeat("é", 51)
		mayNot(t, "a name of 51 characters and 102 bytes", q)
	}
}

func TestFlag(t *testing.T) {
	parts := fullParts(t)
	q := full()
	q.Flag = false
	encodes(t, "no flag", q, bytesOf(with(parts, 5, 0)...))
	for _, n := range []int{math.MinInt, -1, 2, 3, 256, 257, math.MaxInt} {
		isNone(t, "a wrong flag", bytesOf(with(parts, 5, n)...))
	}
}

func TestTopics(t *testing.T) {
	head := fullParts(t)[:11]
	many := func(n int) ([]string, []any) {
		var l []string
		parts := append(append([]any{}, head...), n)
		for i := range n {
			// They need not rise, nor be unlike.
			s := strings.Repeat("t", (97*i+100)%101)
			l, parts = append(l, s), append(parts, s)
		}
		return l, parts
	}
	q := full()
	for n := range 21 {
		l, parts := many(n)
		q.Topics = l
		encodes(t, "some topics", q, bytesOf(parts...))
		isNone(t, "topics, and one more", bytesOf(append(parts, "x")...))
		if n > 0 {
			isNone(t, "topics, and one is missing", bytesOf(parts[:len(parts)-1]...))
		}
	}
	for _, n := range []int{21, 22, 100, 10000} {
		l, parts := many(n)
		q.Topics = l
		mayNot(t, "too many topics", q)
		isNone(t, "too many topics", bytesOf(parts...))
	}
	q.Topics = make([]string, 21)
	mayNot(t, "too many topics without a name", q)
	for _, n := range []int{math.MinInt, -1, 21, math.MaxInt} {
		isNone(t, "so many topics", bytesOf(append(append([]any{}, head...), n)...))
	}
}

func TestFilters(t *testing.T) {
	parts := fullParts(t)
	deep := api.Expr{Op: api.All}
	for range 5 {
		deep = api.Expr{Op: api.Not, Kids: []api.Expr{deep}}
	}
	wide := api.Expr{Op: api.Or, Kids: make([]api.Expr, 29)}
	for _, x := range []api.Expr{
		{}, {Op: api.And, Kids: []api.Expr{{}, {Op: api.Prefix, Value: "p"}}}, {Op: api.Is, Name: strings.Repeat("n", 1000), Value: strings.Repeat("v", 1000)}, deep, wide,
	} {
		q := full()
		q.Filter = x
		encodes(t, "a filter", q, bytesOf(with(parts, 7, filterBytes(t, x))...))
	}
	endless := api.Expr{Op: api.Not, Kids: make([]api.Expr, 1)}
	endless.Kids[0] = endless
	for _, x := range []api.Expr{
		{Op: 8}, {Op: -1}, {Op: math.MaxInt}, {Name: "n"}, {Value: "v"}, {Kids: []api.Expr{{}}}, {Op: api.Has}, {Op: api.Prefix}, {Op: api.Word},
		{Op: api.And}, {Op: api.Or, Kids: []api.Expr{{}}}, {Op: api.Not}, {Op: api.Not, Kids: []api.Expr{deep}},
		{Op: api.Or, Kids: make([]api.Expr, 30)}, {Op: api.Has, Name: strings.Repeat("n", 1001)}, endless,
	} {
		q := full()
		q.Filter = x
		mayNot(t, "a filter that may not be", q)
	}
	for _, s := range []string{
		"", "\x08", "\xff", "\x00\x00", "\x03", "\x03\x00\x00", "\x01\x02\x00", "\x01\x01\x00", "\x04\x00", "\x04\x02", "\x04\x02ab", "\x04\x82\x00a",
		strings.Repeat("\x03", 6) + "\x00", "\x02\x1e" + strings.Repeat("\x00", 30),
	} {
		isNone(t, "a filter that is none", bytesOf(with(parts, 7, s)...))
	}
}

func TestBatches(t *testing.T) {
	parts := fullParts(t)
	q := full()
	for _, b := range []api.Batch{
		{Span: 1}, {Span: 50, Producer: 1 << 30, Epoch: 1 << 15, Seq: 1 << 30, Base: 1 << 40}, {Base: 3, Span: 9, Producer: -1, Epoch: -1, Seq: -1},
		{Span: 3, Producer: 1, Records: []api.Record{{At: 1, Bare: true, Value: "v", Headers: []api.Header{{Key: "a"}, {Key: "b", Value: "c"}}}, {At: 2, Gone: true, Time: 1 << 40}}},
	} {
		q.Batch = b
		encodes(t, "a batch", q, bytesOf(with(parts, 6, batchBytes(t, b))...))
	}
	q.Batch = api.Batch{}
	encodes(t, "no batch", q, bytesOf(with(parts, 6, "")...))
	q.Batch.Records = []api.Record{}
	if s, e := wire.Encode(q); s != bytesOf(with(parts, 6, "")...) || e != api.OK {
		t.Errorf("P19.1: an empty batch with a list of no records: %x, %d", s, e)
	}
	// Of an empty one each field is zero: with any of these it is not empty, and may not be.
	for _, b := range []api.Batch{
		{Base: 1}, {Producer: 1}, {Epoch: 1}, {Seq: 1}, {Producer: -1, Epoch: -1, Seq: -1}, {Records: []api.Record{{}}}, {Base: -1},
		{Span: 51}, {Span: -1}, {Span: 1, Epoch: -1}, {Span: 1, Base: -1}, {Span: 1, Base: 1<<40 + 1}, {Span: 1, Records: []api.Record{{At: 1}}},
		{Span: 1, Records: []api.Record{{Bare: true, Key: "k"}}}, {Span: 1, Records: make([]api.Record, 51)},
	} {
		q.Batch = b
		mayNot(t, "a batch that may not be", q)
	}
	s := batchBytes(t, one(5, "k", "v"))
	for _, wrong := range []string{
		s + "\x00", s + s, s[:len(s)-1], s[:8], s[:7], s[:1], "\x00", "\x00\x00\x00\x00\x00\x00\x00\x00", s[1:],
		s[:8] + "\x0c" + s[9:], s[:4] + "\x00\x00\x00\x00" + s[8:], "\x00\x00\xea\x61" + s[4:], s[:len(s)-1] + "\x02",
	} {
		isNone(t, "a batch that is none", bytesOf(with(parts, 6, wrong)...))
	}
}

// sized is a request of so many bytes.
func sized(t *testing.T, n int) wire.Request {
	q := full()
	q.Name = ""
	q.Batch = api.Batch{Base: 1, Span: 50}
	room := func() int { return n - len(requestBytes(t, q)) }
	for at := 0; room() > 900; at++ {
		long := min(1000, (room()-900)/2)
		q.Batch.Records = append(q.Batch.Records, api.Record{At: at, Key: strings.Repeat("k", long), Value: strings.Repeat("v", long)})
	}
	last := &q.Batch.Records[len(q.Batch.Records)-1]
	last.Headers = []api.Header{{Key: "h", Value: strings.Repeat("h", room()-50)}}
	q.Name = strings.Repeat("n", room())
	if room() != 0 || len(q.Name) > 60 {
		t.Fatalf("%d bytes too few, with a name of %d", room(), len(q.Name))
	}
	return q
}

func TestSize(t *testing.T) {
	for _, n := range []int{topBytes - 1, topBytes} {
		q := sized(t, n)
		s, e := wire.Encode(q)
		if len(s) != n || e != api.OK {
			t.Fatalf("P19.1: a request of %d bytes: %d, %d", n, len(s), e)
		}
		if got, e := wire.Decode(s); e != api.OK || !reflect.DeepEqual(got, q) {
			t.Errorf("P19.1: Decode of a request of %d bytes: %d", n, e)
		}
	}
	for _, n := range []int{topBytes + 1, topBytes + 2, topBytes + 30} {
		q := sized(t, n)
		mayNot(t, "a request of too many bytes", q)
		isNone(t, "a request of too many bytes", requestBytes(t, q))
	}
	// What makes too many of them stands at the end.
	q := sized(t, topBytes)
	q.Topics = append(q.Topics, "")
	mayNot(t, "a topic too many", q)
	q.Topics[3], q.Name = "more", q.Name[5:]
	if s, e := wire.Encode(q); len(s) != topBytes || e != api.OK {
		t.Errorf("P19.1: a request of so many bytes: %d, %d", len(s), e)
	}
	q.Topics[3] = "more."
	mayNot(t, "a byte too many", q)
	// A batch that may be alone has more bytes than all may have.
	q = full()
	q.Batch = api.Batch{Span: 50}
	for at := range 30 {
		q.Batch.Records = append(q.Batch.Records, api.Record{At: at, Key: strings.Repeat("k", 1000), Value: strings.Repeat("v", 991)})
	}
	if n := len(batchBytes(t, q.Batch)); n <= topBytes-30 || n > topBytes+8 {
		t.Fatalf("a batch of %d bytes", n)
	}
	mayNot(t, "a batch that leaves no room", q)
	// Neither is a text of any length taken in.
	isNone(t, "zeroes", strings.Repeat("\x00", topBytes))
	isNone(t, "many zeroes", strings.Repeat("\x00", 1<<20))
	isNone(t, "one, and zeroes", bytesOf(fullParts(t)...)+strings.Repeat("\x00", 1<<20))
}
