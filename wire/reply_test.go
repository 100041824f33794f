package wire_test

import (
	"math"
	"reflect"
	"strings"
	"testing"

	"flotsam/api"
	"flotsam/wire"
)

// answers holds a reply against its bytes, both ways.
func answers(t *testing.T, what string, r wire.Reply, want string) {
	t.Helper()
	if s, e := wire.Answer(r); s != want || e != api.OK {
		t.Errorf("P19.2: Answer of %s: %x, %d, want %x", what, s, e, want)
	}
	got, e := wire.Read(want)
	if e != api.OK || !reflect.DeepEqual(got, r) {
		t.Errorf("P19.2: Read of %s: %+v, %d, want %+v", what, got, e, r)
	}
	if s, e := wire.Answer(got); s != want || e != api.OK {
		t.Errorf("P19.4: Answer of what was read of %s: %x, %d", what, s, e)
	}
}

func mayNotAnswer(t *testing.T, what string, r wire.Reply) {
	t.Helper()
	if s, e := wire.Answer(r); s != "" || e != api.ErrArg {
		t.Errorf("P19.2: Answer of %s: %d bytes, %d, want ErrArg", what, len(s), e)
	}
}

func isNoReply(t *testing.T, what string, s string) {
	t.Helper()
	if r, e := wire.Read(s); e != api.ErrForm || !reflect.DeepEqual(r, wire.Reply{}) {
		t.Errorf("P19.2: Read of %s: %+v, %d, want ErrForm", what, r, e)
	}
}

// fullReply has something else in each field.
func fullReply() wire.Reply {
	return wire.Reply{
		Error: api.ErrWait, At: 1, Start: 2, End: 3, Member: 4, Generation: 5, Leader: 6,
		Batches: []api.Batch{one(5, "k", "v"), {Base: 6, Span: 3, Producer: 1, Epoch: 2, Seq: 3}},
		Topics:  []api.Topic{{Name: "t", Parts: 7}, {Parts: 8}, {Name: "u"}},
		Parts:   []api.Part{{Topic: "v", Index: 9}},
	}
}

// replyParts are the numbers and texts of fullReply, as they stand.
func replyParts(t *testing.T) []any {
	r := fullReply()
	return []any{13, 1, 2, 3, 4, 5, 6, 2, batchBytes(t, r.Batches[0]), batchBytes(t, r.Batches[1]), 3, "t", 7, "", 8, "u", 0, 1, "v", 9}
}

func TestReply(t *testing.T) {
	answers(t, "the empty one", wire.Reply{}, strings.Repeat("\x00", 10))
	answers(t, "a bad one", wire.Reply{Error: api.ErrForm}, "\x06"+strings.Repeat("\x00", 9))
	answers(t, "a full one", fullReply(), bytesOf(replyParts(t)...))
	none := []any{0, 0, 0, 0, 0, 0, 0, 0, 0, 0}
	for at, r := range []wire.Reply{{Error: 9}, {At: 9}, {Start: 9}, {End: 9}, {Member: 9}, {Generation: 9}, {Leader: 9}} {
		answers(t, "one with one field", r, bytesOf(with(none, at, 9)...))
	}
	answers(t, "one with a batch", wire.Reply{Batches: []api.Batch{one(0, "", "")}}, strings.Repeat("\x00", 7)+bytesOf(1, batchBytes(t, one(0, "", "")), 0, 0))
	answers(t, "one with a topic", wire.Reply{Topics: []api.Topic{{}}}, strings.Repeat("\x00", 8)+bytesOf(1, "", 0, 0))
	answers(t, "one with a part", wire.Reply{Parts: []api.Part{{}}}, strings.Repeat("\x00", 9)+bytesOf(1, "", 0))
}

func TestReplyErrors(t *testing.T) {
	parts := replyParts(t)
	r := fullReply()
	for e := api.OK; e <= api.ErrThere; e++ {
		r.Error = e
		answers(t, "an error", r, bytesOf(with(parts, 0, int(e))...))
	}
	for _, n := range []int{math.MinInt, -1, 15, 16, 256, 1 << 32, math.MaxInt} {
		r.Error = api.Errno(n)
		mayNotAnswer(t, "no error", r)
		isNoReply(t, "no error", bytesOf(with(parts, 0, n)...))
	}
}

func TestReplyNumbers(t *testing.T) {
	parts := replyParts(t)
	for at, field := range map[int]func(r *wire.Reply) *int{
		1:  func(r *wire.Reply) *int { return &r.At },
		2:  func(r *wire.Reply) *int { return &r.Start },
		3:  func(r *wire.Reply) *int { return &r.End },
		4:  func(r *wire.Reply) *int { return &r.Member },
		5:  func(r *wire.Reply) *int { return &r.Generation },
		6:  func(r *wire.Reply) *int { return &r.Leader },
		12: func(r *wire.Reply) *int { return &r.Topics[0].Parts },
		16: func(r *wire.Reply) *int { return &r.Topics[2].Parts },
		19: func(r *wire.Reply) *int { return &r.Parts[0].Index },
	} {
		r := fullReply()
		for _, n := range []int{-1, 0, 17, 1 << 40, 1<<40 + 1, topNumber - 1, topNumber} {
			*field(&r) = n
			answers(t, "a number", r, bytesOf(with(parts, at, n)...))
		}
		for _, n := range []int{math.MinInt, -2, topNumber + 1, math.MaxInt} {
			*field(&r) = n
			mayNotAnswer(t, "a number that may not be", r)
			isNoReply(t, "a number that may not be", bytesOf(with(parts, at, n)...))
		}
	}
}

func TestReplyNames(t *testing.T) {
	parts := replyParts(t)
	for at, field := range map[int]func(r *wire.Reply) *string{
		11: func(r *wire.Reply) *string { return &r.Topics[0].Name },
		15: func(r *wire.Reply) *string { return &r.Topics[2].Name },
		18: func(r *wire.Reply) *string { return &r.Parts[0].Topic },
	} {
		r := fullReply()
		for _, s := range []string{"", "a", "\xff\x00", strings.Repeat("n", 100)} {
			*field(&r) = s
			answers(t, "a name", r, bytesOf(with(parts, at, s)...))
		}
		for _, n := range []int{101, 1000, 70000} {
			s := strings.Repeat("n", n)
			*field(&r) = s
			mayNotAnswer(t, "a name that may not be", r)
			isNoReply(t, "a name that may not be", bytesOf(with(parts, at, s)...))
		}
	}
}

// TestReplyCounts has as many of each list as may be, one more, and a number that is none.
func TestReplyCounts(t *testing.T) {
	small := api.Batch{Span: 1}
	for _, c := range []struct {
		what string
		zero int // of so many numbers ahead of it
		most int
		each []any
		put  func(r *wire.Reply, n int)
	}{
		{"batches", 7, 500, []any{batchBytes(t, small)}, func(r *wire.Reply, n int) {
			for range n {
				r.Batches = append(r.Batches, small)
			}
		}},
		{"topics", 8, 20, []any{"t", 3}, func(r *wire.Reply, n int) {
			for range n {
				r.Topics = append(r.Topics, api.Topic{Name: "t", Parts: 3})
			}
		}},
		{"parts", 9, 400, []any{"t", 3}, func(r *wire.Reply, n int) {
			for range n {
				r.Parts = append(r.Parts, api.Part{Topic: "t", Index: 3})
			}
		}},
	} {
		told := func(n, there int) string {
			s := strings.Repeat("\x00", c.zero) + bytesOf(n) + strings.Repeat(bytesOf(c.each...), there)
			return s + strings.Repeat("\x00", 9-c.zero)
		}
		for _, n := range []int{1, 2, 19, 20, c.most - 1, c.most} {
			var r wire.Reply
			c.put(&r, n)
			answers(t, c.what, r, told(n, n))
			isNoReply(t, "one less "+c.what, told(n, n-1))
			isNoReply(t, "one more "+c.what, told(n, n+1))
		}
		for _, n := range []int{c.most + 1, c.most + 2, 2 * c.most} {
			var r wire.Reply
			c.put(&r, n)
			mayNotAnswer(t, "too many "+c.what, r)
			isNoReply(t, "too many "+c.what, told(n, n))
		}
		for _, n := range []int{math.MinInt, -1, c.most + 1, math.MaxInt} {
			isNoReply(t, "so many "+c.what, told(n, 0))
			isNoReply(t, "so many "+c.what, told(n, 0)[:c.zero+len(bytesOf(n))])
		}
	}
}

func TestReplyBatches(t *testing.T) {
	parts := replyParts(t)
	r := fullReply()
	// An empty batch is none that a reply may have.
	for _, b := range []api.Batch{{}, {Records: []api.Record{}}, {Base: 1}, {Span: 51}, {Span: 1, Records: []api.Record{{At: 1}}}, {Base: -1, Span: 1}} {
		for i := range 2 {
			r := fullReply()
			r.Batches[i] = b
			mayNotAnswer(t, "a batch that may not be", r)
		}
	}
	s := batchBytes(t, r.Batches[0])
	for _, wrong := range []string{"", s + "\x00", s + s, s[:len(s)-1], s[:8], "\x00\x00\x00\x00\x00\x00\x00\x00", s[:8] + "\x0c" + s[9:]} {
		isNoReply(t, "a batch that is none", bytesOf(with(parts, 8, wrong)...))
		isNoReply(t, "a batch that is none", bytesOf(with(parts, 9, wrong)...))
	}
	// They need not follow one another.
	r.Batches = []api.Batch{one(9, "a", ""), one(3, "b", ""), one(9, "a", "")}
	answers(t, "batches that fall", r, bytesOf(append(append(append([]any{}, parts[:7]...), 3, batchBytes(t, r.Batches[0]), batchBytes(t, r.Batches[1]), batchBytes(t, r.Batches[2])), parts[10:]...)...))
}

// sizedReply is a reply of so many bytes.
func sizedReply(t *testing.T, n int) wire.Reply {
	r := fullReply()
	r.Parts[0].Topic = ""
	room := func() int { return n - len(replyBytes(t, r)) }
	for room() > 900 {
		long := min(1000, (room()-900)/2)
		r.Batches = append(r.Batches, one(1, strings.Repeat("k", long), strings.Repeat("v", long)))
	}
	r.Batches = append(r.Batches, one(1, "", strings.Repeat("v", room()-60)))
	r.Parts[0].Topic = strings.Repeat("n", room())
	if room() != 0 || len(r.Parts[0].Topic) > 60 {
		t.Fatalf("%d bytes too few, with a name of %d", room(), len(r.Parts[0].Topic))
	}
	return r
}

func TestReplySize(t *testing.T) {
	for _, n := range []int{topBytes - 1, topBytes} {
		r := sizedReply(t, n)
		s, e := wire.Answer(r)
		if len(s) != n || e != api.OK {
			t.Fatalf("P19.2: a reply of %d bytes: %d, %d", n, len(s), e)
		}
		if got, e := wire.Read(s); e != api.OK || !reflect.DeepEqual(got, r) {
			t.Errorf("P19.2: Read of a reply of %d bytes: %d", n, e)
		}
		if n == topBytes {
			r.Parts[0].Topic += "n"
			mayNotAnswer(t, "a byte too many", r)
		}
	}
	r := sizedReply(t, topBytes+1)
	mayNotAnswer(t, "a reply of too many bytes", r)
	isNoReply(t, "a reply of too many bytes", replyBytes(t, r))
	isNoReply(t, "zeroes", strings.Repeat("\x00", 1<<20))
	// As many batches as may be, each as great as may be.
	r = wire.Reply{}
	great := api.Batch{Span: 50}
	for at := range 30 {
		great.Records = append(great.Records, api.Record{At: at, Key: strings.Repeat("k", 1000), Value: strings.Repeat("v", 980)})
	}
	for range 500 {
		r.Batches = append(r.Batches, great)
	}
	mayNotAnswer(t, "many great batches", r)
}
