package wire_test

import (
	"cmp"
	"fmt"
	"math/rand"
	"reflect"
	"slices"
	"strings"
	"testing"

	"flotsam/api"
	"flotsam/wire"
)

// codes is one of the two things that are written and read, with what is asked of both.
type codes[T any] struct {
	t      *testing.T
	name   string
	encode func(T) (string, api.Errno)
	decode func(string) (T, api.Errno)
}

// strict: bytes are none, or they are those of what was read of them.
func (c codes[T]) strict(what string, s string) bool {
	c.t.Helper()
	var none T
	got, e := c.decode(s)
	if e == api.OK {
		if u, e := c.encode(got); u != s || e != api.OK {
			c.t.Fatalf("P19.4: %s of %s: what was read of %x is written as %x, %d", c.name, what, s, u, e)
		}
		return true
	}
	if e != api.ErrForm || !reflect.DeepEqual(got, none) {
		c.t.Fatalf("P19.4: %s of %s: %x: %+v, %d", c.name, what, s, got, e)
	}
	return false
}

// changed turns the bytes of something that may be, and cuts them.
func (c codes[T]) changed(v T, r *rand.Rand) {
	c.t.Helper()
	s, e := c.encode(v)
	if e != api.OK {
		c.t.Fatalf("P19.4: %s: %d: %+v", c.name, e, v)
	}
	for n := range len(s) {
		if c.strict("a beginning", s[:n]) {
			c.t.Fatalf("P19.4: %s of a beginning: %x of %x", c.name, s[:n], s)
		}
	}
	for _, more := range []string{"\x00", "\x02", "\x80", "\xff", s} {
		if c.strict("more", s+more) {
			c.t.Fatalf("P19.4: %s of more: %x and %x", c.name, s, more)
		}
	}
	taken := 0
	for i := range len(s) {
		for _, b := range []byte{s[i] ^ 1, s[i] ^ 2, s[i] ^ 0x80, 0, 0xff, byte(r.Intn(256))} {
			if b != s[i] && c.strict("another byte", s[:i]+string([]byte{b})+s[i+1:]) {
				taken++
			}
		}
		c.strict("a byte less", s[:i]+s[i+1:])
		c.strict("a byte more", s[:i]+string([]byte{byte(r.Intn(256))})+s[i:])
		c.strict("a number of too many bytes", s[:i]+string([]byte{s[i] | 0x80, 0})+s[i+1:])
	}
	if taken == 0 {
		c.t.Errorf("%s: nothing but %x is taken", c.name, s)
	}
}

func anyName(r *rand.Rand) string {
	b := make([]byte, []int{0, 1, 2, 5, 63, 64, 100}[r.Intn(7)])
	r.Read(b)
	return string(b)
}

func anyNumber(r *rand.Rand) int {
	return []int{-1, 0, 1, 63, 64, r.Intn(1000), r.Intn(topNumber + 1), topNumber}[r.Intn(8)]
}

func anyBatch(r *rand.Rand) api.Batch {
	b := api.Batch{Base: r.Intn(1<<40 + 1), Span: 1 + r.Intn(50), Producer: -1, Epoch: -1, Seq: -1}
	if r.Intn(2) == 0 {
		b.Producer, b.Epoch, b.Seq = r.Intn(1<<30+1), r.Intn(1<<15+1), r.Intn(1<<30+1)
	}
	for at := r.Intn(b.Span + 1); at < b.Span && len(b.Records) < 4; at += 1 + r.Intn(5) {
		rec := api.Record{At: at, Time: r.Intn(1000), Key: anyName(r), Value: anyName(r)}
		switch r.Intn(3) {
		case 0:
			rec.Bare, rec.Key = true, ""
		case 1:
			rec.Gone, rec.Value = true, ""
		}
		for range r.Intn(3) {
			rec.Headers = append(rec.Headers, api.Header{Key: "h" + anyName(r), Value: anyName(r)})
		}
		b.Records = append(b.Records, rec)
	}
	return b
}

func anyFilter(r *rand.Rand, level int) api.Expr {
	x := api.Expr{Op: r.Intn(8)}
	if level == 3 && x.Op >= api.And && x.Op <= api.Not {
		x.Op = api.Has
	}
	switch x.Op {
	case api.And, api.Or:
		x.Kids = []api.Expr{anyFilter(r, level+1), anyFilter(r, level+1)}
	case api.Not:
		x.Kids = []api.Expr{anyFilter(r, level+1)}
	case api.Has:
		x.Name = "n" + anyName(r)
	case api.Is:
		x.Name, x.Value = "n", anyName(r)
	case api.Prefix, api.Word:
		x.Value = "v" + anyName(r)
	}
	return x
}

func anyRequest(r *rand.Rand) wire.Request {
	q := wire.Request{
		Kind: 1 + r.Intn(14), Name: anyName(r), Index: anyNumber(r), Count: anyNumber(r), From: anyNumber(r), Flag: r.Intn(2) == 0,
		Filter: anyFilter(r, 1), Group: anyName(r), Member: anyNumber(r), Generation: anyNumber(r),
	}
	if r.Intn(2) == 0 {
		q.Batch = anyBatch(r)
	}
	for range r.Intn(4) {
		q.Topics = append(q.Topics, anyName(r))
	}
	return q
}

func anyReply(r *rand.Rand) wire.Reply {
	p := wire.Reply{
		Error: api.Errno(r.Intn(15)), At: anyNumber(r), Start: anyNumber(r), End: anyNumber(r),
		Member: anyNumber(r), Generation: anyNumber(r), Leader: anyNumber(r),
	}
	for range r.Intn(3) {
		p.Batches = append(p.Batches, anyBatch(r))
	}
	for range r.Intn(4) {
		p.Topics = append(p.Topics, api.Topic{Name: anyName(r), Parts: anyNumber(r)})
	}
	for range r.Intn(4) {
		p.Parts = append(p.Parts, api.Part{Topic: anyName(r), Index: anyNumber(r)})
	}
	return p
}

// requestBytes and replyBytes are made field by field, as the chapter lists them.
func requestBytes(t *testing.T, q wire.Request) string {
	flag, b := 0, ""
	if q.Flag {
		flag = 1
	}
	if q.Batch.Span > 0 {
		b = batchBytes(t, q.Batch)
	}
	l := []any{q.Kind, q.Name, q.Index, q.Count, q.From, flag, b, filterBytes(t, q.Filter), q.Group, q.Member, q.Generation, len(q.Topics)}
	for _, s := range q.Topics {
		l = append(l, s)
	}
	return bytesOf(l...)
}

func replyBytes(t *testing.T, p wire.Reply) string {
	l := []any{int(p.Error), p.At, p.Start, p.End, p.Member, p.Generation, p.Leader, len(p.Batches)}
	for _, b := range p.Batches {
		l = append(l, batchBytes(t, b))
	}
	l = append(l, len(p.Topics))
	for _, s := range p.Topics {
		l = append(l, s.Name, s.Parts)
	}
	l = append(l, len(p.Parts))
	for _, s := range p.Parts {
		l = append(l, s.Topic, s.Index)
	}
	return bytesOf(l...)
}

func TestAnyRequest(t *testing.T) {
	c := codes[wire.Request]{t, "Decode", wire.Encode, wire.Decode}
	for seed := range 300 {
		r := rand.New(rand.NewSource(int64(seed)))
		q := anyRequest(r)
		encodes(t, fmt.Sprint("any one, ", seed), q, requestBytes(t, q))
		if seed < 60 {
			c.changed(q, r)
		}
	}
}

func TestAnyReply(t *testing.T) {
	c := codes[wire.Reply]{t, "Read", wire.Answer, wire.Read}
	for seed := range 300 {
		r := rand.New(rand.NewSource(int64(seed)))
		p := anyReply(r)
		answers(t, fmt.Sprint("any one, ", seed), p, replyBytes(t, p))
		if seed < 60 {
			c.changed(p, r)
		}
	}
}

// TestAnyBytes has bytes of any kind: mostly no request and no reply.
func TestAnyBytes(t *testing.T) {
	requests := codes[wire.Request]{t, "Decode", wire.Encode, wire.Decode}
	replies := codes[wire.Reply]{t, "Read", wire.Answer, wire.Read}
	r := rand.New(rand.NewSource(1))
	for range 20000 {
		b := make([]byte, r.Intn(30))
		for i := range b {
			b[i] = byte(r.Intn(r.Intn(256) + 1))
		}
		requests.strict("any bytes", string(b))
		replies.strict("any bytes", string(b))
	}
	for _, s := range []string{"", "\x80", "\xff", strings.Repeat("\x80", 10), strings.Repeat("\xff", 100), "\x02", "\x00"} {
		isNone(t, "bytes", s)
		isNoReply(t, "bytes", s)
	}
}

// TestFrameOfRequest: what was written comes through a frame as it was.
func TestFrameOfRequest(t *testing.T) {
	s, _ := wire.Encode(sized(t, topBytes))
	f, e := wire.Frame(s)
	if e != api.OK {
		t.Fatalf("P19.3: Frame of the greatest request: %d", e)
	}
	got, n, e := wire.Next(f + f)
	if got != s || n != len(f) || e != api.OK {
		t.Errorf("P19.4: Next of the greatest request: %d bytes, %d, %d", len(got), n, e)
	}
}

// TestWrittenUnchanged: what is handed in is as it was, also where it is refused (R5).
func TestWrittenUnchanged(t *testing.T) {
	for seed := range 100 {
		for _, wrong := range []int{0, -2} {
			q, q2 := anyRequest(rand.New(rand.NewSource(int64(seed)))), anyRequest(rand.New(rand.NewSource(int64(seed))))
			q.Generation, q2.Generation = wrong, wrong
			if wire.Encode(q); !reflect.DeepEqual(q, q2) {
				t.Fatalf("R5: Encode: %+v, ahead of it %+v", q, q2)
			}
			p, p2 := anyReply(rand.New(rand.NewSource(int64(seed)))), anyReply(rand.New(rand.NewSource(int64(seed))))
			p.Leader, p2.Leader = wrong, wrong
			if wire.Answer(p); !reflect.DeepEqual(p, p2) {
				t.Fatalf("R5: Answer: %+v, ahead of it %+v", p, p2)
			}
		}
	}
}

// room is where a list lies in memory, its spare room too.
type room struct{ from, to uintptr }

// rooms are those of all lists of something.
func rooms(v reflect.Value) []room {
	var l []room
	switch v.Kind() {
	case reflect.Struct:
		for i := range v.NumField() {
			l = append(l, rooms(v.Field(i))...)
		}
	case reflect.Slice:
		if v.Cap() > 0 {
			l = append(l, room{v.Pointer(), v.Pointer() + uintptr(v.Cap())*v.Type().Elem().Size()})
		}
		for i := range v.Len() {
			l = append(l, rooms(v.Index(i))...)
		}
	}
	return l
}

// apart has answers whose lists are all in memory of their own (R5).
func apart(t *testing.T, what string, answers ...any) {
	t.Helper()
	var l []room
	for _, v := range answers {
		l = append(l, rooms(reflect.ValueOf(v))...)
	}
	slices.SortFunc(l, func(a, b room) int { return cmp.Compare(a.from, b.from) })
	for i := 1; i < len(l); i++ {
		if l[i].from < l[i-1].to {
			t.Errorf("R5: %s: two lists share memory", what)
		}
	}
}

func TestReadIsNew(t *testing.T) {
	for seed := range 100 {
		r := rand.New(rand.NewSource(int64(seed)))
		s, _ := wire.Encode(anyRequest(r))
		q, _ := wire.Decode(s)
		q2, _ := wire.Decode(s)
		apart(t, "Decode", q, q2)
		s, _ = wire.Answer(anyReply(r))
		p, _ := wire.Read(s)
		p2, _ := wire.Read(s)
		apart(t, "Read", p, p2)
	}
}
