package session_test

import (
	"fmt"
	"math"
	"reflect"
	"strings"
	"testing"

	"flotsam/api"
	"flotsam/session"
	"flotsam/wire"
)

const topInput = 200000

// asked is a request that was done, and when.
type asked struct {
	q   wire.Request
	now int
}

// doer keeps what it was asked to do; its replies tell the request's From, and how many it has done.
type doer struct {
	all []asked
	n   int
}

func (d *doer) Do(q wire.Request, now int) wire.Reply {
	d.all = append(d.all, asked{q, now})
	d.n++
	return wire.Reply{At: q.From, Member: d.n}
}

func fresh(t *testing.T) (*session.Server, *doer) {
	t.Helper()
	d := &doer{}
	return over(t, d), d
}

func over(t *testing.T, d session.Does) *session.Server {
	t.Helper()
	s, e := session.New(d)
	if s == nil || e != api.OK {
		t.Fatalf("P23.1: New: %v, %d", s, e)
	}
	return s
}

func request(from int) wire.Request { return wire.Request{Kind: wire.Describe, Name: "t", From: from} }

func framed(t *testing.T, s string) string {
	t.Helper()
	f, e := wire.Frame(s)
	if e != api.OK {
		t.Fatalf("wire.Frame: %d", e)
	}
	return f
}

// asking is a request's frame, telling a reply's.
func asking(t *testing.T, q wire.Request) string {
	t.Helper()
	s, e := wire.Encode(q)
	if e != api.OK {
		t.Fatalf("wire.Encode: %d", e)
	}
	return framed(t, s)
}

func telling(t *testing.T, r wire.Reply) string {
	t.Helper()
	s, e := wire.Answer(r)
	if e != api.OK {
		t.Fatalf("wire.Answer: %d", e)
	}
	return framed(t, s)
}

// bad is the frame of a bad reply: the error, six numbers that are 0, and how many there are of each list, which is 0 too.
const bad = "\x00\x00\x00\x0a\x06\x00\x00\x00\x00\x00\x00\x00\x00\x00"

func feeds(t *testing.T, what string, s *session.Server, id int, bytes string, want api.Errno) {
	t.Helper()
	if e := s.Feed(id, bytes); e != want {
		t.Errorf("P23.2: %s: Feed(%d) of %d bytes: %d, want %d", what, id, len(bytes), e, want)
	}
}

// steps asks Waits too: it tells what the Step is to tell (P23.4).
func steps(t *testing.T, what string, s *session.Server, id int, now int, want string, ok bool) {
	t.Helper()
	if w := s.Waits(id); w != ok {
		t.Errorf("P23.4: %s: Waits(%d): %t, want %t", what, id, w, ok)
	}
	if got, k := s.Step(id, now); got != want || k != ok {
		t.Errorf("P23.3: %s: Step(%d): %x, %t, want %x, %t", what, id, got, k, want, ok)
	}
}

func isClosed(t *testing.T, what string, s *session.Server, id int, want bool) {
	t.Helper()
	if c := s.Closed(id); c != want {
		t.Errorf("P23.4: %s: Closed(%d): %t, want %t", what, id, c, want)
	}
}

// hasDone asks what was done, and forgets it.
func (d *doer) hasDone(t *testing.T, what string, want ...asked) {
	t.Helper()
	if len(d.all) != len(want) || len(want) > 0 && !reflect.DeepEqual(d.all, want) {
		t.Errorf("P23.3: %s: done was %+v, want %+v", what, d.all, want)
	}
	d.all, d.n = nil, 0
}

func TestNew(t *testing.T) {
	if s, e := session.New(nil); s != nil || e != api.ErrArg {
		t.Errorf("P23.1: New(nil): %v, %d, want nil, ErrArg", s, e)
	}
	s, d := fresh(t)
	for id := range 8 {
		steps(t, "a new one", s, id, 0, "", false)
		isClosed(t, "a new one", s, id, false)
	}
	d.hasDone(t, "a new one")
}

func TestNil(t *testing.T) {
	for _, s := range []*session.Server{nil, new(session.Server)} {
		for id := -1; id < 9; id++ {
			feeds(t, "nil", s, id, "", api.ErrArg)
			feeds(t, "nil", s, id, asking(t, request(0)), api.ErrArg)
			steps(t, "nil", s, id, 0, "", false)
			isClosed(t, "nil", s, id, false)
		}
	}
}

func TestNoSession(t *testing.T) {
	s, d := fresh(t)
	for _, id := range []int{-1, 8, 9, math.MinInt, math.MaxInt, 256, 1 << 32} {
		feeds(t, "no session", s, id, asking(t, request(0)), api.ErrArg)
		feeds(t, "no session", s, id, "", api.ErrArg)
		feeds(t, "no session", s, id, strings.Repeat("x", topInput+1), api.ErrArg)
		for range 3 {
			steps(t, "no session", s, id, 0, "", false)
		}
		isClosed(t, "no session", s, id, false)
	}
	for id := range 8 {
		steps(t, "behind what no session was fed", s, id, 0, "", false)
	}
	d.hasDone(t, "no session")
}

// TestExample has a frame in two parts.
func TestExample(t *testing.T) {
	f := asking(t, request(9))
	for cut := range len(f) {
		s, d := fresh(t)
		feeds(t, "example 1", s, 3, f[:cut], api.OK)
		steps(t, "example 1", s, 3, 1, "", false)
		steps(t, "example 1", s, 3, 2, "", false)
		feeds(t, "example 1", s, 3, f[cut:], api.OK)
		steps(t, "example 1", s, 3, 3, "", true)
		d.hasDone(t, "a request that was read")
		steps(t, "example 1", s, 3, 4, "", true)
		d.hasDone(t, "a request that was done", asked{request(9), 4})
		steps(t, "example 1", s, 3, 5, telling(t, wire.Reply{At: 9, Member: 1}), true)
		steps(t, "example 1", s, 3, 6, "", false)
		d.hasDone(t, "behind the reply")
	}
}

// TestTime: a request is done at the time of just the step that does it, whatever that is.
func TestTime(t *testing.T) {
	s, d := fresh(t)
	for _, now := range []int{0, 1, -1, 1 << 40, math.MinInt, math.MaxInt} {
		feeds(t, "a time", s, 0, asking(t, request(1)), api.OK)
		steps(t, "a time", s, 0, 77, "", true)
		steps(t, "a time", s, 0, now, "", true)
		d.hasDone(t, "a time", asked{request(1), now})
		steps(t, "a time", s, 0, 78, telling(t, wire.Reply{At: 1, Member: 1}), true)
	}
}

// TestRow: requests that come at once are answered one behind the other, each behind three steps.
func TestRow(t *testing.T) {
	s, d := fresh(t)
	all := ""
	for i := range 50 {
		all += asking(t, request(i))
	}
	feeds(t, "a row", s, 7, all+"\x00\x00", api.OK)
	for i := range 50 {
		steps(t, "a row", s, 7, 3*i, "", true)
		steps(t, "a row", s, 7, 3*i+1, "", true)
		d.hasDone(t, "a row", asked{request(i), 3*i + 1})
		steps(t, "a row", s, 7, 3*i+2, telling(t, wire.Reply{At: i, Member: 1}), true)
	}
	steps(t, "a row", s, 7, 200, "", false)
	feeds(t, "a row", s, 7, asking(t, request(5))[2:], api.OK)
	for range 2 {
		steps(t, "a row's last one", s, 7, 9, "", true)
	}
	d.hasDone(t, "a row's last one", asked{request(5), 9})
}

// TestWholeRequest: all that a request has is done, and all that its reply has is told.
func TestWholeRequest(t *testing.T) {
	q := wire.Request{
		Kind: wire.Produce, Name: "t", Index: 3, Count: 4, From: 5, Flag: true, Group: "g", Member: 6, Generation: 7, Topics: []string{"a", "b"},
		Batch:  api.Batch{Span: 2, Producer: 1, Epoch: 2, Seq: 3, Records: []api.Record{{At: 1, Time: 4, Key: "k", Value: "v", Headers: []api.Header{{Key: "h", Value: "1"}}}}},
		Filter: api.Expr{Op: api.Not, Kids: []api.Expr{{Op: api.Has, Name: "h"}}},
	}
	r := wire.Reply{
		Error: api.ErrWait, At: 1, Start: 2, End: 3, Member: 4, Generation: 5, Leader: 6,
		Batches: []api.Batch{q.Batch, q.Batch}, Topics: []api.Topic{{Name: "t", Parts: 2}}, Parts: []api.Part{{Topic: "t", Index: 1}},
	}
	d := &fixed{reply: r}
	s := over(t, d)
	feeds(t, "all of it", s, 0, asking(t, q), api.OK)
	steps(t, "all of it", s, 0, 1, "", true)
	steps(t, "all of it", s, 0, 1, "", true)
	if code, e := wire.Encode(d.q); e != api.OK || framed(t, code) != asking(t, q) {
		t.Errorf("P23.3: all of it: done was %+v, want %+v", d.q, q)
	}
	steps(t, "all of it", s, 0, 1, telling(t, r), true)
}

// fixed has one reply for all.
type fixed struct {
	reply wire.Reply
	q     wire.Request
}

func (d *fixed) Do(q wire.Request, now int) wire.Reply {
	d.q = q
	return d.reply
}

// TestChangedReply: a reply is what it was when the request was done, whatever is done to its lists then (R5).
func TestChangedReply(t *testing.T) {
	d := &fixed{reply: wire.Reply{
		Topics: []api.Topic{{Name: "t", Parts: 2}}, Parts: []api.Part{{Topic: "t", Index: 1}},
		Batches: []api.Batch{{Span: 1, Producer: -1, Epoch: -1, Seq: -1, Records: []api.Record{{Key: "k"}}}},
	}}
	want := telling(t, d.reply)
	s := over(t, d)
	feeds(t, "a list changed", s, 0, asking(t, request(0)), api.OK)
	steps(t, "a list changed", s, 0, 0, "", true)
	steps(t, "a list changed", s, 0, 0, "", true)
	d.reply.Topics[0].Parts, d.reply.Parts[0].Index, d.reply.Batches[0].Records[0].Key = 3, 0, "x"
	steps(t, "a list changed", s, 0, 0, want, true)
}

// TestWrongReply: of a reply that may not be there are no bytes, but its frame is told, and the session goes on.
func TestWrongReply(t *testing.T) {
	for i, r := range []wire.Reply{
		{At: -2}, {Error: 15}, {Error: -1}, {Leader: 1<<41 + 1}, {Topics: []api.Topic{{Name: strings.Repeat("n", 101)}}},
		{Batches: []api.Batch{{}}}, {Parts: make([]api.Part, 401)}, {Topics: make([]api.Topic, 21)}, {Parts: []api.Part{{Index: -2}}},
	} {
		d := &fixed{reply: r}
		s := over(t, d)
		for range 2 {
			feeds(t, "a reply that may not be", s, 0, asking(t, request(0)), api.OK)
			steps(t, "a reply that may not be", s, 0, 0, "", true)
			steps(t, "a reply that may not be", s, 0, 0, "", true)
			steps(t, fmt.Sprint("a reply that may not be, ", i), s, 0, 0, "\x00\x00\x00\x00", true)
			isClosed(t, "a reply that may not be", s, 0, false)
		}
		d.reply = wire.Reply{At: 5}
		feeds(t, "behind one that may not be", s, 0, asking(t, request(0)), api.OK)
		steps(t, "behind one that may not be", s, 0, 0, "", true)
		steps(t, "behind one that may not be", s, 0, 0, "", true)
		steps(t, "behind one that may not be", s, 0, 0, telling(t, wire.Reply{At: 5}), true)
	}
}

// TestNoRequest: a frame whose bytes are no request has a bad reply behind one step; nothing is done, and the session goes on.
func TestNoRequest(t *testing.T) {
	if bad != telling(t, wire.Reply{Error: api.ErrForm}) {
		t.Fatalf("a bad reply is %x", telling(t, wire.Reply{Error: api.ErrForm}))
	}
	right, _ := wire.Encode(request(1))
	for _, text := range []string{"", "x", "\xff", right[:len(right)-1], right + "\x00", "\x00" + right, strings.Repeat("\xff", 60000), "\x1e" + right[1:]} {
		s, d := fresh(t)
		feeds(t, "no request", s, 2, framed(t, text)+asking(t, request(8))+framed(t, text), api.OK)
		steps(t, "no request", s, 2, 0, "", true)
		isClosed(t, "no request", s, 2, false)
		steps(t, "no request", s, 2, 0, bad, true)
		isClosed(t, "no request", s, 2, false)
		d.hasDone(t, "no request")
		steps(t, "behind it", s, 2, 0, "", true)
		steps(t, "behind it", s, 2, 4, "", true)
		d.hasDone(t, "behind no request", asked{request(8), 4})
		steps(t, "behind it", s, 2, 0, telling(t, wire.Reply{At: 8, Member: 1}), true)
		steps(t, "no request again", s, 2, 0, "", true)
		steps(t, "no request again", s, 2, 0, bad, true)
		steps(t, "no request again", s, 2, 0, "", false)
		d.hasDone(t, "no request again")
		isClosed(t, "no request again", s, 2, false)
		feeds(t, "no request again", s, 2, "x", api.OK)
	}
}

// TestNoFrame: where no frame can begin the input is gone, and the session is closed behind a bad reply.
func TestNoFrame(t *testing.T) {
	for _, head := range []string{"\xff\xff\xff\xff", "\x00\x00\xea\x61", "\x00\x01\x00\x00", "\x80\x00\x00\x00"} {
		s, d := fresh(t)
		feeds(t, "no frame", s, 5, asking(t, request(1)), api.OK)
		feeds(t, "no frame", s, 5, head+asking(t, request(2)), api.OK)
		for _, want := range []string{"", "", telling(t, wire.Reply{At: 1, Member: 1})} {
			steps(t, "ahead of no frame", s, 5, 6, want, true)
		}
		d.hasDone(t, "ahead of no frame", asked{request(1), 6})
		steps(t, "no frame", s, 5, 6, "", true)
		isClosed(t, "no frame, not told yet", s, 5, false)
		// The input is gone: there is room for all bytes that may be.
		feeds(t, "no frame, not told yet", s, 5, strings.Repeat(asking(t, request(3)), topInput/len(asking(t, request(3)))), api.OK)
		steps(t, "no frame", s, 5, 6, bad, true)
		isClosed(t, "no frame, told", s, 5, true)
		steps(t, "closed", s, 5, 6, "", false)
		for _, bytes := range []string{"", "x", asking(t, request(4)), strings.Repeat("x", topInput+1)} {
			feeds(t, "closed", s, 5, bytes, api.ErrDown)
			steps(t, "closed", s, 5, 6, "", false)
			isClosed(t, "closed", s, 5, true)
		}
		d.hasDone(t, "closed")
		for id := range 8 {
			if id == 5 {
				continue
			}
			isClosed(t, "another one", s, id, false)
			feeds(t, "another one", s, id, asking(t, request(id)), api.OK)
			steps(t, "another one", s, id, 6, "", true)
			steps(t, "another one", s, id, 6, "", true)
			d.hasDone(t, "another one", asked{request(id), 6})
			steps(t, "another one", s, id, 6, telling(t, wire.Reply{At: id, Member: 1}), true)
		}
	}
}

// TestHead: as soon as four bytes tell too great a length that is known, and not sooner; the greatest one may be.
func TestHead(t *testing.T) {
	s, _ := fresh(t)
	for _, b := range []string{"\xff", "\xff", "\xff"} {
		feeds(t, "a head", s, 0, b, api.OK)
		steps(t, "a head", s, 0, 0, "", false)
	}
	feeds(t, "a head", s, 0, "\xff", api.OK)
	steps(t, "a head", s, 0, 0, "", true)
	f := framed(t, strings.Repeat("x", 60000))
	feeds(t, "the greatest frame", s, 1, f[:len(f)-1], api.OK)
	steps(t, "the greatest frame", s, 1, 0, "", false)
	feeds(t, "the greatest frame", s, 1, f[len(f)-1:]+"\xff\xff\xff", api.OK)
	steps(t, "the greatest frame", s, 1, 0, "", true)
	steps(t, "the greatest frame", s, 1, 0, bad, true)
	isClosed(t, "the greatest frame", s, 1, false)
	steps(t, "behind the greatest frame", s, 1, 0, "", false)
	feeds(t, "behind the greatest frame", s, 1, "\xff", api.OK)
	steps(t, "behind the greatest frame", s, 1, 0, "", true)
	steps(t, "behind the greatest frame", s, 1, 0, bad, true)
	isClosed(t, "behind the greatest frame", s, 1, true)
}

func TestFull(t *testing.T) {
	s, d := fresh(t)
	f := asking(t, request(1))
	// Frames, and the beginning of one that is not there whole.
	most := strings.Repeat(f, topInput/len(f)) + f[:topInput%len(f)]
	feeds(t, "too many at once", s, 0, most+"x", api.ErrFull)
	steps(t, "too many at once", s, 0, 0, "", false)
	feeds(t, "all that may be", s, 0, most[:topInput-1], api.OK)
	feeds(t, "one too many", s, 0, "xy", api.ErrFull)
	feeds(t, "all that may be", s, 0, most[topInput-1:], api.OK)
	feeds(t, "nothing more", s, 0, "", api.OK)
	feeds(t, "one too many", s, 0, "x", api.ErrFull)
	feeds(t, "one too many", s, 0, most, api.ErrFull)
	feeds(t, "another one", s, 1, most, api.OK)
	// What was taken makes room, as soon as it is taken.
	steps(t, "taken", s, 0, 0, "", true)
	feeds(t, "taken", s, 0, f[topInput%len(f):]+strings.Repeat("x", topInput%len(f)+1), api.ErrFull)
	feeds(t, "taken", s, 0, f[topInput%len(f):], api.OK)
	feeds(t, "taken", s, 0, f[:topInput%len(f)], api.OK)
	feeds(t, "taken", s, 0, "x", api.ErrFull)
	steps(t, "taken", s, 0, 0, "", true)
	feeds(t, "done", s, 0, "x", api.ErrFull)
	n := 0
	for s.Waits(0) {
		s.Step(0, 0)
		n++
	}
	if want := 3*(topInput/len(f)+1) - 2; n != want || len(d.all) != topInput/len(f)+1 {
		t.Errorf("P23.3: %d requests in %d steps, want %d in %d", len(d.all), n, topInput/len(f)+1, want)
	}
	for i, a := range d.all {
		if !reflect.DeepEqual(a.q, request(1)) {
			t.Fatalf("P23.3: request %d of many is %+v", i, a.q)
		}
	}
}

// TestStages: what is fed in whatever stage is taken behind it.
func TestStages(t *testing.T) {
	for stage := range 3 {
		s, d := fresh(t)
		feeds(t, "a stage", s, 0, asking(t, request(1)), api.OK)
		for range stage {
			steps(t, "a stage", s, 0, 0, "", true)
		}
		feeds(t, "a stage", s, 0, asking(t, request(2)), api.OK)
		for i := stage; i < 6; i++ {
			want := ""
			if i%3 == 2 {
				want = telling(t, wire.Reply{At: 1 + i/3, Member: 1 + i/3})
			}
			steps(t, fmt.Sprint("fed in stage ", stage), s, 0, 0, want, true)
		}
		steps(t, "a stage", s, 0, 0, "", false)
		d.hasDone(t, "a stage", asked{request(1), 0}, asked{request(2), 0})
	}
}

// TestFedIsKeptApart: what Step tells is the same whatever other sessions have in hand.
func TestFedIsKeptApart(t *testing.T) {
	s, d := fresh(t)
	f := asking(t, request(1))
	for id := range 8 {
		feeds(t, "a part", s, id, f[:id+1], api.OK)
	}
	for id := range 8 {
		steps(t, "a part", s, id, 0, "", false)
		feeds(t, "the rest", s, id, f[id+1:], api.OK)
		steps(t, "the rest", s, id, 0, "", true)
	}
	d.hasDone(t, "read alone")
	for i := range 8 {
		id := (i * 3) % 8
		steps(t, "in another order", s, id, id, "", true)
		d.hasDone(t, "in another order", asked{request(1), id})
	}
}
