package idem_test

import (
	"math"
	"reflect"
	"strings"
	"testing"

	"flotsam/api"
	"flotsam/idem"
	"flotsam/varint"
)

// The greatest numbers of a batch.
const (
	topBase     = 1 << 40
	topProducer = 1 << 30
	topEpoch    = 1 << 15
	topSeq      = 1 << 30
	topSpan     = 50
)

// of is a batch of a producer, of the epoch 0.
func of(producer int, seq int, span int, base int) api.Batch {
	return api.Batch{Producer: producer, Seq: seq, Span: span, Base: base}
}

// in is a batch as it is, but of another epoch.
func in(epoch int, b api.Batch) api.Batch {
	b.Epoch = epoch
	return b
}

// heard is one that has noted these.
func heard(l ...api.Batch) *idem.Producers {
	p := idem.New()
	for _, b := range l {
		p.Note(b)
	}
	return p
}

// text is numbers as bytes, one behind the other.
func text(numbers ...int) string {
	s := ""
	for _, n := range numbers {
		s += varint.Put(n)
	}
	return s
}

func isNew(t *testing.T, name string, p *idem.Producers, b api.Batch) {
	t.Helper()
	answers(t, name, p, b, 0, false, api.OK)
}

func isTold(t *testing.T, name string, p *idem.Producers, b api.Batch, base int) {
	t.Helper()
	answers(t, name, p, b, base, true, api.OK)
}

func isWrong(t *testing.T, name string, p *idem.Producers, b api.Batch, e api.Errno) {
	t.Helper()
	answers(t, name, p, b, 0, false, e)
}

// answers holds Check against what it has to be, twice: asking changes nothing.
func answers(t *testing.T, name string, p *idem.Producers, b api.Batch, base int, told bool, e api.Errno) {
	t.Helper()
	for range 2 {
		if n, ok, got := p.Check(b); n != base || ok != told || got != e {
			t.Errorf("%s: Check of %+v: %d, %t, %d, want %d, %t, %d", name, b, n, ok, got, base, told, e)
		}
	}
}

func prints(t *testing.T, name string, p *idem.Producers, want string) {
	t.Helper()
	if s := p.Print(); s != want {
		t.Errorf("%s: Print: %x, want %x", name, s, want)
	}
}

func TestNew(t *testing.T) {
	p := idem.New()
	if p == nil {
		t.Fatal("P13.1: New is nil")
	}
	nobody(t, p)
	// What one hears, another one does not.
	heard(of(0, 0, 1, 0), of(7, 0, 1, 0))
	nobody(t, p)
	nobody(t, idem.New())
}

func nobody(t *testing.T, p *idem.Producers) {
	t.Helper()
	for _, id := range []int{math.MinInt, -1, 0, 1, 7, topProducer, topProducer + 1, math.MaxInt} {
		if n := p.Epoch(id); n != -1 {
			t.Errorf("P13.1: Epoch(%d): %d, want -1", id, n)
		}
	}
	isNew(t, "P13.2: not heard", p, of(7, 0, 1, 5))
	isWrong(t, "P13.2: not heard", p, of(7, 1, 1, 5), api.ErrOrder)
	prints(t, "P13.4: nobody", p, "\x00")
}

func TestNil(t *testing.T) {
	var p *idem.Producers
	nobody(t, p)
	isNew(t, "P13.1: nil", p, of(-1, 9, 99, -9))
	isWrong(t, "P13.1: nil", p, of(-2, 0, 1, 0), api.ErrArg)
	isNew(t, "P13.1: nil", p, in(topEpoch, of(7, 0, 1, 0)))
	p.Note(of(7, 0, 1, 0))
	p.Note(of(-2, 0, 1, 0))
	nobody(t, p)
}

// TestNotMadeByNew has Producers that nobody promised anything of: but no call panics (R1).
func TestNotMadeByNew(t *testing.T) {
	var p idem.Producers
	p.Check(of(1, 0, 1, 0))
	p.Epoch(1)
	p.Print()
	p.Note(of(1, 0, 1, 0))
	p.Check(of(1, 0, 1, 0))
	p.Epoch(1)
	p.Print()
}

func TestExample(t *testing.T) {
	p := idem.New()
	isNew(t, "example 1", p, of(3, 0, 2, 0))
	p.Note(of(3, 0, 2, 40))
	isNew(t, "example 1", p, of(3, 2, 1, 0))
	p.Note(of(3, 2, 1, 60))
	isTold(t, "example 1", p, of(3, 0, 2, 0), 40)
	isWrong(t, "example 1", p, of(3, 4, 1, 0), api.ErrOrder)
	isNew(t, "example 1", p, of(3, 3, 1, 0))
}

func TestEpoch(t *testing.T) {
	p := heard(in(5, of(0, 0, 1, 0)), in(0, of(1, 0, 1, 0)), in(topEpoch, of(topProducer, 0, 1, 0)))
	for id, want := range map[int]int{0: 5, 1: 0, topProducer: topEpoch, 2: -1, -1: -1, topProducer - 1: -1, math.MinInt: -1, math.MaxInt: -1} {
		if n := p.Epoch(id); n != want {
			t.Errorf("P13.1: Epoch(%d): %d, want %d", id, n, want)
		}
	}
}

// TestNoProducer: of what has no producer nothing else is asked, and nothing is kept.
func TestNoProducer(t *testing.T) {
	p := heard(of(0, 0, 1, 9))
	before := p.Print()
	for _, b := range []api.Batch{
		{Producer: -1, Epoch: -1, Seq: -1, Span: 1},
		{Producer: -1},
		{Producer: -1, Epoch: math.MinInt, Seq: math.MaxInt, Span: math.MinInt, Base: math.MaxInt},
		{Producer: -1, Epoch: 0, Seq: 5, Span: 51, Base: -1},
	} {
		isNew(t, "P13.2: no producer", p, b)
		p.Note(b)
		prints(t, "P13.3: no producer", p, before)
		if n := p.Epoch(-1); n != -1 {
			t.Errorf("P13.1: Epoch(-1): %d", n)
		}
	}
}

// wrongOnes are batches of which one number may not be; their Bases may.
func wrongOnes() []api.Batch {
	var l []api.Batch
	for _, n := range []int{math.MinInt, math.MinInt + 1, -2, topProducer + 1, math.MaxInt} {
		l = append(l, api.Batch{Producer: n, Span: 1})
	}
	for _, n := range []int{math.MinInt, -1, topEpoch + 1, math.MaxInt} {
		l = append(l, api.Batch{Producer: 7, Epoch: n, Span: 1})
	}
	for _, n := range []int{math.MinInt, -1, topSeq + 1, math.MaxInt} {
		l = append(l, api.Batch{Producer: 7, Seq: n, Span: 1})
	}
	for _, n := range []int{math.MinInt, -1, 0, topSpan + 1, math.MaxInt} {
		l = append(l, api.Batch{Producer: 7, Span: n})
	}
	return l
}

func TestWrongNumbers(t *testing.T) {
	for _, p := range []*idem.Producers{idem.New(), heard(of(7, 0, 1, 0)), heard(in(3, of(7, 0, 1, 0)))} {
		before := p.Print()
		for _, b := range wrongOnes() {
			isWrong(t, "P13.2", p, b, api.ErrArg)
			p.Note(b)
			prints(t, "P13.3: behind a Note of a wrong batch", p, before)
		}
	}
}

// TestErrArgFirst: numbers that may not be are told ahead of an epoch that is earlier, and of a gap.
func TestErrArgFirst(t *testing.T) {
	p := heard(in(3, of(7, 0, 1, 0)))
	isWrong(t, "R2", p, in(2, of(7, 0, 0, 0)), api.ErrArg)
	isWrong(t, "R2", p, in(3, of(7, 9, 51, 0)), api.ErrArg)
	isWrong(t, "R2", p, in(-1, of(7, 9, 1, 0)), api.ErrArg)
	isWrong(t, "R2", p, in(2, of(7, topSeq+1, 1, 0)), api.ErrArg)
	isWrong(t, "R2", p, in(2, of(7, 9, 1, 0)), api.ErrFenced)
}

func TestGreatNumbers(t *testing.T) {
	b := api.Batch{Producer: topProducer, Epoch: topEpoch, Seq: 0, Span: topSpan, Base: topBase}
	p := idem.New()
	isNew(t, "P13.2", p, b)
	p.Note(b)
	isTold(t, "P13.2", p, b, topBase)
	if n := p.Epoch(topProducer); n != topEpoch {
		t.Errorf("P13.1: Epoch: %d", n)
	}
	b.Seq = topSeq
	isWrong(t, "P13.2", p, b, api.ErrOrder)
	p.Note(b)
	isTold(t, "P13.2", p, b, topBase)
	// The next one would be above what may be.
	b.Seq = topSeq + topSpan
	isWrong(t, "P13.2", p, b, api.ErrArg)
	prints(t, "P13.4", p, text(1, topProducer, topEpoch, 2, 0, topBase, topSpan, topSeq, topBase, topSpan))
	isNew(t, "P13.2: the last Seq of all", heard(of(0, topSeq-1, 1, 0)), of(0, topSeq, 1, 0))
}

// TestBase: at Check it counts for nothing, at Note it has to be one that may be.
func TestBase(t *testing.T) {
	bases := []int{math.MinInt, -1, 0, 1, topBase, topBase + 1, math.MaxInt}
	for _, base := range bases {
		p := idem.New()
		isNew(t, "P13.2: Base", p, of(7, 0, 2, base))
		isWrong(t, "P13.2: Base", p, of(7, 2, 2, base), api.ErrOrder)
		before := p.Print()
		p.Note(of(7, 0, 2, base))
		if base < 0 || base > topBase {
			prints(t, "P13.3: a Base that may not be", p, before)
			continue
		}
		for _, other := range bases {
			isTold(t, "P13.2: Base", p, of(7, 0, 2, other), base)
			isNew(t, "P13.2: Base", p, of(7, 2, 2, other))
		}
	}
}

func TestNotHeard(t *testing.T) {
	p := heard(in(4, of(7, 0, 3, 10)))
	for _, id := range []int{0, 6, 8, topProducer} {
		for _, epoch := range []int{0, 4, 5, topEpoch} {
			isNew(t, "P13.2: not heard", p, in(epoch, of(id, 0, 3, 0)))
			for _, seq := range []int{1, 3, topSeq} {
				isWrong(t, "P13.2: not heard", p, in(epoch, of(id, seq, 3, 0)), api.ErrOrder)
			}
		}
	}
}

func TestEpochs(t *testing.T) {
	p := heard(in(4, of(7, 0, 3, 10)))
	isWrong(t, "P13.2: earlier", p, in(3, of(7, 0, 3, 0)), api.ErrFenced)
	isWrong(t, "P13.2: earlier", p, in(0, of(7, 3, 3, 0)), api.ErrFenced)
	isWrong(t, "P13.2: earlier", p, in(3, of(7, 99, 3, 0)), api.ErrFenced)
	isNew(t, "P13.2: later", p, in(5, of(7, 0, 3, 0)))
	isNew(t, "P13.2: later by far", p, in(topEpoch, of(7, 0, 3, 0)))
	isWrong(t, "P13.2: later", p, in(5, of(7, 3, 3, 0)), api.ErrOrder)
	isWrong(t, "P13.2: later", p, in(5, of(7, 1, 3, 0)), api.ErrOrder)
	isTold(t, "P13.2: the same", p, in(4, of(7, 0, 3, 0)), 10)
	isNew(t, "P13.2: the same", p, in(4, of(7, 3, 3, 0)))

	// What is earlier is not noted.
	before := p.Print()
	p.Note(in(3, of(7, 0, 1, 99)))
	p.Note(in(3, of(7, 3, 1, 99)))
	p.Note(in(0, of(7, 0, 3, 99)))
	prints(t, "P13.3: earlier", p, before)

	// What is later begins with an empty window.
	p.Note(in(4, of(7, 3, 2, 20)))
	p.Note(in(6, of(7, 0, 2, 30)))
	prints(t, "P13.3: later", p, text(1, 7, 6, 1, 0, 30, 2))
	isWrong(t, "P13.2: of the epoch ahead", p, in(6, of(7, 0, 3, 0)), api.ErrOrder)
	isWrong(t, "P13.2: of the epoch ahead", p, in(6, of(7, 3, 2, 0)), api.ErrOrder)
	isWrong(t, "P13.2: of the epoch ahead", p, in(6, of(7, 5, 2, 0)), api.ErrOrder)
	isWrong(t, "P13.2: of the epoch ahead", p, in(4, of(7, 0, 3, 0)), api.ErrFenced)
	isTold(t, "P13.2: of this epoch", p, in(6, of(7, 0, 2, 0)), 30)
	isNew(t, "P13.2: of this epoch", p, in(6, of(7, 2, 2, 0)))
}

// TestLaterEpochOfFullWindow: of a ring that has gone round nothing is left in a later epoch.
func TestLaterEpochOfFullWindow(t *testing.T) {
	for n := range 13 {
		p := idem.New()
		for i := range n {
			p.Note(of(7, i, 1, 100+i))
		}
		for i := range 7 {
			p.Note(in(1, of(7, i, 1, 200+i)))
			for seq := range 15 {
				b := in(1, of(7, seq, 1, 0))
				switch {
				case seq <= i && seq > i-5:
					isTold(t, "P13.3: a later epoch", p, b, 200+seq)
				case seq == i+1:
					isNew(t, "P13.3: a later epoch", p, b)
				default:
					isWrong(t, "P13.3: a later epoch", p, b, api.ErrOrder)
				}
			}
		}
	}
}

// TestWindow: the last five are told again, the sixth one back is not.
func TestWindow(t *testing.T) {
	p := idem.New()
	for i := range 20 {
		isNew(t, "P13.5: the next one", p, of(7, 2*i, 2, 0))
		p.Note(of(7, 2*i, 2, 100+i))
		for back := range 10 {
			n := i - back
			if n < 0 {
				continue
			}
			if back < 5 {
				isTold(t, "P13.5: one of the last five", p, of(7, 2*n, 2, 0), 100+n)
			} else {
				isWrong(t, "P13.3: the sixth one back", p, of(7, 2*n, 2, 0), api.ErrOrder)
			}
			isWrong(t, "P13.2: another Span", p, of(7, 2*n, 1, 0), api.ErrOrder)
			isWrong(t, "P13.2: another Span", p, of(7, 2*n, 3, 0), api.ErrOrder)
			isWrong(t, "P13.2: another Seq", p, of(7, 2*n+1, 2, 0), api.ErrOrder)
		}
		isNew(t, "P13.2: the next one, of another Span", p, of(7, 2*i+2, 50, 0))
		isWrong(t, "P13.2: too early", p, of(7, 2*i+3, 2, 0), api.ErrOrder)
		isWrong(t, "P13.2: too early", p, of(7, topSeq, 2, 0), api.ErrOrder)
	}
}

// TestLastSuchOne: of two in the window that are alike, the one that was noted last is told.
func TestLastSuchOne(t *testing.T) {
	p := heard(of(7, 0, 2, 10), of(7, 0, 2, 5), of(7, 2, 1, 20))
	isTold(t, "P13.2: two alike", p, of(7, 0, 2, 0), 5)
	p.Note(of(7, 0, 2, 30))
	isTold(t, "P13.2: three alike", p, of(7, 0, 2, 0), 30)
	prints(t, "P13.3: alike", p, text(1, 7, 0, 4, 0, 10, 2, 0, 5, 2, 2, 20, 1, 0, 30, 2))
	// Six, of which the first one goes; the next Seq is that of the last one, whatever there is besides.
	p.Note(of(7, 2, 1, 40))
	p.Note(of(7, 0, 1, 50))
	prints(t, "P13.3: six", p, text(1, 7, 0, 5, 0, 5, 2, 2, 20, 1, 0, 30, 2, 2, 40, 1, 0, 50, 1))
	isTold(t, "P13.2: alike", p, of(7, 2, 1, 0), 40)
	isNew(t, "P13.2: the next one", p, of(7, 1, 1, 0))
	isWrong(t, "P13.2: behind one that is not the last", p, of(7, 3, 1, 0), api.ErrOrder)
}

// TestToldAheadOfNext: one that could be the next one, and is one of the window, was sent before.
func TestToldAheadOfNext(t *testing.T) {
	p := heard(of(7, 5, 1, 10), of(7, 4, 1, 20))
	isTold(t, "P13.2", p, of(7, 5, 1, 0), 10)
	isNew(t, "P13.2", p, of(7, 5, 2, 0))
}

// TestNoteAsksForNoOrder: what stands in a log is noted, with gaps too, and where a producer was not heard.
func TestNoteAsksForNoOrder(t *testing.T) {
	p := heard(of(7, 9, 1, 3))
	prints(t, "P13.3", p, text(1, 7, 0, 1, 9, 3, 1))
	p.Note(of(7, 2, 5, 1))
	prints(t, "P13.3", p, text(1, 7, 0, 2, 9, 3, 1, 2, 1, 5))
	isNew(t, "P13.2", p, of(7, 7, 1, 0))
	isTold(t, "P13.2", p, of(7, 9, 1, 0), 3)
	isWrong(t, "P13.2", p, of(7, 10, 1, 0), api.ErrOrder)
	p.Note(in(2, of(7, 30, 5, 1)))
	prints(t, "P13.3: a later epoch, with a gap", p, text(1, 7, 2, 1, 30, 1, 5))
	isWrong(t, "P13.2", p, in(2, of(7, 0, 1, 0)), api.ErrOrder)
	isNew(t, "P13.2", p, in(2, of(7, 35, 1, 0)))
}

// TestApart: what one producer sends changes nothing of another one.
func TestApart(t *testing.T) {
	p := heard(of(1, 0, 2, 10), in(3, of(2, 0, 1, 20)))
	for i := range 9 {
		p.Note(in(9, of(0, i, 1, i)))
	}
	isTold(t, "P13.2", p, of(1, 0, 2, 0), 10)
	isNew(t, "P13.2", p, of(1, 2, 2, 0))
	isWrong(t, "P13.2", p, of(2, 1, 2, 0), api.ErrFenced)
	isTold(t, "P13.2", p, in(3, of(2, 0, 1, 0)), 20)
	if p.Epoch(1) != 0 || p.Epoch(2) != 3 || p.Epoch(0) != 9 {
		t.Errorf("P13.1: %d, %d, %d", p.Epoch(1), p.Epoch(2), p.Epoch(0))
	}
}

func TestRebuild(t *testing.T) {
	for _, l := range [][]api.Batch{nil, {}} {
		p := idem.Rebuild(l)
		if p == nil {
			t.Fatal("P13.4: Rebuild of nothing is nil")
		}
		nobody(t, p)
		p.Note(of(7, 0, 1, 0))
		isTold(t, "P13.4: Rebuild of nothing goes on", p, of(7, 0, 1, 0), 0)
	}
	l := append(wrongOnes(), of(7, 0, 2, 0), api.Batch{Producer: -1, Epoch: -1, Seq: -1, Span: 3, Base: 2}, in(2, of(3, 0, 1, 5)), of(7, 2, 1, 6), of(7, 3, 1, topBase+1), in(1, of(3, 1, 1, 7)), of(7, 3, 1, 8))
	for n := range len(l) + 1 {
		p := idem.Rebuild(l[:n])
		prints(t, "P13.4: Rebuild", p, heard(l[:n]...).Print())
	}
	prints(t, "P13.4: Rebuild", idem.Rebuild(l), text(2, 3, 2, 1, 0, 5, 1, 7, 0, 3, 0, 0, 2, 2, 6, 1, 3, 8, 1))
}

// TestNotChanged: what is handed in is not changed, and what becomes of it then is not heard (R5).
func TestNotChanged(t *testing.T) {
	made := func() []api.Batch {
		b := of(7, 0, 2, 40)
		b.Records = []api.Record{{Key: "k", Headers: []api.Header{{Key: "h"}}}, {At: 1}}
		return []api.Batch{b, of(8, 0, 1, 42)}
	}
	l := made()
	p := idem.Rebuild(l)
	p.Check(l[0])
	p.Note(l[1])
	if !reflect.DeepEqual(l, made()) {
		t.Errorf("R5: changed: %+v", l)
	}
	before := p.Print()
	for i := range l {
		l[i] = of(9, 5, 5, 5)
	}
	prints(t, "R5: kept", p, before)
}

// TestRecordsCountForNothing: idem asks for the numbers alone.
func TestRecordsCountForNothing(t *testing.T) {
	b := of(7, 0, 2, 40)
	b.Records = []api.Record{{At: -1, Key: strings.Repeat("k", 5000)}, {At: -1}, {At: 99, Bare: true, Gone: true}}
	p := idem.New()
	isNew(t, "P13.2: records", p, b)
	p.Note(b)
	isTold(t, "P13.2: records", p, of(7, 0, 2, 0), 40)
}
