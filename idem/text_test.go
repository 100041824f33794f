package idem_test

import (
	"math"
	"strings"
	"testing"

	"flotsam/api"
	"flotsam/idem"
	"flotsam/varint"
)

func TestPrint(t *testing.T) {
	prints(t, "P13.4: nobody", idem.New(), "\x00")
	prints(t, "P13.4: one", heard(of(0, 0, 1, 0)), "\x02\x00\x00\x02\x00\x00\x02")
	p := heard(
		in(5, of(300, 0, 2, 1000)),
		of(topProducer, 0, 50, topBase),
		in(topEpoch, of(0, topSeq, 1, 0)),
		in(1, of(20, 0, 1, 1)),
		in(5, of(300, 2, 3, 1002)),
		of(3, 0, 1, 7),
	)
	prints(t, "P13.4: by their numbers", p, text(5,
		0, topEpoch, 1, topSeq, 0, 1,
		3, 0, 1, 0, 7, 1,
		20, 1, 1, 0, 1, 1,
		300, 5, 2, 0, 1000, 2, 2, 1002, 3,
		topProducer, 0, 1, 0, topBase, 50))
	// A window, the first one of it ahead, as far round as its ring may be.
	for n := 1; n < 14; n++ {
		p, want := idem.New(), text(1, 7, 0, min(n, 5))
		for i := range n {
			p.Note(of(7, i, 1, 100+i))
			if i >= n-5 {
				want += text(i, 100+i, 1)
			}
		}
		prints(t, "P13.4: a window", p, want)
	}
}

// parsed is what Parse makes of a text that is right; what it tells then is that text again.
func parsed(t *testing.T, s string) *idem.Producers {
	t.Helper()
	p, e := idem.Parse(s)
	if p == nil || e != api.OK {
		t.Fatalf("P13.4: Parse of %x: %v, %d", s, p, e)
	}
	prints(t, "P13.4: what was parsed", p, s)
	return p
}

func refused(t *testing.T, what string, s string, want api.Errno) {
	t.Helper()
	if p, e := idem.Parse(s); p != nil || e != want {
		t.Errorf("P13.4: Parse of %s, %x: %v, %d, want nil, %d", what, s, p, e, want)
	}
}

func TestParse(t *testing.T) {
	nobody(t, parsed(t, "\x00"))
	p := parsed(t, text(3,
		0, topEpoch, 1, topSeq, topBase, 50,
		7, 2, 5, 0, 10, 1, 1, 20, 1, 9, 30, 2, 1, 40, 1, 2, 50, 3,
		topProducer, 0, 2, 5, 0, 1, 0, 3, 50))
	if p.Epoch(0) != topEpoch || p.Epoch(7) != 2 || p.Epoch(topProducer) != 0 || p.Epoch(8) != -1 {
		t.Errorf("P13.4: epochs: %d, %d, %d, %d", p.Epoch(0), p.Epoch(7), p.Epoch(topProducer), p.Epoch(8))
	}
	isTold(t, "P13.4: parsed", p, in(topEpoch, of(0, topSeq, 50, 0)), topBase)
	isTold(t, "P13.4: parsed", p, in(2, of(7, 0, 1, 0)), 10)
	isTold(t, "P13.4: parsed, two alike", p, in(2, of(7, 1, 1, 0)), 40)
	isTold(t, "P13.4: parsed", p, in(2, of(7, 2, 3, 0)), 50)
	isNew(t, "P13.4: parsed", p, in(2, of(7, 5, 3, 0)))
	isWrong(t, "P13.4: parsed", p, in(2, of(7, 11, 3, 0)), api.ErrOrder)
	isWrong(t, "P13.4: parsed", p, in(1, of(7, 5, 3, 0)), api.ErrFenced)
	isNew(t, "P13.4: parsed", p, of(topProducer, 50, 1, 0))

	// It goes on as if it had heard all of it.
	p.Note(in(2, of(7, 5, 1, 60)))
	p.Note(of(8, 0, 1, 70))
	prints(t, "P13.4: parsed, and gone on", p, text(4,
		0, topEpoch, 1, topSeq, topBase, 50,
		7, 2, 5, 1, 20, 1, 9, 30, 2, 1, 40, 1, 2, 50, 3, 5, 60, 1,
		8, 0, 1, 0, 70, 1,
		topProducer, 0, 2, 5, 0, 1, 0, 3, 50))
}

func TestParseNobodyGoesOn(t *testing.T) {
	p := parsed(t, "\x00")
	p.Note(of(7, 0, 1, 3))
	isTold(t, "P13.4", p, of(7, 0, 1, 0), 3)
	// Each Parse makes one of its own.
	nobody(t, parsed(t, "\x00"))
}

// TestParseNumbers has each number of a text at its edges, and beyond them.
func TestParseNumbers(t *testing.T) {
	right := []int{2, 3, 4, 2, 5, 6, 7, 8, 9, 10, 11, 0, 1, 0, 0, 1}
	parsed(t, text(right...))
	for _, c := range []struct {
		at    int
		what  string
		least int
		most  int
	}{
		{1, "a producer", 0, 10}, {2, "an epoch", 0, topEpoch}, {4, "Seq", 0, topSeq}, {5, "Base", 0, topBase}, {6, "Span", 1, topSpan},
		{7, "a later Seq", 0, topSeq}, {8, "a later Base", 0, topBase}, {9, "a later Span", 1, topSpan},
		{10, "a later producer", 4, topProducer}, {11, "a later epoch", 0, topEpoch},
	} {
		with := func(n int) []int {
			l := append([]int(nil), right...)
			l[c.at] = n
			return l
		}
		parsed(t, text(with(c.least)...))
		parsed(t, text(with(c.most)...))
		for _, n := range []int{math.MinInt, c.least - 1, c.most + 1, math.MaxInt} {
			refused(t, c.what, text(with(n)...), api.ErrForm)
			if c.what != "a producer" || n != c.most+1 {
				// As soon as it is read: what is missing behind it is not met.
				refused(t, c.what+", and no more", text(with(n)[:c.at+1]...), api.ErrForm)
			}
		}
	}
}

func TestParseCounts(t *testing.T) {
	for _, n := range []int{math.MinInt, -1, 10001, math.MaxInt} {
		refused(t, "so many producers", text(n), api.ErrForm)
		refused(t, "so many producers, and one", text(n, 0, 0, 1, 0, 0, 1), api.ErrForm)
	}
	for _, n := range []int{math.MinInt, -1, 0, 6, math.MaxInt} {
		refused(t, "so many of a window", text(1, 0, 0, n), api.ErrForm)
		refused(t, "so many of a window, and six", text(1, 0, 0, n)+strings.Repeat(text(0, 0, 1), 6), api.ErrForm)
	}
	for n := 1; n <= 5; n++ {
		parsed(t, text(1, 0, 0, n)+strings.Repeat(text(0, 0, 1), n))
		refused(t, "one less than it says", text(1, 0, 0, n)+strings.Repeat(text(0, 0, 1), n-1), api.ErrCut)
		refused(t, "one more than it says", text(1, 0, 0, n)+strings.Repeat(text(0, 0, 1), n+1), api.ErrForm)
	}
}

// TestParseSameTwice: a producer has to be above the one ahead.
func TestParseSameTwice(t *testing.T) {
	one := func(id int) string { return text(id, 0, 1, 0, 0, 1) }
	parsed(t, text(2)+one(3)+one(4))
	refused(t, "the same twice", text(2)+one(3)+one(3), api.ErrForm)
	refused(t, "the same twice, cut behind it", text(2)+one(3)+text(3), api.ErrForm)
	refused(t, "one below the one ahead", text(2)+one(3)+one(2), api.ErrForm)
	refused(t, "the first one again", text(3)+one(3)+one(5)+one(3), api.ErrForm)
	refused(t, "0 twice", text(2)+one(0)+one(0), api.ErrForm)
	refused(t, "the greatest one twice", text(2)+one(topProducer)+one(topProducer), api.ErrForm)
	refused(t, "one above the greatest", text(2)+one(topProducer)+one(topProducer+1), api.ErrForm)
}

// TestParseFirstMet: of several errors the one that stands first is told.
func TestParseFirstMet(t *testing.T) {
	refused(t, "nothing", "", api.ErrCut)
	refused(t, "half a number", "\x80", api.ErrCut)
	refused(t, "a number of too many bytes", "\x80\x00", api.ErrForm)
	refused(t, "no end in ten bytes", strings.Repeat("\x80", 10), api.ErrForm)
	refused(t, "no end in nine bytes", strings.Repeat("\x80", 9), api.ErrCut)
	refused(t, "nobody, and more", "\x00\x00", api.ErrForm)
	refused(t, "nobody, and half a number", "\x00\x80", api.ErrForm)
	refused(t, "a wrong Span, ahead of what is left", text(1, 0, 0, 1, 0, 0, 0, 0), api.ErrForm)
	refused(t, "a wrong epoch, ahead of the end", text(2, 0, -1), api.ErrForm)
	refused(t, "half a number, ahead of a wrong one", text(2, 0)+"\xff", api.ErrCut)
	refused(t, "a number of too many bytes in the midst", text(1, 0, 0, 1)+"\x82\x00"+text(0, 1), api.ErrForm)
	refused(t, "a number of too many bytes, ahead of the end", text(1, 0, 0, 1)+"\x82\x00", api.ErrForm)
}

// TestParseCut: of a text no beginning is one, and none that has more behind it.
func TestParseCut(t *testing.T) {
	s := heard(of(0, 0, 1, 0), in(300, of(300, 0, 2, 1000)), in(300, of(300, 2, 50, 1<<20)), of(topProducer, topSeq, 50, topBase)).Print()
	parsed(t, s)
	for n := range len(s) {
		refused(t, "a beginning", s[:n], api.ErrCut)
	}
	for _, more := range []string{"\x00", "\x02", "\x80", "\xff", s} {
		refused(t, "a text that goes on", s+more, api.ErrForm)
	}
}

// TestParseMany: 10000 are parsed; more are printed nevertheless.
func TestParseMany(t *testing.T) {
	p := idem.New()
	for i := range 10000 {
		p.Note(in(i%7, of((i*7919)%10000*100000, 0, 1+i%50, i)))
	}
	s := p.Print()
	if n, _, _ := varint.Get(s, 0); n != 10000 {
		t.Fatalf("P13.4: %d producers", n)
	}
	q := parsed(t, s)
	for i := range 10000 {
		isTold(t, "P13.5: of 10000", q, in(i%7, of((i*7919)%10000*100000, 0, 1+i%50, 0)), i)
	}
	p.Note(of(1, 0, 1, 0))
	s = p.Print()
	if n, _, _ := varint.Get(s, 0); n != 10001 {
		t.Fatalf("P13.4: %d producers", n)
	}
	refused(t, "10001", s, api.ErrForm)
}
