package segment_test

import (
	"math/rand"
	"slices"
	"testing"

	"flotsam/api"
	"flotsam/batch"
	"flotsam/disk"
	"flotsam/segment"
)

// plain is a segment word by word as the document has it: the batches, and how many of their bytes are safe.
type plain struct {
	base int
	l    []api.Batch
	safe int
}

func (p *plain) end() int {
	if n := len(p.l); n > 0 {
		return p.l[n-1].Base + p.l[n-1].Span
	}
	return p.base
}

func size(l ...api.Batch) int {
	n := 0
	for _, b := range l {
		s, _ := batch.Encode(b)
		n += len(s)
	}
	return n
}

func (p *plain) append(b api.Batch, room int) api.Errno {
	if batch.Check(b) != api.OK || b.Base < p.end() {
		return api.ErrArg
	}
	if size(p.l...)+size(b) > room {
		return api.ErrFull
	}
	p.l = append(p.l, b)
	return api.OK
}

func (p *plain) read(from int, most int) []api.Batch {
	first := slices.IndexFunc(p.l, func(b api.Batch) bool { return b.Base+b.Span > from })
	if first < 0 {
		return nil
	}
	n := 1
	for first+n < len(p.l) && size(p.l[first:first+n+1]...) <= most {
		n++
	}
	return p.l[first : first+n]
}

func (p *plain) after(time int) (int, bool) {
	for _, b := range p.l {
		for _, r := range b.Records {
			if r.Time >= time {
				return b.Base, true
			}
		}
	}
	return 0, false
}

// crash keeps so many bytes of what waits, and of these the batches that are whole.
func (p *plain) crash(keep int) {
	left := min(size(p.l...), p.safe+keep)
	for size(p.l...) > left {
		p.l = p.l[:len(p.l)-1]
	}
	p.safe = size(p.l...)
}

func someBatch(r *rand.Rand, end int) api.Batch {
	b := one(end+max(0, r.Intn(12)-7), 1+r.Intn(6))
	if r.Intn(15) == 0 {
		b.Base = end - 1
	}
	if r.Intn(15) == 0 {
		b.Span = 0
	}
	if r.Intn(3) == 0 {
		b.Producer, b.Epoch, b.Seq = r.Intn(5), r.Intn(5), r.Intn(5)
	}
	for at := r.Intn(2); at < b.Span; at += 1 + r.Intn(4) {
		b.Records = append(b.Records, api.Record{At: at, Time: r.Intn(50), Bare: true, Value: "some text"[:r.Intn(10)]})
	}
	return b
}

func alike(t *testing.T, r *rand.Rand, s *segment.Segment, p *plain) {
	t.Helper()
	if s.Base() != p.base || s.End() != p.end() || s.Size() != size(p.l...) {
		t.Fatalf("P10.3: Base, End, Size: %d, %d, %d, want %d, %d, %d", s.Base(), s.End(), s.Size(), p.base, p.end(), size(p.l...))
	}
	for range 3 {
		from, most, time := p.base-3+r.Intn(p.end()-p.base+6), r.Intn(300)-10, r.Intn(54)-2
		if l, want := s.Read(from, most), p.read(from, most); !same(l, want) {
			t.Fatalf("P10.3: Read(%d, %d): %+v, want %+v", from, most, l, want)
		}
		at, ok := s.After(time)
		if want, there := p.after(time); at != want || ok != there {
			t.Fatalf("P10.3: After(%d): %d, %t, want %d, %t", time, at, ok, want, there)
		}
	}
}

// TestManySteps does the same steps, whatever comes, to a segment and to one as the document has it, with crashes in between.
func TestManySteps(t *testing.T) {
	for seed := range int64(300) {
		r := rand.New(rand.NewSource(seed))
		room, every := 200+r.Intn(3000), 1+r.Intn(150)
		d, _ := disk.New(room)
		p := &plain{base: r.Intn(3) * 1000}
		s := open(t, d, p.base, every)
		for range 80 {
			switch r.Intn(12) {
			case 0:
				keep := r.Intn(150)
				d.Crash([]int{keep})
				p.crash(keep)
				every = 1 + r.Intn(150)
				s = open(t, d, p.base, every)
			case 1:
				s = open(t, d, p.base, every)
			case 2, 3:
				if e := s.Sync(); e != api.OK {
					t.Fatalf("P10.2: Sync: %d", e)
				}
				p.safe = size(p.l...)
			default:
				b := someBatch(r, p.end())
				if e, want := s.Append(b), p.append(b, room); e != want {
					t.Fatalf("P10.2: Append of %+v: %d, want %d", b, e, want)
				}
			}
			alike(t, r, s, p)
		}
	}
}
