package plog_test

import (
	"fmt"
	"math/rand"
	"slices"
	"testing"

	"flotsam/api"
	"flotsam/batch"
	"flotsam/disk"
	"flotsam/plog"
)

// plain is a log word by word as the document has it, of lists alone.
type plain struct {
	room  int
	limit int
	start int
	// begun tells whether there is a file of the start.
	begun bool
	parts []*part
}

// part is a segment: whether its file is there, and how many of its batches are safe.
type part struct {
	base int
	l    []api.Batch
	made bool
	safe int
}

func size(l ...api.Batch) int {
	n := 0
	for _, b := range l {
		s, _ := batch.Encode(b)
		n += len(s)
	}
	return n
}

func (p *part) end() int {
	if n := len(p.l); n > 0 {
		return p.l[n-1].Base + p.l[n-1].Span
	}
	return p.base
}

func (p *plain) last() *part { return p.parts[len(p.parts)-1] }

func (p *plain) end() int {
	if len(p.parts) == 0 {
		return p.start
	}
	return p.last().end()
}

func (p *plain) all() []api.Batch {
	var l []api.Batch
	for _, s := range p.parts {
		l = append(l, s.l...)
	}
	return l
}

func (p *plain) used() int {
	if p.begun {
		return size(p.all()...) + 8
	}
	return size(p.all()...)
}

// synced is the end up to which all is safe.
func (p *plain) synced() int {
	if len(p.parts) == 0 {
		return p.start
	}
	s := p.last()
	return (&part{base: s.base, l: s.l[:s.safe]}).end()
}

func (p *plain) sync() {
	if len(p.parts) > 0 {
		p.last().safe = len(p.last().l)
	}
}

func (p *plain) append(b api.Batch, sync bool) (int, api.Errno) {
	at := p.end()
	b.Base = at
	if batch.Check(b) != api.OK {
		return 0, api.ErrArg
	}
	if len(p.parts) == 0 || size(p.last().l...) >= p.limit {
		p.sync()
		p.parts = append(p.parts, &part{base: at})
	}
	if p.used()+size(b) > p.room {
		return 0, api.ErrFull
	}
	s := p.last()
	s.l, s.made = append(s.l, b), true
	if sync {
		p.sync()
	}
	return at, api.OK
}

func (p *plain) drop() {
	for len(p.parts) > 1 && p.parts[0].end() <= p.start {
		p.parts = p.parts[1:]
	}
}

func (p *plain) advance(to int) api.Errno {
	if to < p.start || to > p.end() {
		return api.ErrRange
	}
	p.sync()
	if p.used()+8 > p.room {
		return api.ErrFull
	}
	p.start, p.begun = to, true
	p.drop()
	return api.OK
}

func (p *plain) retain(most int) (int, api.Errno) {
	if most < 0 {
		return 0, api.ErrArg
	}
	n := len(p.parts)
	for size(p.all()...) > most && len(p.parts) > 1 {
		if e := p.advance(max(p.start, p.parts[1].base)); e != api.OK {
			return 0, e
		}
	}
	return n - len(p.parts), api.OK
}

func (p *plain) swap(i int, b []api.Batch) api.Errno {
	if i < 0 || i >= len(p.parts)-1 || len(b) == 0 {
		return api.ErrArg
	}
	s := p.parts[i]
	end := s.base
	for _, b := range b {
		if batch.Check(b) != api.OK || b.Base < end {
			return api.ErrArg
		}
		end = b.Base + b.Span
	}
	if end > s.end() {
		return api.ErrArg
	}
	if i == len(p.parts)-2 && end < s.end() {
		p.last().made = true
	}
	if p.used()+size(b...) > p.room {
		return api.ErrFull
	}
	s.l, s.safe = slices.Clone(b), len(b)
	return api.OK
}

func (p *plain) read(from int, most int) ([]api.Batch, api.Errno) {
	if from < p.start || from > p.end() {
		return nil, api.ErrRange
	}
	all := p.all()
	first := slices.IndexFunc(all, func(b api.Batch) bool { return b.Base+b.Span > from })
	if first < 0 {
		return nil, api.OK
	}
	n := 1
	for first+n < len(all) && size(all[first:first+n+1]...) <= most {
		n++
	}
	return all[first : first+n], api.OK
}

func (p *plain) after(time int) (int, bool) {
	for _, b := range p.all() {
		for _, r := range b.Records {
			if r.Time >= time {
				return max(b.Base, p.start), true
			}
		}
	}
	return 0, false
}

// reopen is what an Open finds: without a file the last segment is none.
func (p *plain) reopen() {
	if n := len(p.parts); n > 0 && !p.last().made {
		p.parts = p.parts[:n-1]
	}
	p.drop()
}

// crash keeps so many bytes of what waits in the last segment, and of these the batches that are whole.
func (p *plain) crash(keep int) {
	if len(p.parts) == 0 {
		return
	}
	s := p.last()
	left := size(s.l[:s.safe]...) + keep
	for len(s.l) > s.safe && size(s.l...) > left {
		s.l = s.l[:len(s.l)-1]
	}
	s.safe = len(s.l)
	p.reopen()
}

func (p *plain) names() []string {
	var l []string
	for _, s := range p.parts {
		if s.made {
			l = append(l, name(s.base))
		}
	}
	if p.begun {
		l = append(l, "p.start")
	}
	return l
}

func someBatch(r *rand.Rand) api.Batch {
	b := small(r.Intn(50), 1+r.Intn(6))
	if r.Intn(15) == 0 {
		b.Span = 0
	}
	if r.Intn(3) == 0 {
		b.Producer, b.Epoch, b.Seq = r.Intn(5), r.Intn(5), r.Intn(5)
	}
	for at := r.Intn(2); at < b.Span; at += 1 + r.Intn(4) {
		b.Records = append(b.Records, api.Record{At: at, Time: r.Intn(50), Bare: true, Value: "some text"[:r.Intn(10)]})
	}
	return b
}

// thinned is some of the batches of a segment, or others that may or may not stand in their place.
func thinned(r *rand.Rand, p *plain, i int) []api.Batch {
	var l []api.Batch
	if i < 0 || i >= len(p.parts) {
		return []api.Batch{small(0, 1)}
	}
	for _, b := range p.parts[i].l {
		switch r.Intn(9) {
		case 0, 1, 2, 3:
			l = append(l, b)
		case 4:
			l = append(l, small(b.Base+r.Intn(3)-r.Intn(2), 1))
		}
	}
	return l
}

// change is one that can be done to a log, and to one as the document has it.
type change struct {
	what    string
	log     func(l *plog.Log) (int, api.Errno)
	plainly func(p *plain) (int, api.Errno)
}

func someChange(r *rand.Rand, p *plain) change {
	switch r.Intn(13) {
	case 0:
		return change{"P11.2: Sync", func(l *plog.Log) (int, api.Errno) { return 0, l.Sync() }, func(p *plain) (int, api.Errno) { p.sync(); return 0, api.OK }}
	case 1:
		to := p.start - 1 + r.Intn(max(5, p.end()-p.start+3))
		if r.Intn(2) == 0 {
			to = p.start + r.Intn(4)
		}
		return change{fmt.Sprintf("P11.4: Advance(%d)", to), func(l *plog.Log) (int, api.Errno) { return 0, l.Advance(to) }, func(p *plain) (int, api.Errno) { return 0, p.advance(to) }}
	case 2:
		most := r.Intn(1500) - 5
		return change{fmt.Sprintf("P11.4: Retain(%d)", most), func(l *plog.Log) (int, api.Errno) { return l.Retain(most) }, func(p *plain) (int, api.Errno) { return p.retain(most) }}
	case 3, 4:
		i := r.Intn(len(p.parts)+3) - 1
		if r.Intn(2) == 0 {
			i = len(p.parts) - 2
		}
		b := thinned(r, p, i)
		return change{fmt.Sprintf("P11.5: Swap(%d, %+v)", i, b), func(l *plog.Log) (int, api.Errno) { return 0, l.Swap(i, b) }, func(p *plain) (int, api.Errno) { return 0, p.swap(i, b) }}
	}
	b, sync := someBatch(r), r.Intn(4) == 0
	return change{fmt.Sprintf("P11.2: Append(%+v, %t)", b, sync), func(l *plog.Log) (int, api.Errno) { return l.Append(b, sync) }, func(p *plain) (int, api.Errno) { return p.append(b, sync) }}
}

// both does a change to both.
func both(t *testing.T, c change, l *plog.Log, p *plain) {
	t.Helper()
	n, e := c.log(l)
	if want, w := c.plainly(p); n != want || e != w {
		t.Fatalf("%s: %d, %d, want %d, %d", c.what, n, e, want, w)
	}
}

func alike(t *testing.T, r *rand.Rand, d *disk.Disk, l *plog.Log, p *plain) {
	t.Helper()
	var want [][]api.Batch
	for _, s := range p.parts {
		want = append(want, s.l)
	}
	hasJust(t, "as the document has it", l, p.start, p.end(), want...)
	if names := d.Names(); !slices.Equal(names, p.names()) || d.Used() != p.used() {
		t.Errorf("files: %q of %d bytes, want %q of %d", names, d.Used(), p.names(), p.used())
	}
	for range 3 {
		from, most, time := p.start-3+r.Intn(p.end()-p.start+6), r.Intn(500)-10, r.Intn(54)-2
		got, e := l.Read(from, most)
		if b, w := p.read(from, most); !same(got, b) || e != w {
			t.Errorf("P11.3: Read(%d, %d): %+v, %d, want %+v, %d", from, most, got, e, b, w)
		}
		at, ok := l.After(time)
		if base, there := p.after(time); at != base || ok != there {
			t.Errorf("P11.3: After(%d): %d, %t, want %d, %t", time, at, ok, base, there)
		}
	}
	if t.Failed() {
		t.FailNow()
	}
}

// TestManySteps does the same steps, whatever comes, to a log and to one as the document has it, with crashes in between.
func TestManySteps(t *testing.T) {
	for seed := range int64(400) {
		r := rand.New(rand.NewSource(seed))
		room, c := 200+r.Intn(2000), plog.Config{Prefix: "p", Limit: 50 + r.Intn(100), Every: 1 + r.Intn(100)}
		d := newDisk(t, room)
		p := &plain{room: room, limit: c.Limit}
		l := open(t, d, c)
		for range 120 {
			switch r.Intn(15) {
			case 0:
				keep := r.Intn(150)
				d.Crash([]int{keep})
				p.crash(keep)
				l = open(t, d, c)
			case 1:
				p.reopen()
				l = open(t, d, c)
			default:
				both(t, someChange(r, p), l, p)
			}
			alike(t, r, d, l, p)
		}
	}
}

// built is a log behind so many steps.
func built(t *testing.T, seed int64, steps int) (*rand.Rand, *disk.Disk, *plog.Log, *plain, plog.Config) {
	t.Helper()
	r := rand.New(rand.NewSource(seed))
	room, c := 200+r.Intn(1000), plog.Config{Prefix: "p", Limit: 50 + r.Intn(50), Every: 1 + r.Intn(100)}
	d := newDisk(t, room)
	p := &plain{room: room, limit: c.Limit}
	l := open(t, d, c)
	for range steps {
		both(t, someChange(r, p), l, p)
	}
	return r, d, l, p, c
}

// hasAllOf tells whether a log is as one of two were, that ahead of a change or that behind it, cut at some end.
func hasAllOf(t *testing.T, l *plog.Log, ahead *plain, behind *plain) {
	t.Helper()
	if l.Start() < ahead.start || l.Start() > behind.start || l.End() < ahead.synced() || l.End() > max(ahead.end(), behind.end()) {
		t.Fatalf("P11.6: %d to %d, want from %d or %d on, to %d or %d, but %d at least", l.Start(), l.End(), ahead.start, behind.start, ahead.end(), behind.end(), ahead.synced())
	}
	got, e := l.Read(l.Start(), 1<<30)
	if e != api.OK {
		t.Fatalf("P11.3: Read: %d", e)
	}
	for _, b := range []*plain{ahead, behind} {
		want := slices.DeleteFunc(b.all(), func(b api.Batch) bool { return b.Base+b.Span <= l.Start() || b.Base >= l.End() })
		if same(got, want) {
			return
		}
	}
	t.Fatalf("P11.6: %+v, which it was neither ahead of the change nor behind it", got)
}

// TestCrashAnywhere lets the disk go down at each place of a change, crash, go down at each place of Open, and crash again.
func TestCrashAnywhere(t *testing.T) {
	for seed := range int64(40) {
		for steps := 0; steps < 40; steps += 3 {
			for fuse, done := 0, false; !done; fuse++ {
				r, d, l, ahead, c := built(t, seed, steps)
				_, _, _, behind, _ := built(t, seed, steps+1)
				change := someChange(r, ahead)
				d.Fuse(fuse)
				change.log(l)
				done = d.Up()
				d.Crash([]int{r.Intn(80), r.Intn(80), r.Intn(80)})
				hasAllOf(t, open(t, d.Copy(), c), ahead, behind)
				crashInOpen(t, r, d, c, ahead, behind)
			}
		}
	}
}

func crashInOpen(t *testing.T, r *rand.Rand, d *disk.Disk, c plog.Config, ahead *plain, behind *plain) {
	t.Helper()
	for fuse, done := 0, false; !done; fuse++ {
		torn := d.Copy()
		torn.Fuse(fuse)
		l, e := plog.Open(torn, c)
		if e == api.OK {
			hasAllOf(t, l, ahead, behind)
		}
		if e != api.OK && (e != api.ErrDown || l != nil) {
			t.Fatalf("P11.1: Open with a fuse of %d: %v, %d", fuse, l, e)
		}
		done = torn.Up()
		torn.Crash([]int{r.Intn(80), r.Intn(80)})
		hasAllOf(t, open(t, torn, c), ahead, behind)
	}
}
