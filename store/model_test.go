package store_test

import (
	"fmt"
	"math"
	"math/rand"
	"slices"
	"strings"
	"testing"

	"flotsam/api"
	"flotsam/disk"
	"flotsam/idem"
	"flotsam/offsets"
	"flotsam/plog"
	"flotsam/store"
)

// plainPart is a partition as the chapter's words have it: with all batches that it ever had.
type plainPart struct {
	start int
	all   []api.Batch
	sent  *idem.Producers
	// sure is the end that must not be lost.
	sure int
	// tidied tells that what is left of its batches is not known.
	tidied bool
}

func (p *plainPart) end() int {
	if n := len(p.all); n > 0 {
		return p.all[n-1].Base + p.all[n-1].Span
	}
	return 0
}

// from are the batches that end above a place.
func (p *plainPart) from(at int) []api.Batch {
	return slices.DeleteFunc(slices.Clone(p.all), func(b api.Batch) bool { return b.Base+b.Span <= at })
}

// plain is a store as the chapter's words have it.
type plain struct {
	topics  map[string]int // their ids
	nextID  int
	next    int
	parts   map[api.Part]*plainPart
	commits map[offsets.Key]int
	// tries are commits behind the last one that was answered OK: a crash may have let one of them stay.
	tries map[offsets.Key][]int
}

// pair is a store on its disk, and the plain one to which the same is done.
type pair struct {
	t     *testing.T
	r     *rand.Rand
	d     *disk.Disk
	limit int
	s     *store.Store
	plain *plain
	seen  map[string]int
}

func (p *pair) names() []string {
	var l []string
	for name := range p.plain.topics {
		l = append(l, name)
	}
	slices.Sort(l)
	return l
}

func (p *pair) anyPart() (string, int) { return fmt.Sprint("t", p.r.Intn(3)), p.r.Intn(2) }

func (p *pair) part(name string, index int) *plainPart {
	return p.plain.parts[api.Part{Topic: name, Index: index}]
}

func (p *pair) anyBatch(part *plainPart) api.Batch {
	if part != nil && len(part.all) > 0 && p.r.Intn(4) == 0 {
		return part.all[max(len(part.all)-1-p.r.Intn(7), 0)]
	}
	b := small(1 + p.r.Intn(4))
	for at := range b.Span {
		rec := api.Record{At: at, Time: p.r.Intn(50), Key: fmt.Sprint("k", p.r.Intn(6)), Value: strings.Repeat("v", p.r.Intn(30))}
		switch p.r.Intn(6) {
		case 0:
			rec.Gone, rec.Value = true, ""
		case 1:
			rec.Bare, rec.Key = true, ""
		case 2:
			continue
		}
		b.Records = append(b.Records, rec)
	}
	if p.r.Intn(2) == 0 {
		b.Producer, b.Epoch, b.Seq = p.r.Intn(3), 0, 0
		if part != nil {
			for _, c := range part.all {
				if c.Producer == b.Producer {
					b.Epoch, b.Seq = c.Epoch, c.Seq+c.Span
				}
			}
		}
		switch p.r.Intn(15) {
		case 0:
			b.Epoch, b.Seq = b.Epoch+1, 0
		case 1:
			b.Seq++
		}
	}
	return b
}

// down tells whether an error is one that the disk tells.
func down(e api.Errno) bool { return e == api.ErrDown || e == api.ErrFull }

func (p *pair) saw(what string, e api.Errno) { p.seen[fmt.Sprint(what, " ", e)]++ }

// unopened tells whether an error may be that of a partition that was created by the last change that the disk let go: its log is not opened yet.
func (p *pair) unopened(part *plainPart, e api.Errno) bool {
	return e == api.ErrDown && part.end() == 0 && !p.d.Up()
}

func (p *pair) create() {
	name := fmt.Sprint("t", p.r.Intn(3))
	id, e := p.s.Create(name, 2)
	p.saw("create", e)
	_, there := p.plain.topics[name]
	if there != (e == api.ErrThere) || e == api.OK && id != p.plain.nextID || !there && e != api.OK && !down(e) {
		p.t.Fatalf("P21.2: Create: %d, %d", id, e)
	}
	if there || !p.s.There(name, 0) {
		return
	}
	p.plain.topics[name] = p.plain.nextID
	p.plain.nextID++
	for index := range 2 {
		p.plain.parts[api.Part{Topic: name, Index: index}] = &plainPart{sent: idem.New()}
	}
}

func (p *pair) delete() {
	name := fmt.Sprint("t", p.r.Intn(3))
	id, e := p.s.Delete(name)
	p.saw("delete", e)
	want, there := p.plain.topics[name]
	if there == (e == api.ErrNone) || e == api.OK && id != want || there && e != api.OK && !down(e) {
		p.t.Fatalf("P21.2: Delete: %d, %d", id, e)
	}
	if !there || p.s.There(name, 0) {
		return
	}
	delete(p.plain.topics, name)
	for index := range 2 {
		k := api.Part{Topic: name, Index: index}
		delete(p.plain.parts, k)
		for g := range 3 {
			delete(p.plain.commits, offsets.Key{Group: fmt.Sprint("g", g), Part: k})
			delete(p.plain.tries, offsets.Key{Group: fmt.Sprint("g", g), Part: k})
		}
	}
}

func (p *pair) identify() {
	id, e := p.s.Identify()
	p.saw("identify", e)
	if e == api.OK && id != p.plain.next || e != api.OK && !down(e) {
		p.t.Fatalf("P21.2: Identify: %d, %d, want %d", id, e, p.plain.next)
	}
	if e == api.OK {
		p.plain.next++
	}
}

func (p *pair) append() {
	name, index := p.anyPart()
	part := p.part(name, index)
	b, sync := p.anyBatch(part), p.r.Intn(3) == 0
	at, e := p.s.Append(name, index, b, sync)
	p.saw("append", e)
	if part == nil {
		if e != api.ErrNone {
			p.t.Fatalf("P21.3: Append: %d, want ErrNone", e)
		}
		return
	}
	if _, end := p.s.Bounds(name, index); end == 0 && p.unopened(part, e) {
		return
	}
	b.Base = part.end()
	want, told, wrong := part.sent.Check(b)
	if !told {
		want = b.Base
	}
	if wrong != api.OK && e != wrong || wrong == api.OK && e != api.OK && !down(e) || e == api.OK && at != want || e != api.OK && at != 0 {
		p.t.Fatalf("P21.3: Append of %+v: %d, %d, want %d, %d", b, at, e, want, wrong)
	}
	if _, end := p.s.Bounds(name, index); !told && end > b.Base {
		part.all = append(part.all, b)
		part.sent.Note(b)
	}
	if told {
		p.saw("told again", e)
	}
	if e == api.OK && sync {
		part.sure = part.end()
	}
}

func (p *pair) trim() {
	name, index := p.anyPart()
	part := p.part(name, index)
	if part == nil {
		return
	}
	to := part.start - 1 + p.r.Intn(part.end()-part.start+3)/(1+p.r.Intn(4))
	e := p.s.Trim(name, index, to)
	p.saw("trim", e)
	if p.unopened(part, e) {
		return
	}
	if wrong := to < part.start || to > part.end(); wrong != (e == api.ErrRange) || !wrong && e != api.OK && !down(e) {
		p.t.Fatalf("P21.3: Trim to %d of %d to %d: %d", to, part.start, part.end(), e)
	}
	start, _ := p.s.Bounds(name, index)
	if e == api.OK && start != to || start != to && start != part.start {
		p.t.Fatalf("P21.3: Trim to %d of %d to %d: %d", to, part.start, part.end(), start)
	}
	part.start = start
	if e == api.OK {
		part.sure = max(part.sure, start)
	}
}

func (p *pair) tidy() {
	name, index := p.anyPart()
	part := p.part(name, index)
	if part == nil {
		return
	}
	most := p.r.Intn(1000)
	if p.r.Intn(3) > 0 {
		most = math.MaxInt
	}
	e := p.s.Tidy(name, index, most, p.r.Intn(60))
	p.saw("tidy", e)
	start, end := p.s.Bounds(name, index)
	if e != api.OK && !down(e) || start < part.start || end != part.end() {
		p.t.Fatalf("P21.5: Tidy: %d, %d to %d", e, start, end)
	}
	part.start, part.tidied = start, true
}

func (p *pair) commit() {
	name, index := p.anyPart()
	k := offsets.Key{Group: fmt.Sprint("g", p.r.Intn(3)), Part: api.Part{Topic: name, Index: index}}
	at := p.r.Intn(100)
	e := p.s.Commit(k, at, p.r.Intn(100))
	p.saw("commit", e)
	if there := p.part(name, index) != nil; there == (e == api.ErrNone) || there && e != api.OK && !down(e) {
		p.t.Fatalf("P21.4: Commit: %d", e)
	}
	switch e {
	case api.OK:
		p.plain.commits[k] = at
		delete(p.plain.tries, k)
	case api.ErrDown:
		p.plain.tries[k] = append(p.plain.tries[k], at)
	}
}

// live holds the store against the plain one.
func (p *pair) live() {
	p.t.Helper()
	var topics []api.Topic
	for _, name := range p.names() {
		topics = append(topics, api.Topic{Name: name, Parts: 2})
		for index := range 2 {
			p.livePart(name, index)
		}
	}
	hasTopics(p.t, "P21.2", p.s, topics...)
	got := map[offsets.Key]int{}
	table := p.s.Commits()
	for _, k := range table.Keys() {
		// Those of a topic whose Delete was ended by an error are there still.
		if p.part(k.Part.Topic, k.Part.Index) != nil {
			got[k], _ = table.Get(k)
		}
	}
	for k, at := range p.plain.commits {
		if n, ok := got[k]; n != at || !ok {
			p.t.Fatalf("P21.4: commit of %v: %d, %t, want %d", k, n, ok, at)
		}
	}
	if len(got) != len(p.plain.commits) {
		p.t.Fatalf("P21.4: commits %v, want %v", got, p.plain.commits)
	}
}

func (p *pair) livePart(name string, index int) {
	p.t.Helper()
	part := p.part(name, index)
	start, end := p.s.Bounds(name, index)
	if start != part.start || end != part.end() {
		p.t.Fatalf("P21.3: Bounds of %q, %d: %d, %d, want %d, %d", name, index, start, end, part.start, part.end())
	}
	l, e := p.s.Read(name, index, start, math.MaxInt)
	if p.unopened(part, e) {
		return
	}
	if e != api.OK || !part.tidied && !same(l, part.from(start)) {
		p.t.Fatalf("P21.3: Read of %q, %d: %+v, %d, want %+v", name, index, l, e, part.from(start))
	}
	p.left(part, l)
}

// left asks of what is left of a partition whether each record was there, and whether of each key the last one is there still.
func (p *pair) left(part *plainPart, l []api.Batch) {
	p.t.Helper()
	all := part.from(part.start)
	values := func(l []api.Batch) map[int]string {
		m := map[int]string{}
		for _, b := range l {
			for _, r := range b.Records {
				m[b.Base+r.At] = fmt.Sprintf("%+v", r)
			}
		}
		return m
	}
	was, is := values(all), values(l)
	for at, r := range is {
		if was[at] != r {
			p.t.Fatalf("P21.6: at %d stands %s, and was %s", at, r, was[at])
		}
	}
	last := map[string]int{}
	for _, b := range all {
		for _, r := range b.Records {
			if at := b.Base + r.At; !r.Bare {
				last[r.Key] = at
				if r.Gone {
					delete(last, r.Key)
				}
			} else if is[at] == "" {
				p.t.Fatalf("P21.6: a record without a key has gone: %d", at)
			}
		}
	}
	for key, at := range last {
		if is[at] == "" {
			p.t.Fatalf("P21.6: the last record of %s has gone: %d of %v, of batches %+v", key, at, is, all)
		}
	}
}

// crash lets the disk crash, mostly once more while it is taken up again, and holds what is there against what must be.
func (p *pair) crash() {
	p.t.Helper()
	was := p.s.Topics()
	for {
		keep := make([]int, p.r.Intn(8))
		for i := range keep {
			keep[i] = p.r.Intn(80)
		}
		p.d.Crash(keep)
		if p.r.Intn(2) == 0 {
			p.d.Fuse(p.r.Intn(8))
		}
		s, e := store.Open(p.d, p.limit)
		p.saw("open", e)
		if e == api.OK {
			p.s = s
			break
		}
		if e != api.ErrDown {
			p.t.Fatalf("P21.6: Open behind a crash: %d", e)
		}
	}
	if l := p.s.Topics(); !slices.Equal(l, was) {
		p.t.Fatalf("P21.6: topics behind a crash: %v, want %v", l, was)
	}
	p.saw("crash", 0)
	for k, part := range p.plain.parts {
		p.cut(k, part)
	}
	p.takeCommits()
	for _, name := range p.d.Names() {
		if strings.HasPrefix(name, "p") {
			p.owned(name)
		}
	}
}

// cut takes over how much of a partition is left.
func (p *pair) cut(k api.Part, part *plainPart) {
	p.t.Helper()
	start, end := p.s.Bounds(k.Topic, k.Index)
	if start != part.start || end < part.sure || end > part.end() {
		p.t.Fatalf("P21.6: %v behind a crash: %d to %d, and was %d to %d, %d sure", k, start, end, part.start, part.end(), part.sure)
	}
	if end < part.end() {
		p.seen["lost"]++
	}
	for len(part.all) > 0 && part.end() > end {
		part.all = part.all[:len(part.all)-1]
	}
	if part.end() != end && end != part.start {
		p.t.Fatalf("P21.6: %v behind a crash ends at %d, within a batch", k, end)
	}
	part.sure = max(part.sure, end)
	l, e := plog.Open(p.d.Copy(), plog.Config{Prefix: fmt.Sprint("p", p.plain.topics[k.Topic], ".", k.Index), Limit: p.limit, Every: 200})
	if e == api.ErrDown {
		c := p.d.Copy()
		c.Fuse(-1)
		l, e = plog.Open(c, plog.Config{Prefix: fmt.Sprint("p", p.plain.topics[k.Topic], ".", k.Index), Limit: p.limit, Every: 200})
	}
	if e != api.OK {
		p.t.Fatalf("plog.Open: %d", e)
	}
	var all []api.Batch
	for i := 0; ; i++ {
		b, ok := l.Segment(i)
		if !ok {
			break
		}
		all = append(all, b...)
	}
	old := part.sent
	part.sent = idem.Rebuild(all)
	// The last batch of each producer is told again, if the start has not passed it.
	last := map[int]api.Batch{}
	for _, b := range part.from(start) {
		last[b.Producer] = b
	}
	for id, b := range last {
		if id < 0 {
			continue
		}
		if at, told, e := part.sent.Check(b); at != b.Base || !told || e != api.OK {
			p.t.Fatalf("P21.6: of producer %d %+v is told %d, %t, %d, ahead %q", id, b, at, told, e, old.Print())
		}
	}
	p.livePart(k.Topic, k.Index)
}

// takeCommits takes over which commits are left: of each key the last one that was answered OK, or one behind it.
func (p *pair) takeCommits() {
	p.t.Helper()
	table := p.s.Commits()
	for _, k := range table.Keys() {
		at, _ := table.Get(k)
		was, ok := p.plain.commits[k]
		if (!ok || at != was) && !slices.Contains(p.plain.tries[k], at) {
			p.t.Fatalf("P21.6: commit of %v behind a crash: %d, and was %d, %t", k, at, was, ok)
		}
		p.plain.commits[k] = at
	}
	if n := len(table.Keys()); n != len(p.plain.commits) {
		p.t.Fatalf("P21.6: %d commits behind a crash, want %v", n, p.plain.commits)
	}
	p.plain.tries = map[offsets.Key][]int{}
}

// owned asks whether a file is of a partition that is there.
func (p *pair) owned(name string) {
	p.t.Helper()
	for _, id := range p.plain.topics {
		for index := range 2 {
			if strings.HasPrefix(name, fmt.Sprint("p", id, ".", index, "-")) || name == fmt.Sprint("p", id, ".", index, ".start") {
				return
			}
		}
	}
	p.t.Fatalf("P21.1: behind Open there is %s", name)
}

func (p *pair) step() {
	if p.r.Intn(12) == 0 {
		p.d.Fuse(p.r.Intn(10))
	}
	switch p.r.Intn(30) {
	case 0, 1:
		p.create()
	case 2:
		if p.r.Intn(3) == 0 {
			p.delete()
		}
	case 3:
		p.identify()
	case 4, 5:
		p.trim()
	case 6, 7:
		p.tidy()
	case 8, 9, 10, 11:
		p.commit()
	case 12:
		if p.r.Intn(2) == 0 {
			p.crash()
		}
	default:
		p.append()
	}
	p.live()
	// A disk that is down is mostly lost, but it may also go on.
	if !p.d.Up() && p.r.Intn(3) == 0 {
		if p.r.Intn(4) == 0 {
			p.d.Fuse(-1)
		} else {
			p.crash()
		}
	}
}

// TestModel does anything to a store, on a disk that goes down and crashes anywhere.
func TestModel(t *testing.T) {
	seen := map[string]int{}
	for seed := range 60 {
		r := rand.New(rand.NewSource(int64(seed)))
		d, _ := disk.New(1500 + r.Intn(8000))
		p := &pair{t: t, r: r, d: d, limit: 50 + r.Intn(150), seen: seen}
		p.plain = &plain{topics: map[string]int{}, parts: map[api.Part]*plainPart{}, commits: map[offsets.Key]int{}, tries: map[offsets.Key][]int{}}
		var e api.Errno
		if p.s, e = store.Open(d, p.limit); e != api.OK {
			t.Fatalf("P21.1: Open: %d", e)
		}
		for range 500 {
			p.step()
		}
	}
	for _, what := range []string{"create", "delete", "identify", "append", "trim", "tidy", "commit", "told again"} {
		errors := []api.Errno{api.OK, api.ErrDown}
		if what == "append" || what == "commit" || what == "create" {
			errors = append(errors, api.ErrFull)
		}
		for _, e := range errors {
			if n := seen[fmt.Sprint(what, " ", e)]; n < 5 {
				t.Errorf("%s told %d only %d times", what, e, n)
			}
		}
	}
	if seen["lost"] < 50 || seen["open 7"] < 50 || seen["crash 0"] < 300 {
		t.Errorf("crashes: %v", seen)
	}
}
