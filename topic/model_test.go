package topic_test

import (
	"cmp"
	"fmt"
	"math/rand"
	"slices"
	"strings"
	"testing"

	"flotsam/api"
	"flotsam/topic"
	"flotsam/varint"
)

// plain is a table as the chapter's words have it: a list, in which each is looked for from its beginning on.
type plain struct {
	next   int
	topics []plainTopic
}

type plainTopic struct {
	name      string
	id, parts int
}

func (p *plain) place(name string) int {
	return slices.IndexFunc(p.topics, func(o plainTopic) bool { return o.name == name })
}

func (p *plain) create(name string, parts int) (int, api.Errno) {
	switch {
	case len(name) == 0 || len(name) > 100 || parts < 1 || parts > 16:
		return 0, api.ErrArg
	case p.place(name) >= 0:
		return 0, api.ErrThere
	case len(p.topics) == 20 || p.next == endOfIDs:
		return 0, api.ErrFull
	}
	p.topics = append(p.topics, plainTopic{name: name, id: p.next, parts: parts})
	p.next++
	return p.next - 1, api.OK
}

func (p *plain) delete(name string) (int, api.Errno) {
	i := p.place(name)
	if i < 0 {
		return 0, api.ErrNone
	}
	id := p.topics[i].id
	p.topics = slices.Delete(p.topics, i, i+1)
	return id, api.OK
}

func (p *plain) print() string {
	l := slices.Clone(p.topics)
	slices.SortFunc(l, func(a, b plainTopic) int { return cmp.Compare(a.name, b.name) })
	s := text(p.next, len(l))
	for _, o := range l {
		s += text(o.name, o.id, o.parts)
	}
	return s
}

// parseError is what Parse has to tell of a text, step by step as the promise names them.
func parseError(s string) api.Errno {
	next, at, e := varint.Get(s, 0)
	if e != api.OK {
		return e
	}
	if next < 0 || next > endOfIDs {
		return api.ErrForm
	}
	count, at, e := varint.Get(s, at)
	if e != api.OK {
		return e
	}
	if count < 0 || count > 20 {
		return api.ErrForm
	}
	ahead, ids := "", map[int]int{}
	for range count {
		var name string
		var id, parts int
		if name, at, e = varint.Take(s, at, 100); e != api.OK {
			return e
		}
		if len(name) == 0 || strings.Compare(name, ahead) <= 0 {
			return api.ErrForm
		}
		if id, at, e = varint.Get(s, at); e != api.OK {
			return e
		}
		if id < 0 || id >= next {
			return api.ErrForm
		}
		if parts, at, e = varint.Get(s, at); e != api.OK {
			return e
		}
		if parts < 1 || parts > 16 {
			return api.ErrForm
		}
		ahead = name
		ids[id]++
	}
	if at != len(s) || len(ids) != count {
		return api.ErrForm
	}
	return api.OK
}

// twist is a text that is not quite another one.
func twist(r *rand.Rand, s string) string {
	b := []byte(s)
	for range 1 + r.Intn(2) {
		i := r.Intn(len(b))
		switch r.Intn(6) {
		case 0:
			b[i] ^= 1 << r.Intn(8)
		case 1:
			b[i] = byte(r.Intn(256))
		case 2:
			b = slices.Insert(b, i, byte(r.Intn(40)))
		case 3:
			b = slices.Delete(b, i, i+1)
		case 4:
			b = b[:i]
		case 5:
			b[i] += byte(2 * (r.Intn(3) - 1))
		}
		if len(b) == 0 {
			break
		}
	}
	return string(b)
}

// twisted holds Parse of texts that are not quite what was printed against its promise; it tells how many were right all the same.
func twisted(t *testing.T, r *rand.Rand, s string) int {
	right := 0
	for range 20 {
		s := twist(r, s)
		want := parseError(s)
		if want != api.OK {
			refused(t, "a twisted text", s, want)
			continue
		}
		parsed(t, s)
		right++
	}
	return right
}

// TestModel does anything to a table and to a plain one: the answers are the same, and the text, of which another table is made now and then.
func TestModel(t *testing.T) {
	right := 0
	for seed := range 300 {
		r := rand.New(rand.NewSource(int64(seed)))
		x, p := topic.New(), &plain{}
		if seed%10 == 9 {
			p.next = endOfIDs - 30
			x = parsed(t, p.print())
		}
		names := 3 + r.Intn(25)
		for range 100 {
			name := fmt.Sprint(r.Intn(names))
			if r.Intn(30) == 0 {
				name = strings.Repeat("x", 101*r.Intn(2))
			}
			step(t, r, x, p, name)
			if s := p.print(); x.Print() != s || parseError(s) != api.OK {
				t.Fatalf("P18.3: Print: %x, want %x", x.Print(), s)
			}
			if r.Intn(10) == 0 {
				x = parsed(t, x.Print())
			}
		}
		right += twisted(t, r, x.Print())
	}
	if right < 100 {
		t.Errorf("P18.3: %d twisted texts were right alone", right)
	}
}

func step(t *testing.T, r *rand.Rand, x *topic.Table, p *plain, name string) {
	t.Helper()
	if r.Intn(3) > 0 {
		parts := r.Intn(18)
		id, e := x.Create(name, parts)
		if id2, e2 := p.create(name, parts); id != id2 || e != e2 {
			t.Fatalf("P18.2: Create of %q, %d: %d, %d, want %d, %d", name, parts, id, e, id2, e2)
		}
	} else {
		id, e := x.Delete(name)
		if id2, e2 := p.delete(name); id != id2 || e != e2 {
			t.Fatalf("P18.2: Delete of %q: %d, %d, want %d, %d", name, id, e, id2, e2)
		}
	}
	if i := p.place(name); i < 0 {
		findsNot(t, "P18.2", x, name, api.ErrNone)
	} else {
		finds(t, "P18.2", x, name, p.topics[i].id, p.topics[i].parts)
	}
	l := x.List()
	if !slices.IsSortedFunc(l, func(a, b api.Topic) int { return cmp.Compare(a.Name, b.Name) }) || len(l) != len(p.topics) {
		t.Fatalf("P18.2: List: %v, of %v", l, p.topics)
	}
	for _, one := range l {
		if i := p.place(one.Name); i < 0 || p.topics[i].parts != one.Parts {
			t.Fatalf("P18.2: List: %v, of %v", l, p.topics)
		}
	}
}
