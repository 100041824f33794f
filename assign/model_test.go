package assign_test

import (
	"fmt"
	"math/rand"
	"slices"
	"testing"

	"flotsam/api"
	"flotsam/assign"
)

// takers are the members that want a topic, rising.
func takers(subs []api.Sub, topic string) []int {
	var l []int
	for _, s := range subs {
		if slices.Contains(s.Topics, topic) {
			l = append(l, s.Member)
		}
	}
	return l
}

// ranged tells who has a partition by Range: the k-th taker has what lies behind that of all those ahead.
func ranged(subs []api.Sub, t api.Topic, index int) int {
	l := takers(subs, t.Name)
	end := 0
	for k, m := range l {
		end += t.Parts / len(l)
		if k < t.Parts-t.Parts/len(l)*len(l) {
			end++
		}
		if index < end {
			return m
		}
	}
	return -1
}

// plainRange and plainRound are shares as the words tell them.
func plainRange(subs []api.Sub, l []api.Topic) map[int][]api.Part {
	shares := map[int][]api.Part{}
	for _, t := range l {
		for i := range t.Parts {
			m := ranged(subs, t, i)
			shares[m] = append(shares[m], api.Part{Topic: t.Name, Index: i})
		}
	}
	delete(shares, -1)
	return shares
}

func plainRound(subs []api.Sub, l []api.Topic) map[int][]api.Part {
	shares := map[int][]api.Part{}
	last := -1
	for _, t := range l {
		all := takers(subs, t.Name)
		for i := range t.Parts {
			if len(all) == 0 {
				continue
			}
			to := slices.IndexFunc(all, func(m int) bool { return m > last })
			last = all[max(to, 0)]
			shares[last] = append(shares[last], api.Part{Topic: t.Name, Index: i})
		}
	}
	return shares
}

// agree holds shares against the plain ones, and against what follows of them (P14.4).
func agree(t *testing.T, what string, subs []api.Sub, l []api.Topic, got []api.Share, e api.Errno, want map[int][]api.Part) {
	t.Helper()
	if e != api.OK || len(got) != len(subs) {
		t.Fatalf("%s: of %+v and %+v: %+v, %d", what, subs, l, got, e)
	}
	given := map[api.Part]int{}
	for i, s := range got {
		if s.Member != subs[i].Member || !slices.Equal(s.Parts, want[s.Member]) {
			t.Fatalf("%s: of %+v and %+v: %+v, want %+v", what, subs, l, s, want[s.Member])
		}
		for _, p := range s.Parts {
			given[p]++
			if !slices.Contains(subs[i].Topics, p.Topic) {
				t.Fatalf("P14.4: %s: of %+v and %+v: %d has %+v, and does not want it", what, subs, l, s.Member, p)
			}
		}
	}
	for _, topic := range l {
		n := min(len(takers(subs, topic.Name)), 1)
		for i := range topic.Parts {
			p := api.Part{Topic: topic.Name, Index: i}
			if given[p] != n {
				t.Fatalf("P14.4: %s: of %+v and %+v: %+v was given %d times", what, subs, l, p, given[p])
			}
			delete(given, p)
		}
	}
	if len(given) > 0 {
		t.Fatalf("P14.4: %s: of %+v and %+v: there is no %+v", what, subs, l, given)
	}
}

// even tells that no two takers of a topic differ by more than one.
func even(t *testing.T, subs []api.Sub, l []api.Topic, got []api.Share) {
	t.Helper()
	for _, topic := range l {
		least, most := api.MaxParts, 0
		for i, s := range got {
			if !slices.Contains(subs[i].Topics, topic.Name) {
				continue
			}
			n := 0
			for _, p := range s.Parts {
				if p.Topic == topic.Name {
					n++
				}
			}
			least, most = min(least, n), max(most, n)
		}
		if most > least+1 {
			t.Fatalf("P14.4: Range of %+v and %+v: of %s one has %d, another one %d", subs, l, topic.Name, least, most)
		}
	}
}

func compare(t *testing.T, subs []api.Sub, l []api.Topic) {
	t.Helper()
	got, e := assign.Range(subs, l)
	agree(t, "P14.2: Range", subs, l, got, e, plainRange(subs, l))
	even(t, subs, l, got)
	got, e = assign.Round(subs, l)
	agree(t, "P14.3: Round", subs, l, got, e, plainRound(subs, l))
}

// chosen are those of some names whose bits are set.
func chosen(names []string, bits int) []string {
	var l []string
	for i, name := range names {
		if bits>>i&1 == 1 {
			l = append(l, name)
		}
	}
	return l
}

// TestAllSmall has all that three members may want of two topics, one more that is not there, and all that these may have up to four partitions.
func TestAllSmall(t *testing.T) {
	names := []string{"a", "b", "c"}
	for bits := range 512 {
		subs := []api.Sub{{Member: 2, Topics: chosen(names, bits&7)}, {Member: 3, Topics: chosen(names, bits>>3&7)}, {Member: 9, Topics: chosen(names, bits>>6)}}
		for parts := range 16 {
			compare(t, subs, topics("a b", 1+parts%4, 1+parts/4))
		}
	}
}

func TestModel(t *testing.T) {
	var names []string
	for i := range 25 {
		names = append(names, fmt.Sprintf("t%02d", i))
	}
	for seed := range 2000 {
		r := rand.New(rand.NewSource(int64(seed)))
		var subs []api.Sub
		member := r.Intn(3)
		for range r.Intn(21) {
			subs = append(subs, api.Sub{Member: member, Topics: chosen(names, r.Intn(1<<25)&r.Intn(1<<25))})
			member += 1 + r.Intn(5)
		}
		for i := range subs {
			subs[i].Topics = subs[i].Topics[:min(len(subs[i].Topics), 20)]
		}
		var l []api.Topic
		for _, name := range chosen(names, r.Intn(1<<25)) {
			l = append(l, api.Topic{Name: name, Parts: 1 + r.Intn(16)})
		}
		compare(t, subs, l[:min(len(l), 20)])
	}
}
