package state

import (
	"slices"
	"sort"

	"flotsam/api"
	"flotsam/batch"
	"flotsam/idem"
	"flotsam/match"
)

const (
	longestBatch = 50000 // bytes of one that is produced
	mostFetched  = 30000 // bytes of those that are fetched at once
	mostBatches  = 100   // that are fetched at once
)

// partition is one, with those of its batches that end above its start: nothing is asked of the others any more.
type partition struct {
	start   int
	end     int
	batches []held
	sent    *idem.Producers
}

// held is a batch, and how many bytes it has.
type held struct {
	api.Batch
	size int
}

func newPartitions(n int) []*partition {
	var l []*partition
	for range n {
		l = append(l, &partition{sent: idem.New()})
	}
	return l
}

// produce takes a batch in, if it is a new one, and tells its base in any case.
func (p *partition) produce(b api.Batch) (int, api.Errno) {
	b.Base = p.end
	text, e := batch.Encode(b)
	if e != api.OK || len(text) > longestBatch {
		return 0, api.ErrArg
	}
	base, told, e := p.sent.Check(b)
	if e != api.OK || told {
		return base, e
	}
	// The same batch, but of memory of its own: what was handed in is not kept.
	b, _, _ = batch.Decode(text, 0)
	p.batches = append(p.batches, held{Batch: b, size: len(text)})
	p.sent.Note(b)
	p.end = b.Base + b.Span
	return b.Base, api.OK
}

// fetch is of the batches from a place on, as many as have so many bytes, the records that a filter lets through.
func (p *partition) fetch(from int, most int, filter api.Expr) ([]api.Batch, api.Errno) {
	if !p.keeps(from) {
		return nil, api.ErrRange
	}
	var l []api.Batch
	size := 0
	for _, h := range p.batches[p.above(from):] {
		size += h.size
		if len(l) > 0 && (size > min(most, mostFetched) || len(l) == mostBatches) {
			break
		}
		b := h.Batch
		// The filter and the records may be: that was asked ahead of this.
		b.Records, _ = match.Pick(filter, b.Records)
		l = append(l, b)
	}
	return l, api.OK
}

// seek is where the first batch stands that has a record of a time, or of a later one.
func (p *partition) seek(time int) int {
	late := func(r api.Record) bool { return r.Time >= time }
	for _, h := range p.batches {
		if slices.ContainsFunc(h.Records, late) {
			return max(h.Base, p.start)
		}
	}
	return p.end
}

// trim lets the partition start at a place.
func (p *partition) trim(to int) api.Errno {
	if !p.keeps(to) {
		return api.ErrRange
	}
	p.start = to
	p.batches = slices.Delete(p.batches, 0, p.above(to))
	return api.OK
}

// keeps tells whether a place is one from the start to the end.
func (p *partition) keeps(at int) bool { return at >= p.start && at <= p.end }

// above is which of the batches is the first one that ends above a place; how many there are, if none does.
func (p *partition) above(at int) int {
	return sort.Search(len(p.batches), func(i int) bool {
		h := p.batches[i]
		return h.Base+h.Span > at
	})
}
