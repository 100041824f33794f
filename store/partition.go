package store

import (
	"flotsam/api"
	"flotsam/batch"
	"flotsam/clean"
	"flotsam/idem"
	"flotsam/plog"
)

// every is how many bytes stand at least from one entry of a log's index to the next one.
const every = 200

// longestBatch is how many bytes one has at most.
const longestBatch = 50000

// partition is one that is opened.
type partition struct {
	log  *plog.Log
	sent *idem.Producers
	// waits tells whether something of the log may still be lost by a crash.
	waits bool
}

// Append puts a batch at a partition's end, unless it was sent before, and tells where it is.
func (s *Store) Append(name string, index int, b api.Batch, sync bool) (int, api.Errno) {
	p, e := s.find(name, index)
	if e != api.OK {
		return 0, e
	}
	return p.append(b, sync)
}

// Read are the batches from an offset on: the first one, and as many more as have room in most bytes.
func (s *Store) Read(name string, index int, from int, most int) ([]api.Batch, api.Errno) {
	p, e := s.find(name, index)
	if e != api.OK {
		return nil, e
	}
	return p.log.Read(from, most)
}

// Trim lets a partition start at a place.
func (s *Store) Trim(name string, index int, to int) api.Errno {
	p, e := s.find(name, index)
	if e != api.OK {
		return e
	}
	return p.trim(to)
}

// Bounds are where a partition starts, and where it ends.
func (s *Store) Bounds(name string, index int) (int, int) {
	p, e := s.find(name, index)
	if e != api.OK {
		return 0, 0
	}
	return p.log.Start(), p.log.End()
}

// Tidy lets a partition's first segments go, till it has most bytes, and cleans the others.
func (s *Store) Tidy(name string, index int, most int, before int) api.Errno {
	p, e := s.find(name, index)
	if e != api.OK {
		return e
	}
	return first(
		func() api.Errno { return p.retain(most) },
		// Where a crash took the record by which another one is old, that one would be needed again.
		p.secure,
		func() api.Errno { return p.clean(before) },
	)
}

// find is a partition. Its log is opened, if it is not yet: a disk that went down has kept Create from it.
func (s *Store) find(name string, index int) (*partition, api.Errno) {
	prefix, e := s.prefix(name, index)
	if e != api.OK {
		return nil, e
	}
	if p, ok := s.parts[prefix]; ok {
		return p, api.OK
	}
	l, e := plog.Open(s.disk, s.config(prefix))
	if e != api.OK {
		return nil, e
	}
	p := &partition{log: l, sent: idem.Rebuild(allOf(l)), waits: true}
	s.parts[prefix] = p
	return p, api.OK
}

// openPartitions opens the logs of all topics, openLogs those of one.
func (s *Store) openPartitions() api.Errno {
	for _, t := range s.topics.List() {
		if e := s.openLogs(t); e != api.OK {
			return e
		}
	}
	return api.OK
}

func (s *Store) openLogs(t api.Topic) api.Errno {
	for index := range t.Parts {
		if _, e := s.find(t.Name, index); e != api.OK {
			return e
		}
	}
	return api.OK
}

func (s *Store) config(prefix string) plog.Config {
	return plog.Config{Prefix: prefix, Limit: s.limit, Every: every}
}

func (p *partition) append(b api.Batch, sync bool) (int, api.Errno) {
	b.Base = p.log.End()
	text, e := batch.Encode(b)
	if e != api.OK || len(text) > longestBatch {
		return 0, api.ErrArg
	}
	base, told, e := p.sent.Check(b)
	switch {
	case e != api.OK:
		return 0, e
	case !told:
		base, e = p.put(b, sync)
	case sync:
		// It may have been put there without: but with an OK to sync it must not be lost.
		e = p.secure()
	}
	if e != api.OK {
		return 0, e
	}
	return base, api.OK
}

// put takes in a new batch, whose Base is the end.
func (p *partition) put(b api.Batch, sync bool) (int, api.Errno) {
	at, e := p.log.Append(b, sync)
	// One that could not be synced is in the log nevertheless.
	if p.log.End() > b.Base {
		p.sent.Note(b)
		p.waits = !sync || e != api.OK
	}
	return at, e
}

// trim lets the log start at a place, which syncs it.
func (p *partition) trim(to int) api.Errno {
	e := p.log.Advance(to)
	p.waits = p.waits && e != api.OK
	return e
}

// retain lets segments go, of which each syncs the log ahead.
func (p *partition) retain(most int) api.Errno {
	n, e := p.log.Retain(most)
	p.waits = p.waits && n == 0
	return e
}

// secure lets nothing wait any more.
func (p *partition) secure() api.Errno {
	if !p.waits {
		return api.OK
	}
	e := p.log.Sync()
	p.waits = e != api.OK
	return e
}

// clean goes through all segments, but the last one.
func (p *partition) clean(before int) api.Errno {
	c, e := clean.New(p.log, before)
	for more := true; more && e == api.OK; {
		more, e = c.Step()
	}
	return e
}

// allOf are the batches of all segments of a log, also those that end ahead of its start.
func allOf(l *plog.Log) []api.Batch {
	var all []api.Batch
	for i := 0; ; i++ {
		b, ok := l.Segment(i)
		if !ok {
			return all
		}
		all = append(all, b...)
	}
}
