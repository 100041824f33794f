package broker

import (
	"flotsam/api"
	"flotsam/coord"
	"flotsam/match"
	"flotsam/offsets"
	"flotsam/wire"
)

const (
	mostFetched = 30000 // bytes of batches that are fetched at once
	mostBatches = 100   // that are fetched at once
)

// lastTime is the greatest of a commit on the disk.
const lastTime = 1 << 40

// answer is a reply on its way. Its methods do nothing any more behind the first error.
type answer struct {
	wire.Reply
	broker *Broker
	q      wire.Request
	now    int
}

// asked asks whether the request may be.
func (a *answer) asked() *answer {
	_, e := wire.Encode(a.q)
	return a.ended(e)
}

// done does the request.
func (a *answer) done() *answer {
	if a.Error != api.OK {
		return a
	}
	s, c, q := a.broker.store, a.broker.coord, a.q
	switch q.Kind {
	case wire.Create:
		was := s.There(q.Name, 0)
		return a.placed(s.Create(q.Name, q.Count)).renewed(was)
	case wire.Delete:
		return a.placed(s.Delete(q.Name)).forgotten()
	case wire.Describe:
		return a.listed(s.Topics())
	case wire.Produce:
		return a.placed(s.Append(q.Name, q.Index, q.Batch, q.Flag))
	case wire.Fetch:
		return a.found().bounded().read().picked()
	case wire.Seek:
		return a.found().sought()
	case wire.Trim:
		return a.ended(s.Trim(q.Name, q.Index, q.From))
	case wire.Join:
		return a.joined(c.Join(q.Group, q.Member, q.Topics, a.now))
	case wire.Share:
		return a.shared(c.Sync(q.Group, q.Member, q.Generation, s.Topics(), q.Flag, a.now))
	case wire.Beat:
		return a.ended(c.Beat(q.Group, q.Member, q.Generation, a.now))
	case wire.Leave:
		return a.ended(c.Leave(q.Group, q.Member, a.now))
	case wire.Commit:
		return a.found().allowed().stored().committed()
	case wire.Committed:
		return a.known(c.Committed(q.Group, a.part()))
	case wire.Identify:
		return a.placed(s.Identify())
	}
	return a
}

// told is the reply: of an error nothing else.
func (a *answer) told() wire.Reply {
	if a.Error != api.OK {
		return wire.Reply{Error: a.Error}
	}
	return a.Reply
}

// ended, placed, listed, joined, shared and known take in what a call has answered.
func (a *answer) ended(e api.Errno) *answer {
	if a.Error == api.OK {
		a.Error = e
	}
	return a
}

func (a *answer) placed(at int, e api.Errno) *answer {
	a.At = at
	return a.ended(e)
}

func (a *answer) listed(l []api.Topic) *answer {
	a.Topics = l
	return a
}

func (a *answer) joined(j coord.Joined, e api.Errno) *answer {
	a.Member, a.Generation, a.Leader = j.Member, j.Generation, j.Leader
	return a.ended(e)
}

func (a *answer) shared(l []api.Part, e api.Errno) *answer {
	a.Parts = l
	return a.ended(e)
}

func (a *answer) known(at int, ok bool) *answer {
	if !ok {
		at = -1
	}
	return a.placed(at, api.OK)
}

// forgotten lets go how far groups have read of a topic that has gone.
func (a *answer) forgotten() *answer {
	if a.Error == api.OK {
		a.broker.coord.Drop(a.q.Name)
	}
	return a
}

// renewed lets go what is left of an earlier topic, whose Delete was ended by an error; also where the new one is there, though the disk went down behind that.
func (a *answer) renewed(was bool) *answer {
	if !was && a.broker.store.There(a.q.Name, 0) {
		a.broker.coord.Drop(a.q.Name)
	}
	return a
}

// found asks for the partition.
func (a *answer) found() *answer {
	if a.Error == api.OK && !a.broker.store.There(a.q.Name, a.q.Index) {
		a.Error = api.ErrNone
	}
	return a
}

// bounded tells where the partition starts and ends.
func (a *answer) bounded() *answer {
	if a.Error == api.OK {
		a.Start, a.End = a.broker.store.Bounds(a.q.Name, a.q.Index)
	}
	return a
}

// read takes batches out of the partition.
func (a *answer) read() *answer {
	if a.Error != api.OK {
		return a
	}
	l, e := a.broker.store.Read(a.q.Name, a.q.Index, a.q.From, min(a.q.Count, mostFetched))
	a.Batches = l[:min(len(l), mostBatches)]
	return a.ended(e)
}

// picked leaves the batches the records that the filter lets through.
func (a *answer) picked() *answer {
	if a.Error != api.OK {
		return a
	}
	for i, b := range a.Batches {
		// The filter and the records may be: that was asked ahead of this.
		a.Batches[i].Records, _ = match.Pick(a.q.Filter, b.Records)
	}
	return a
}

// sought tells where the first batch begins that has a record of a time, or of a later one.
func (a *answer) sought() *answer {
	if a.Error != api.OK {
		return a
	}
	start, end := a.broker.store.Bounds(a.q.Name, a.q.Index)
	for from := start; from < end; {
		l, e := a.broker.store.Read(a.q.Name, a.q.Index, from, mostFetched)
		if e != api.OK || len(l) == 0 {
			return a.placed(end, e)
		}
		for _, b := range l {
			if reaches(b, a.q.From) {
				return a.placed(max(b.Base, start), api.OK)
			}
			from = b.Base + b.Span
		}
	}
	return a.placed(end, api.OK)
}

// allowed asks whether the group may commit.
func (a *answer) allowed() *answer {
	if a.Error != api.OK {
		return a
	}
	return a.ended(a.broker.coord.May(a.q.Group, a.q.Member, a.q.Generation))
}

// stored puts a commit on the disk, committed lets it count.
func (a *answer) stored() *answer {
	if a.Error != api.OK {
		return a
	}
	k := offsets.Key{Group: a.q.Group, Part: a.part()}
	return a.ended(a.broker.store.Commit(k, a.q.From, min(max(a.now, 0), lastTime)))
}

func (a *answer) committed() *answer {
	if a.Error != api.OK {
		return a
	}
	return a.ended(a.broker.coord.Commit(a.q.Group, a.part(), a.q.From))
}

// part is the partition that the request names.
func (a *answer) part() api.Part { return api.Part{Topic: a.q.Name, Index: a.q.Index} }

// reaches tells whether a batch has a record of a time, or of a later one.
func reaches(b api.Batch, time int) bool {
	for _, r := range b.Records {
		if r.Time >= time {
			return true
		}
	}
	return false
}
