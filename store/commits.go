package store

import (
	"strconv"

	"flotsam/api"
	"flotsam/offsets"
	"flotsam/plog"
	"flotsam/varint"
)

const (
	room = 1000 // for so many commits
	// mostRoom is what a table may have at most: of commits that could not be synced the log tells nevertheless, so that there may be more than there is room for.
	mostRoom = 10000
)

// nowhere is no offset, but in a record it forgets its key.
const nowhere = -1

// Commit keeps how far a group has read.
func (s *Store) Commit(k offsets.Key, at int, now int) api.Errno {
	if s == nil {
		return api.ErrArg
	}
	if !s.There(k.Part.Topic, k.Part.Index) {
		return api.ErrNone
	}
	r, e := offsets.Entry(s.byID(k), at, now)
	if e != api.OK || at == nowhere {
		return api.ErrArg
	}
	if _, ok := s.commits.Get(k); !ok && len(s.commits.Keys()) >= room {
		return api.ErrFull
	}
	b := api.Batch{Span: 1, Producer: -1, Epoch: -1, Seq: -1, Records: []api.Record{r}}
	if _, e := s.log.Append(b, true); e != api.OK {
		return e
	}
	return s.commits.Commit(k, at)
}

// Commits are all of them.
func (s *Store) Commits() *offsets.Table {
	if s == nil {
		return nil
	}
	keys := s.commits.Keys()
	t, _ := offsets.New(max(room, len(keys)))
	for _, k := range keys {
		at, _ := s.commits.Get(k)
		t.Commit(k, at)
	}
	return t
}

// openCommits opens their log, and takes up what it tells.
func (s *Store) openCommits() api.Errno {
	l, e := plog.Open(s.disk, s.config(commitPrefix))
	if e != api.OK {
		return e
	}
	s.log = l
	s.commits, _ = offsets.New(mostRoom)
	topics := s.topicsByID()
	for _, b := range allOf(l) {
		for _, r := range b.Records {
			// What is no commit's record counts for nothing.
			s.commits.Apply(named(r, topics))
		}
	}
	return api.OK
}

// forget lets all commits of a topic go. They may be those of an earlier one with its name, whose Delete was ended by an error.
func (s *Store) forget(name string) api.Errno {
	s.commits.Drop(name)
	return api.OK
}

// byID is a key with the topic's id in the place of its name: another topic may have that name later.
func (s *Store) byID(k offsets.Key) offsets.Key {
	id, _, _ := s.topics.Find(k.Part.Topic)
	k.Part.Topic = strconv.Itoa(id)
	return k
}

// topicsByID are all that are there, by their ids in decimals.
func (s *Store) topicsByID() map[string]api.Topic {
	topics := map[string]api.Topic{}
	for _, t := range s.topics.List() {
		id, _, _ := s.topics.Find(t.Name)
		topics[strconv.Itoa(id)] = t
	}
	return topics
}

// named is a record of the log as offsets has it, with the topic's name again. Errors are not asked for: without a group, or a topic that is there, it is no commit's record.
func named(r api.Record, topics map[string]api.Topic) api.Record {
	group, at, _ := varint.Take(r.Key, 0, api.MaxText)
	id, at, _ := varint.Take(r.Key, at, api.MaxText)
	r.Key = varint.Text(group) + varint.Text(topics[id].Name) + r.Key[at:]
	return r
}
