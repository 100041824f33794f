package store

import (
	"strconv"
	"strings"

	"flotsam/api"
	"flotsam/topic"
	"flotsam/varint"
)

// The files of what is not in a log.
const (
	metaName = "meta"
	metaWay  = "meta.new"
)

// The beginnings of the names of logs' files.
const (
	commitPrefix = "c"
	partPrefix   = "p"
)

// What stands behind the prefix in the names of a log's files: digits alone behind baseMark, else nothing more.
const (
	baseMark  = "-"
	startMark = ".start"
	newMark   = ".new"
	swapMark  = ".swap"
)

// digits is how many a base has in a file's name.
const digits = 13

// readMeta takes up which topics there are, and the next producer's id.
func (s *Store) readMeta() api.Errno {
	text, e := s.disk.Read(metaName)
	if e == api.ErrNone {
		return api.OK
	}
	if e != api.OK {
		return e
	}
	next, at, e := varint.Get(text, 0)
	if e != api.OK || next < 0 || next > endOfProducers {
		return api.ErrForm
	}
	t, e := topic.Parse(text[at:])
	if e != api.OK {
		return api.ErrForm
	}
	s.next, s.topics = next, t
	return api.OK
}

// writeMeta gives the meta file other bytes, all at once: behind any crash it is as it was, or as it is to be. Not till then do they count.
func (s *Store) writeMeta(next int, t *topic.Table) api.Errno {
	return first(
		func() api.Errno { return s.discard(metaWay) },
		func() api.Errno { return s.disk.Append(metaWay, varint.Put(next)+t.Print()) },
		func() api.Errno { return s.disk.Sync(metaWay) },
		func() api.Errno { return s.disk.Rename(metaWay, metaName) },
		func() api.Errno { s.next, s.topics = next, t; return api.OK },
	)
}

// discard drops a file, if it is there.
func (s *Store) discard(name string) api.Errno {
	e := s.disk.Drop(name)
	if e == api.ErrNone {
		return api.OK
	}
	return e
}

// sweep drops the files of partitions that are not there: a Delete that a crash ended has left them.
func (s *Store) sweep() api.Errno {
	var logs []string
	for _, t := range s.topics.List() {
		id, parts, _ := s.topics.Find(t.Name)
		logs = append(logs, prefixesOf(id, parts)...)
	}
files:
	for _, name := range s.disk.Names() {
		if !strings.HasPrefix(name, partPrefix) {
			continue
		}
		for _, log := range logs {
			if isOf(name, log) {
				continue files
			}
		}
		if e := s.disk.Drop(name); e != api.OK {
			return e
		}
	}
	return api.OK
}

// dropLogs drops those of some files that are of these logs, which are not there any more.
func (s *Store) dropLogs(logs []string, names []string) api.Errno {
	for _, log := range logs {
		delete(s.parts, log)
		for _, name := range names {
			if !isOf(name, log) {
				continue
			}
			if e := s.disk.Drop(name); e != api.OK {
				return e
			}
		}
	}
	return api.OK
}

// isOf tells whether a file's name is one of the log with this prefix.
func isOf(name string, prefix string) bool {
	mark, ok := strings.CutPrefix(name, prefix)
	if !ok {
		return false
	}
	if base, ok := strings.CutPrefix(mark, baseMark); ok {
		return len(base) == digits && strings.Trim(base, "0123456789") == ""
	}
	return mark == startMark || mark == newMark || mark == swapMark
}

// prefixesOf are those of all partitions of a topic, by its id.
func prefixesOf(id int, parts int) []string {
	var l []string
	for index := range parts {
		l = append(l, prefixOf(id, index))
	}
	return l
}

func prefixOf(id int, index int) string {
	return partPrefix + strconv.Itoa(id) + "." + strconv.Itoa(index)
}
