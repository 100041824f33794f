package plog

import (
	"strconv"
	"strings"

	"flotsam/api"
	"flotsam/segment"
	"flotsam/varint"
)

// What stands behind the prefix in the names of a log's files.
const (
	baseMark  = "-"
	startMark = ".start"
	newMark   = ".new"
	swapMark  = ".swap"
)

// digits is how many a base has in a file's name.
const digits = 13

// width is how many bytes the file of the start has, and lastStart the greatest number of which Open takes them.
const (
	width     = 8
	lastStart = 1 << 40
)

// readStart takes up where the log begins.
func (l *Log) readStart() api.Errno {
	bytes, e := l.disk.Read(l.Prefix + startMark)
	if e == api.ErrNone {
		return api.OK
	}
	if e != api.OK {
		return e
	}
	at, end, e := varint.Read(bytes, 0, width)
	if e != api.OK || end != len(bytes) || at > lastStart {
		return api.ErrForm
	}
	l.start = at
	return api.OK
}

// sweep drops those of some files that were only on their way.
func (l *Log) sweep(names []string) api.Errno {
	for _, name := range names {
		if name != l.Prefix+newMark && name != l.Prefix+swapMark {
			continue
		}
		if e := l.disk.Drop(name); e != api.OK {
			return e
		}
	}
	return api.OK
}

// load opens those of some files that are segments; as their names rise, so do their bases.
func (l *Log) load(names []string) api.Errno {
	for _, name := range names {
		base, ok := l.baseOf(name)
		if !ok {
			continue
		}
		s, e := segment.Open(l.disk, name, base, l.Every)
		if e != api.OK {
			return e
		}
		if len(l.segments) > 0 && base < l.last().End() {
			return api.ErrForm
		}
		l.segments = append(l.segments, s)
	}
	return api.OK
}

func (l *Log) reachesStart() api.Errno {
	if l.start > l.End() {
		return api.ErrForm
	}
	return api.OK
}

// begin lets the log begin at a place.
func (l *Log) begin(at int) api.Errno {
	// Eight bytes have room for each place, as none is below 0.
	bytes, _ := varint.Fixed(at, width)
	return first(
		// A start that is safe must not stand above an end that is not.
		l.Sync,
		func() api.Errno { return l.replace(l.Prefix+startMark, l.Prefix+newMark, bytes) },
		func() api.Errno { l.start = at; return api.OK },
		l.dropPassed,
	)
}

// dropPassed drops the segments that end where the log begins, or ahead of that, but not the last one.
func (l *Log) dropPassed() api.Errno {
	for len(l.segments) > 1 && l.segments[0].End() <= l.start {
		if e := l.disk.Drop(l.nameOf(l.segments[0].Base())); e != api.OK {
			return e
		}
		l.segments[0] = nil
		l.segments = l.segments[1:]
	}
	return api.OK
}

// replace gives a file other bytes, all at once: behind any crash it is as it was, or as it is to be.
func (l *Log) replace(name string, way string, bytes string) api.Errno {
	return first(
		func() api.Errno { return l.discard(way) },
		func() api.Errno { return l.disk.Append(way, bytes) },
		func() api.Errno { return l.disk.Sync(way) },
		func() api.Errno { return l.disk.Rename(way, name) },
	)
}

// discard drops a file, if it is there.
func (l *Log) discard(name string) api.Errno {
	e := l.disk.Drop(name)
	if e == api.ErrNone {
		return api.OK
	}
	return e
}

// holdEnd makes the last segment's file, if there is none yet and the one ahead is to end sooner: else the log would end there behind a crash.
func (l *Log) holdEnd(i int, end int) api.Errno {
	if i != len(l.segments)-2 || end == l.segments[i].End() {
		return api.OK
	}
	name := l.nameOf(l.last().Base())
	if _, e := l.disk.Read(name); e != api.ErrNone {
		return e
	}
	return l.disk.Append(name, "")
}

// reopen takes a segment up anew.
func (l *Log) reopen(i int) api.Errno {
	base := l.segments[i].Base()
	s, e := segment.Open(l.disk, l.nameOf(base), base, l.Every)
	if e != api.OK {
		return e
	}
	l.segments[i] = s
	return api.OK
}

func (l *Log) nameOf(base int) string {
	s := strconv.Itoa(base)
	return l.Prefix + baseMark + strings.Repeat("0", digits-len(s)) + s
}

// baseOf is the base in a segment's name, and whether the name is one of this log.
func (l *Log) baseOf(name string) (int, bool) {
	s, ok := strings.CutPrefix(name, l.Prefix+baseMark)
	if !ok || len(s) != digits || strings.Trim(s, "0123456789") != "" {
		return 0, false
	}
	base, e := strconv.Atoi(s)
	return base, e == nil
}
