package state

import (
	"strings"

	"flotsam/api"
	"flotsam/wire"
)

func (m *Machine) create(q wire.Request, now int) (wire.Reply, api.Errno) {
	id, e := m.topics.Create(q.Name, q.Count)
	if e != api.OK {
		return wire.Reply{}, e
	}
	m.parts[strings.Clone(q.Name)] = newPartitions(q.Count)
	return wire.Reply{At: id}, api.OK
}

func (m *Machine) delete(q wire.Request, now int) (wire.Reply, api.Errno) {
	id, e := m.topics.Delete(q.Name)
	if e != api.OK {
		return wire.Reply{}, e
	}
	delete(m.parts, q.Name)
	m.coord.Drop(q.Name)
	return wire.Reply{At: id}, api.OK
}

func (m *Machine) describe(q wire.Request, now int) (wire.Reply, api.Errno) {
	return wire.Reply{Topics: m.topics.List()}, api.OK
}

func (m *Machine) identify(q wire.Request, now int) (wire.Reply, api.Errno) {
	if m.next >= endOfProducers {
		return wire.Reply{}, api.ErrFull
	}
	id := m.next
	m.next++
	return wire.Reply{At: id}, api.OK
}

func (m *Machine) produce(q wire.Request, now int) (wire.Reply, api.Errno) {
	p, e := m.find(q.Name, q.Index)
	if e != api.OK {
		return wire.Reply{}, e
	}
	base, e := p.produce(q.Batch)
	return wire.Reply{At: base}, e
}

func (m *Machine) fetch(q wire.Request, now int) (wire.Reply, api.Errno) {
	p, e := m.find(q.Name, q.Index)
	if e != api.OK {
		return wire.Reply{}, e
	}
	l, e := p.fetch(q.From, q.Count, q.Filter)
	return wire.Reply{Start: p.start, End: p.end, Batches: l}, e
}

func (m *Machine) seek(q wire.Request, now int) (wire.Reply, api.Errno) {
	p, e := m.find(q.Name, q.Index)
	if e != api.OK {
		return wire.Reply{}, e
	}
	return wire.Reply{At: p.seek(q.From)}, api.OK
}

func (m *Machine) trim(q wire.Request, now int) (wire.Reply, api.Errno) {
	p, e := m.find(q.Name, q.Index)
	if e != api.OK {
		return wire.Reply{}, e
	}
	return wire.Reply{}, p.trim(q.From)
}

func (m *Machine) join(q wire.Request, now int) (wire.Reply, api.Errno) {
	j, e := m.coord.Join(q.Group, q.Member, q.Topics, now)
	return wire.Reply{Member: j.Member, Generation: j.Generation, Leader: j.Leader}, e
}

func (m *Machine) share(q wire.Request, now int) (wire.Reply, api.Errno) {
	parts, e := m.coord.Sync(q.Group, q.Member, q.Generation, m.topics.List(), q.Flag, now)
	return wire.Reply{Parts: parts}, e
}

func (m *Machine) beat(q wire.Request, now int) (wire.Reply, api.Errno) {
	return wire.Reply{}, m.coord.Beat(q.Group, q.Member, q.Generation, now)
}

func (m *Machine) leave(q wire.Request, now int) (wire.Reply, api.Errno) {
	return wire.Reply{}, m.coord.Leave(q.Group, q.Member, now)
}

func (m *Machine) commit(q wire.Request, now int) (wire.Reply, api.Errno) {
	if _, e := m.find(q.Name, q.Index); e != api.OK {
		return wire.Reply{}, e
	}
	if e := m.coord.May(q.Group, q.Member, q.Generation); e != api.OK {
		return wire.Reply{}, e
	}
	return wire.Reply{}, m.coord.Commit(q.Group, partOf(q), q.From)
}

func (m *Machine) committed(q wire.Request, now int) (wire.Reply, api.Errno) {
	at, ok := m.coord.Committed(q.Group, partOf(q))
	if !ok {
		at = -1
	}
	return wire.Reply{At: at}, api.OK
}

// partOf is the partition that a request names.
func partOf(q wire.Request) api.Part { return api.Part{Topic: q.Name, Index: q.Index} }
