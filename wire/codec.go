package wire

import (
	"strings"

	"flotsam/api"
	"flotsam/batch"
	"flotsam/expr"
	"flotsam/varint"
)

const (
	leastNumber = -1
	mostNumber  = 1 << 41
	longestName = 100
	mostBatches = 500 // of a reply
	mostParts   = 400 // of a reply
)

// codec goes through the fields of a request or a reply, in the order of their bytes, and is told each by a pointer: it writes what is there, or sets it to what it reads. So what is written and what is read can't differ. Behind the first thing that may not be it does nothing any more.
type codec struct {
	reads bool
	wrong bool
	in    string
	at    int
	out   strings.Builder
}

// write makes the bytes of something, read makes something of bytes; the way through its fields is handed in.
func write[T any](from *T, through func(c *codec, p *T)) (string, api.Errno) {
	var c codec
	through(&c, from)
	if c.wrong {
		return "", api.ErrArg
	}
	return c.out.String(), api.OK
}

func read[T any](s string, through func(c *codec, p *T)) (T, api.Errno) {
	var made, none T
	c := codec{reads: true, in: s}
	c.demand(len(s) <= api.MaxFrame)
	through(&c, &made)
	c.demand(c.at == len(s))
	if c.wrong {
		return none, api.ErrForm
	}
	return made, api.OK
}

func (c *codec) request(q *Request) {
	c.between(&q.Kind, Create, Identify)
	c.name(&q.Name)
	c.number(&q.Index)
	c.number(&q.Count)
	c.number(&q.From)
	c.flag(&q.Flag)
	inner(c, &q.Batch, encodeAny, decodeAny)
	inner(c, &q.Filter, expr.Print, expr.Parse)
	c.name(&q.Group)
	c.number(&q.Member)
	c.number(&q.Generation)
	list(c, &q.Topics, api.MaxTopics, (*codec).name)
}

func (c *codec) reply(r *Reply) {
	e := int(r.Error)
	c.between(&e, int(api.OK), int(api.ErrThere))
	r.Error = api.Errno(e)
	c.number(&r.At)
	c.number(&r.Start)
	c.number(&r.End)
	c.number(&r.Member)
	c.number(&r.Generation)
	c.number(&r.Leader)
	list(c, &r.Batches, mostBatches, (*codec).batch)
	list(c, &r.Topics, api.MaxTopics, (*codec).topic)
	list(c, &r.Parts, mostParts, (*codec).part)
}

func (c *codec) batch(b *api.Batch) { inner(c, b, batch.Encode, decodeBatch) }

func (c *codec) topic(t *api.Topic) {
	c.name(&t.Name)
	c.number(&t.Parts)
}

func (c *codec) part(p *api.Part) {
	c.name(&p.Topic)
	c.number(&p.Index)
}

func (c *codec) number(p *int) { c.between(p, leastNumber, mostNumber) }

func (c *codec) name(p *string) { c.text(p, longestName) }

func (c *codec) flag(p *bool) {
	n := 0
	if *p {
		n = 1
	}
	c.between(&n, 0, 1)
	*p = n == 1
}

// between goes through a number that has to be from least to most.
func (c *codec) between(p *int, least int, most int) {
	if c.wrong {
		return
	}
	if c.reads {
		n, at, e := varint.Get(c.in, c.at)
		c.demand(e == api.OK)
		*p, c.at = n, at
	}
	c.demand(*p >= least && *p <= most)
	if !c.reads {
		c.put(varint.Put(*p))
	}
}

// text goes through a text of at most so many bytes.
func (c *codec) text(p *string, most int) {
	if c.wrong {
		return
	}
	if c.reads {
		s, at, e := varint.Take(c.in, c.at, most)
		c.demand(e == api.OK)
		*p, c.at = s, at
		return
	}
	c.demand(len(*p) <= most)
	// Not of a text that may not be: it may be of any length.
	if !c.wrong {
		c.put(varint.Text(*p))
	}
}

// put writes some bytes more, as long as there are not too many.
func (c *codec) put(s string) {
	c.demand(c.out.Len()+len(s) <= api.MaxFrame)
	if !c.wrong {
		c.out.WriteString(s)
	}
}

// demand says that all is wrong, if something is not as it has to be.
func (c *codec) demand(right bool) { c.wrong = c.wrong || !right }

// list goes through a list of at most so many: how many there are, and each one by the way that is handed in.
func list[T any](c *codec, l *[]T, most int, through func(c *codec, p *T)) {
	n := len(*l)
	c.between(&n, 0, most)
	if c.wrong {
		return
	}
	if c.reads && n > 0 {
		*l = make([]T, n)
	}
	for i := range *l {
		through(c, &(*l)[i])
	}
}

// inner goes through what another layer has bytes of, as a text.
func inner[T any](c *codec, p *T, encode func(T) (string, api.Errno), decode func(string) (T, api.Errno)) {
	if c.wrong {
		return
	}
	var s string
	if !c.reads {
		made, e := encode(*p)
		c.demand(e == api.OK)
		s = made
	}
	c.text(&s, api.MaxFrame)
	if c.reads && !c.wrong {
		made, e := decode(s)
		c.demand(e == api.OK)
		*p = made
	}
}

// encodeAny is also of an empty batch, of which there are no bytes; decodeAny reads what it makes.
func encodeAny(b api.Batch) (string, api.Errno) {
	if empty(b) {
		return "", api.OK
	}
	return batch.Encode(b)
}

func decodeAny(s string) (api.Batch, api.Errno) {
	if s == "" {
		return api.Batch{}, api.OK
	}
	return decodeBatch(s)
}

// decodeBatch reads a batch's bytes, with nothing behind them.
func decodeBatch(s string) (api.Batch, api.Errno) {
	b, end, e := batch.Decode(s, 0)
	if e == api.OK && end < len(s) {
		return api.Batch{}, api.ErrForm
	}
	return b, e
}

func empty(b api.Batch) bool {
	return b.Base == 0 && b.Span == 0 && b.Producer == 0 && b.Epoch == 0 && b.Seq == 0 && len(b.Records) == 0
}
