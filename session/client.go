package session

import (
	"flotsam/api"
	"flotsam/wire"
)

// longestFrame is how many bytes of an input the first frame has at most, with those of its length.
const longestFrame = 4 + api.MaxFrame

// The stages of a session. Closed is the last one: nothing leads out of it.
const (
	resting = iota
	asked
	done
	closed
)

// client is a session.
type client struct {
	stage int
	input []byte
	// request is there in the stage asked alone, and reply, with its frame, in the stage done.
	request wire.Request
	reply   string
	// closes tells that the session is to be closed behind the reply.
	closes bool
}

func (c *client) feed(bytes string) api.Errno {
	if c.stage == closed {
		return api.ErrDown
	}
	if len(bytes) > mostInput-len(c.input) {
		return api.ErrFull
	}
	c.input = append(c.input, bytes...)
	return api.OK
}

// next is the first frame of the input. More bytes than one may have are not looked at, so that no step copies them all.
func (c *client) next() (string, int, api.Errno) {
	return wire.Next(string(c.input[:min(len(c.input), longestFrame)]))
}

// take goes on with the first frame, and tells whether there was anything to go on with.
func (c *client) take() bool {
	text, n, e := c.next()
	if e == api.ErrCut {
		return false
	}
	if e != api.OK {
		// Where the next frame would begin can't be known any more.
		c.input, c.closes = nil, true
		c.refuse()
		return true
	}
	c.drop(n)
	q, e := wire.Decode(text)
	if e != api.OK {
		c.refuse()
		return true
	}
	c.request, c.stage = q, asked
	return true
}

// drop lets the first bytes of the input go.
func (c *client) drop(n int) {
	c.input = c.input[n:]
	if len(c.input) == 0 {
		// An empty piece would keep all that was ahead of it.
		c.input = nil
	}
}

func (c *client) refuse() { c.finish(wire.Reply{Error: api.ErrForm}) }

// finish makes the reply's bytes at once: whoever did the request may change its lists later.
func (c *client) finish(r wire.Reply) {
	// A reply that may not be has no bytes: its frame is empty then, but it is there.
	text, _ := wire.Answer(r)
	c.reply, _ = wire.Frame(text)
	c.request, c.stage = wire.Request{}, done
}

// send tells the reply, and lets the session rest, or closes it.
func (c *client) send() string {
	reply := c.reply
	c.reply, c.stage = "", resting
	if c.closes {
		c.input, c.stage = nil, closed
	}
	return reply
}

// waits tells whether a step would do anything.
func (c *client) waits() bool {
	switch c.stage {
	case resting:
		_, _, e := c.next()
		return e != api.ErrCut
	case asked, done:
		return true
	}
	return false
}
