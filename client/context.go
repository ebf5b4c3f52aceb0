// Package client is what one client has of the server: its objects, its
// programs, the commands that wait, and the replies that wait. It knows of no
// other client.
package client

import (
	"tenants/api"
	"tenants/objects"
)

// Context is all that one client has. The zero Context is one just opened.
type Context struct {
	objects  objects.Set
	programs [api.Programs]program
	waiting  []byte // the commands' bytes, those of the one worked at too
	due      int    // what the first command still costs; 0, if it was not begun
	replies  []byte
}

// Pages is how many pages the context's objects take.
func (c *Context) Pages() int {
	return c.objects.Pages()
}

// Send lays bytes of commands behind those that wait (P7).
func (c *Context) Send(b string) api.Errno {
	if len(b) > api.MaxPending-len(c.waiting) {
		return api.ErrLong
	}
	c.waiting = append(c.waiting, b...)
	return api.OK
}

// Run works at the commands and answers how much of the fuel was spent (P8).
func (c *Context) Run(fuel int) (int, api.Errno) {
	if fuel < 0 || fuel > api.MaxFuel {
		return 0, api.ErrArg
	}
	left := fuel
	command := c.next()
	for len(command) > 0 {
		// Till a command is done nothing changes that its cost depends on, so
		// that the cost is asked for once, however many Runs pay for it.
		if c.due == 0 {
			c.due = c.cost(command)
		}
		if c.due > left {
			c.due -= left
			return fuel, api.OK
		}
		left -= c.due
		c.finish(command)
		command = c.next()
	}
	return fuel - left, api.OK
}

// next is the command that may be worked at; none, if there is no such one.
func (c *Context) next() []byte {
	if len(c.replies) >= api.MaxReplies {
		return nil
	}
	return first(c.waiting)
}

// finish does the first command, which has been paid for.
func (c *Context) finish(command []byte) {
	fault := c.fault(command)
	c.replies = append(c.replies, byte(fault))
	if fault == api.OK {
		c.do(command)
	}
	c.waiting = c.waiting[len(command):]
	c.due = 0
}

// Replies takes the replies that wait, the oldest first (P9).
func (c *Context) Replies() string {
	taken := string(c.replies)
	c.replies = nil
	return taken
}
