package client

import "tenants/api"

// How many bytes a command has.
const (
	createLength = 4
	dropLength   = 2
	otherLength  = 1
)

// first is the bytes of the first command; none, if they are not all there.
func first(waiting []byte) []byte {
	if len(waiting) == 0 {
		return nil
	}
	length := lengthOf(waiting[0])
	if length > len(waiting) {
		return nil
	}
	return waiting[:length]
}

// lengthOf is how many bytes a command with this first byte has. Those that are
// not built yet (P11 to P13) count as commands that there are not.
func lengthOf(op byte) int {
	switch op {
	case api.Create:
		return createLength
	case api.Drop:
		return dropLength
	}
	return otherLength
}

// field is byte number k of a command; 0, if it has no such byte.
func field(command []byte, k int) int {
	if k < 0 || k >= len(command) {
		return 0
	}
	return int(command[k])
}

// cost is what a command costs as things are now: all with an error cost 1.
func (c *Context) cost(command []byte) int {
	switch field(command, 0) {
	case api.Create:
		return c.costOfCreate(command)
	}
	return 1
}

// do does a command, and answers its error.
func (c *Context) do(command []byte) api.Errno {
	switch field(command, 0) {
	case api.Create:
		return c.create(command)
	case api.Drop:
		return c.drop(command)
	}
	return api.ErrOp
}

func (c *Context) costOfCreate(command []byte) int {
	handle := field(command, 1)
	width := field(command, 2)
	height := field(command, 3)
	fault := c.objects.CanCreate(handle, width, height)
	if fault != api.OK {
		return 1
	}
	return 1 + width*height
}

func (c *Context) create(command []byte) api.Errno {
	handle := field(command, 1)
	width := field(command, 2)
	height := field(command, 3)
	return c.objects.Create(handle, width, height)
}

func (c *Context) drop(command []byte) api.Errno {
	handle := field(command, 1)
	return c.objects.Drop(handle)
}
