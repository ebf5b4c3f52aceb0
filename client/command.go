package client

import (
	"tenants/api"
	"tenants/shader"
)

// How many bytes a command has, without those that it tells the number of.
const (
	createLength = 4
	dropLength   = 2
	writeLength  = 5
	readLength   = 5
	codeLength   = 3
	clearLength  = 3
	drawLength   = 17
	otherLength  = 1
)

// first is the bytes of the first command; none, if they are not all there.
func first(waiting []byte) []byte {
	length := lengthOf(waiting)
	if length > len(waiting) {
		return nil
	}
	return waiting[:length]
}

// lengthOf is how many bytes the first command has. As long as the byte that
// tells how many more there are is missing, it counts as 0: that is enough to
// see that the command is not all there.
func lengthOf(waiting []byte) int {
	switch field(waiting, 0) {
	case api.Create:
		return createLength
	case api.Drop:
		return dropLength
	case api.Write:
		return writeLength + field(waiting, 4)
	case api.Read:
		return readLength
	case api.Code:
		return codeLength + shader.Size*field(waiting, 2)
	case api.Clear:
		return clearLength
	case api.Draw:
		return drawLength
	}
	return otherLength
}

// field is byte number k of a command; 0, if it has no such byte.
func field(command []byte, k int) int {
	if k < 0 || k >= len(command) {
		return 0
	}
	return int(command[k])
}

// wide is the number whose lower byte is byte number k of a command.
func wide(command []byte, k int) int {
	lower := field(command, k)
	upper := field(command, k+1)
	return lower + 256*upper
}

// signed is the same for a number that may be below 0.
func signed(command []byte, k int) int {
	number := wide(command, k)
	if number >= 32768 {
		return number - 65536
	}
	return number
}

// fault is the error that a command has as things are now.
func (c *Context) fault(command []byte) api.Errno {
	switch field(command, 0) {
	case api.Create:
		return c.faultOfCreate(command)
	case api.Drop, api.Write, api.Read, api.Clear:
		return c.faultOfHandle(command)
	case api.Code:
		return faultOfCode(command)
	case api.Draw:
		return c.faultOfDraw(command)
	}
	return api.ErrOp
}

// cost is what a command costs as things are now.
func (c *Context) cost(command []byte) int {
	fault := c.fault(command)
	if fault != api.OK {
		return 1
	}
	switch field(command, 0) {
	case api.Create:
		width := field(command, 2)
		height := field(command, 3)
		return 1 + width*height
	case api.Write, api.Read:
		return 1 + field(command, 4)
	case api.Code:
		return 1 + field(command, 2)
	case api.Clear:
		handle := field(command, 1)
		return 1 + c.objects.Size(handle)
	case api.Draw:
		_, cost := c.drawn(command)
		return cost
	}
	return 1
}

// do does a command that has no error.
func (c *Context) do(command []byte) {
	switch field(command, 0) {
	case api.Create:
		c.create(command)
	case api.Drop:
		c.drop(command)
	case api.Write:
		c.write(command)
	case api.Read:
		c.read(command)
	case api.Code:
		c.code(command)
	case api.Clear:
		c.clear(command)
	case api.Draw:
		c.draw(command)
	}
}
