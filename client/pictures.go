package client

import "tenants/api"

func (c *Context) faultOfCreate(command []byte) api.Errno {
	handle := field(command, 1)
	width := field(command, 2)
	height := field(command, 3)
	return c.objects.CanCreate(handle, width, height)
}

// faultOfHandle is the error of those commands that only ask for an object.
func (c *Context) faultOfHandle(command []byte) api.Errno {
	handle := field(command, 1)
	if !c.objects.Has(handle) {
		return api.ErrHandle
	}
	return api.OK
}

func (c *Context) create(command []byte) {
	handle := field(command, 1)
	width := field(command, 2)
	height := field(command, 3)
	c.objects.Create(handle, width, height)
}

func (c *Context) drop(command []byte) {
	handle := field(command, 1)
	c.objects.Drop(handle)
}

func (c *Context) write(command []byte) {
	handle := field(command, 1)
	at := wide(command, 2)
	n := field(command, 4)
	for k := 0; k < n; k++ {
		value := field(command, writeLength+k)
		c.objects.Put(handle, at+k, byte(value))
	}
}

// read lays the bytes behind the byte of the reply that says OK.
func (c *Context) read(command []byte) {
	handle := field(command, 1)
	at := wide(command, 2)
	n := field(command, 4)
	for k := 0; k < n; k++ {
		value := c.objects.Byte(handle, at+k)
		c.replies = append(c.replies, value)
	}
}

func (c *Context) clear(command []byte) {
	handle := field(command, 1)
	value := field(command, 2)
	size := c.objects.Size(handle)
	for k := 0; k < size; k++ {
		c.objects.Put(handle, k, byte(value))
	}
}
