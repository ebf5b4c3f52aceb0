package client

import (
	"tenants/api"
	"tenants/raster"
	"tenants/shader"
)

// drawing is what a Draw asks for.
type drawing struct {
	handle  int // of the object that is drawn on
	number  int // of the program
	texture int // the handle of the object that the program reads
	colour  int
	shape   api.Triangle
}

func drawingOf(command []byte) drawing {
	handle := field(command, 1)
	number := field(command, 2)
	texture := field(command, 3)
	colour := field(command, 4)
	a := corner(command, 5)
	b := corner(command, 9)
	c := corner(command, 13)
	shape := api.Triangle{A: a, B: b, C: c}
	return drawing{handle: handle, number: number, texture: texture, colour: colour, shape: shape}
}

// corner is the point whose X begins at byte number k of a command.
func corner(command []byte, k int) api.Point {
	x := signed(command, k)
	y := signed(command, k+2)
	return api.Point{X: x, Y: y}
}

func (c *Context) faultOfDraw(command []byte) api.Errno {
	d := drawingOf(command)
	if !c.objects.Has(d.handle) {
		return api.ErrHandle
	}
	p := c.programOf(d.number)
	if !p.given {
		return api.ErrProgram
	}
	if !c.objects.Has(d.texture) {
		return api.ErrHandle
	}
	if !raster.InReach(d.shape) {
		return api.ErrCorner
	}
	return api.OK
}

// drawn is what the bytes of the object become by a Draw, and what the Draw
// costs. It changes nothing: what a Draw costs is seen only by working it out,
// and must be known ahead of its effects.
func (c *Context) drawn(command []byte) ([]byte, int) {
	d := drawingOf(command)
	p := c.programOf(d.number)
	width := c.objects.Width(d.handle)
	picture := []byte(c.objects.Bytes(d.handle))
	other := []byte(c.objects.Bytes(d.texture))
	cost := 1
	for k := 0; k < len(picture) && width > 0; k++ {
		pixel := api.Pixel{X: k % width, Y: k / width, Old: int(picture[k]), Colour: d.colour}
		covered, _ := raster.Cover(d.shape, pixel.X, pixel.Y)
		if !covered {
			continue
		}
		texture := other
		// A program that reads what it draws on sees what is drawn by now.
		if d.texture == d.handle {
			texture = picture
		}
		value, steps := shader.Run(p.code, pixel, texture)
		picture[k] = byte(value)
		cost += 1 + steps
	}
	return picture, cost
}

func (c *Context) draw(command []byte) {
	handle := field(command, 1)
	picture, _ := c.drawn(command)
	for k, value := range picture {
		c.objects.Put(handle, k, value)
	}
}
