package shader

import "tenants/api"

const (
	registers = 8
	maxNumber = 65535 // the greatest number in a register
	maxByte   = 255
)

// machine is a program at work.
type machine struct {
	register [registers]int
	next     int // the number of the instruction that is to be done
	ended    bool
}

// Shade runs a program for one pixel (P5).
func Shade(code string, p api.Pixel, texture string) (int, int, api.Errno) {
	fault, _ := Verify(code)
	if fault != api.OK {
		return 0, 0, fault
	}
	if len(texture) > api.MaxSide*api.MaxSide {
		return 0, 0, api.ErrLong
	}
	told := [4]int{p.X, p.Y, p.Old, p.Colour}
	for _, number := range told {
		if number < 0 || number > maxByte {
			return 0, 0, api.ErrArg
		}
	}
	value, steps := Run(code, p, []byte(texture))
	return value, steps, api.OK
}

// Run does the same for what is known to have none of Shade's errors: it checks
// nothing, so that one need not check a program anew for each pixel.
func Run(code string, p api.Pixel, texture []byte) (int, int) {
	m := machine{register: [registers]int{p.X, p.Y, p.Old, p.Colour}}
	whole := len(code) / Size
	steps := 0
	for !m.ended && m.next < whole {
		if steps == api.MaxSteps {
			return api.Stuck, api.MaxSteps
		}
		i := fetch(code, m.next)
		m.do(i, texture)
		steps++
	}
	return m.register[0] % (maxByte + 1), steps
}

// do does one instruction.
func (m *machine) do(i instruction, texture []byte) {
	a := i.a % registers
	b := m.register[i.b%registers]
	c := m.register[i.c%registers]
	m.next++
	switch i.op {
	case opSet:
		m.register[a] = i.b + 256*i.c
	case opAdd:
		m.register[a] = wrap(b + c)
	case opSubtract:
		m.register[a] = wrap(b - c)
	case opMultiply:
		m.register[a] = wrap(b * c)
	case opDivide:
		m.register[a] = quotient(b, c)
	case opBelow:
		m.register[a] = below(b, c)
	case opTexture:
		m.register[a] = byteOf(texture, b)
	case opJump:
		if m.register[a] != 0 {
			m.next = i.b
		}
	case opEnd:
		m.ended = true
	}
}

// wrap masks and does not divide, since a difference may be below 0, where
// Go's remainder is below 0 too.
func wrap(number int) int {
	return number & maxNumber
}

func quotient(b int, c int) int {
	if c == 0 {
		return 0
	}
	return b / c
}

func below(b int, c int) int {
	if b < c {
		return 1
	}
	return 0
}

func byteOf(texture []byte, number int) int {
	if number < 0 || number >= len(texture) {
		return 0
	}
	return int(texture[number])
}
