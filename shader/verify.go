// Package shader checks and runs the little programs that say what a pixel
// becomes.
package shader

import "tenants/api"

// Size is how many bytes an instruction has.
const Size = 4

// The instructions, by their first byte.
const (
	opSet      = 0
	opAdd      = 1
	opSubtract = 2
	opMultiply = 3
	opDivide   = 4
	opBelow    = 5
	opTexture  = 6
	opJump     = 7
	opEnd      = 8
)

type instruction struct {
	op, a, b, c int
}

// Verify tells whether bytes are a program, and if not, the first place where
// they are none (P4).
func Verify(code string) (api.Errno, int) {
	if len(code) > Size*api.MaxCode {
		return api.ErrLong, 0
	}
	whole := len(code) / Size
	for k := 0; k < whole; k++ {
		i := fetch(code, k)
		if !i.valid(whole) {
			return api.ErrCode, k
		}
	}
	if len(code)%Size != 0 {
		return api.ErrCode, whole
	}
	return api.OK, 0
}

// fetch reads instruction k; the caller sees to it that all its bytes are there.
func fetch(code string, k int) instruction {
	at := Size * k
	return instruction{
		op: int(code[at]),
		a:  int(code[at+1]),
		b:  int(code[at+2]),
		c:  int(code[at+3]),
	}
}

// valid allows a jump to just behind the last instruction: the program ends there.
func (i instruction) valid(whole int) bool {
	if i.op == opJump {
		return i.b <= whole
	}
	return i.op <= opEnd
}
