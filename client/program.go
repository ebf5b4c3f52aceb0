package client

import (
	"tenants/api"
	"tenants/shader"
)

// program is one that the client has given. The empty code is a program too, so
// that there is one must be said beside it.
type program struct {
	given bool
	code  string
}

// faultOfCode answers ErrCode for a code that is too long as well, where Verify
// has another error.
func faultOfCode(command []byte) api.Errno {
	number := field(command, 1)
	if number >= api.Programs {
		return api.ErrProgram
	}
	code := codeOf(command)
	fault, _ := shader.Verify(code)
	if fault != api.OK {
		return api.ErrCode
	}
	return api.OK
}

// codeOf is the instructions that a Code has, as a copy: the bytes of commands
// are not kept.
func codeOf(command []byte) string {
	if len(command) < codeLength {
		return ""
	}
	return string(command[codeLength:])
}

func (c *Context) code(command []byte) {
	number := field(command, 1)
	if number >= api.Programs {
		return
	}
	code := codeOf(command)
	c.programs[number] = program{given: true, code: code}
}

// programOf is the program of this number; one not given, if there is none.
func (c *Context) programOf(number int) program {
	if number < 0 || number >= api.Programs {
		return program{}
	}
	return c.programs[number]
}
