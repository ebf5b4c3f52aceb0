package client

import (
	"strings"
	"testing"

	"tenants/api"
)

// works sends commands and lets the context work at them with this fuel.
func works(t *testing.T, c *Context, commands string, fuel int, spent int, replies string) {
	t.Helper()
	e := c.Send(commands)
	n, f := c.Run(fuel)
	r := c.Replies()
	if e != api.OK || f != api.OK || n != spent || r != replies {
		t.Errorf("commands % .20x: %d, spent %d (%d), replies % x, want %d, % x", commands, e, n, f, r, spent, replies)
	}
}

// has asks for all four programs; "-" is none.
func has(t *testing.T, c *Context, want ...string) {
	t.Helper()
	for number, code := range want {
		p := c.programs[number]
		if p.given != (code != "-") || p.given && p.code != code {
			t.Errorf("P12: program %d is %t, % x, want % x", number, p.given, p.code, code)
		}
	}
}

// look is all the bytes of all objects.
func look(c *Context) string {
	var all []string
	for handle := range api.Handles {
		var bytes []byte
		for k := range c.objects.Size(handle) {
			bytes = append(bytes, c.objects.Byte(handle, k))
		}
		all = append(all, string(bytes))
	}
	return strings.Join(all, "|")
}

const (
	seven = "\x00\x00\x07\x00"
	end   = "\x08\x00\x00\x00"
	all   = "\x9c\xff\x9c\xff\xdc\x05\x9c\xff\x9c\xff\xdc\x05" // corners: covers all pixels
)

func TestProgramsAreKept(t *testing.T) {
	var c Context
	has(t, &c, "-", "-", "-", "-")
	works(t, &c, "\x05\x02\x02"+seven+end, 99, 3, "\x00")
	has(t, &c, "-", "-", seven+end, "-")
	works(t, &c, "\x05\x00\x00", 99, 1, "\x00")
	has(t, &c, "", "-", seven+end, "-")
	works(t, &c, "\x05\x03\x20"+strings.Repeat(seven, 32), 99, 33, "\x00")
	has(t, &c, "", "-", seven+end, strings.Repeat(seven, 32))
	works(t, &c, "\x05\x01\x01"+end, 99, 2, "\x00")
	has(t, &c, "", end, seven+end, strings.Repeat(seven, 32))
}

// TestProgramsInPlaceOfOthers: a longer and a shorter one, and none at all.
func TestProgramsInPlaceOfOthers(t *testing.T) {
	var c Context
	works(t, &c, "\x05\x00\x01"+end+"\x05\x01\x01"+end, 99, 4, "\x00\x00")
	works(t, &c, "\x05\x01\x03"+seven+seven+end, 99, 4, "\x00")
	has(t, &c, end, seven+seven+end, "-", "-")
	works(t, &c, "\x05\x01\x01"+seven, 99, 2, "\x00")
	has(t, &c, end, seven, "-", "-")
	works(t, &c, "\x05\x01\x00", 99, 1, "\x00")
	has(t, &c, end, "", "-", "-")
	works(t, &c, "\x05\x01\x01"+end, 99, 2, "\x00")
	has(t, &c, end, end, "-", "-")
}

func TestProgramsStayWhenThereIsAnError(t *testing.T) {
	var c Context
	works(t, &c, "\x05\x00\x02"+seven+end+"\x05\x03\x00", 99, 4, "\x00\x00")
	works(t, &c, "\x05\x00\x01\x09\x00\x00\x00", 99, 1, "\x07")
	works(t, &c, "\x05\x00\x02"+seven+"\x07\x00\x03\x00", 99, 1, "\x07")
	works(t, &c, "\x05\x00\x21"+strings.Repeat(end, 33), 99, 1, "\x07")
	works(t, &c, "\x05\x01\xff"+strings.Repeat(end, 255), 99, 1, "\x07")
	works(t, &c, "\x05\x04\x01"+end+"\x05\xff\x01"+end+"\x05\x04\x00", 99, 3, "\x06\x06\x06")
	has(t, &c, seven+end, "-", "-", "")
}

// TestProgramsStayAsTheyWere: bytes that are sent later do not change them.
func TestProgramsStayAsTheyWere(t *testing.T) {
	var c Context
	works(t, &c, "\x05\x00\x02"+seven+end, 99, 3, "\x00")
	for range 20 {
		works(t, &c, strings.Repeat("\xff", 1024), 1024, 1024, strings.Repeat("\x01", 1024))
		has(t, &c, seven+end, "-", "-", "-")
	}
}

func TestProgramsOfContextsApart(t *testing.T) {
	var a, b Context
	works(t, &a, "\x05\x00\x01"+end, 99, 2, "\x00")
	works(t, &b, "\x05\x01\x01"+seven, 99, 2, "\x00")
	has(t, &a, end, "-", "-", "-")
	has(t, &b, "-", seven, "-", "-")
}

// TestNothingAheadOfPayment: the effects come all at once, and not before the
// last of the fuel (P8).
func TestNothingAheadOfPayment(t *testing.T) {
	for _, command := range []string{
		"\x01\x01\x02\x02",
		"\x03\x00\x00\x00\x04abcd",
		"\x06\x00\x07",
		"\x05\x00\x03" + end + end + seven,
		"\x05\x02\x02" + seven + end,
		"\x07\x00\x00\x00\x05" + all,
		"\x07\x00\x01\x00\x05" + all,
	} {
		var c Context
		works(t, &c, "\x01\x00\x03\x02\x05\x00\x01"+end+"\x05\x01\x01\x01\x00\x02\x03", 99, 11, "\x00\x00\x00")
		works(t, &c, "\x06\x00\x04", 99, 7, "\x00")
		objects, programs := look(&c), c.programs
		c.Send(command)
		cost := c.cost([]byte(command))
		if cost < 3 {
			t.Errorf("command % x costs %d", command, cost)
		}
		for range cost - 1 {
			works(t, &c, "", 1, 1, "")
			if look(&c) != objects || c.programs != programs {
				t.Errorf("P8: command % x has effects ahead of its payment", command)
			}
		}
		works(t, &c, "", 1, 1, "\x00")
		if look(&c) == objects && c.programs == programs {
			t.Errorf("P8: command % x has no effects", command)
		}
	}
}

// TestErrorsChangeNothing: whatever command has an error leaves all as it is.
func TestErrorsChangeNothing(t *testing.T) {
	var c Context
	works(t, &c, "\x01\x00\x03\x02"+"\x06\x00\x07"+"\x05\x00\x01"+end, 99, 16, "\x00\x00\x00")
	objects, programs := look(&c), c.programs
	works(t, &c, "\x01\x00\x01\x01"+"\x01\x01\x19\x01"+"\x02\x01"+"\x03\x01\x00\x00\x02ab"+"\x04\x08\x00\x00\x09"+"\x06\xff\x01"+"\x05\x04\x00"+"\x05\x00\x01\xff\x00\x00\x00"+"\x00\xff",
		99, 10, "\x03\x04\x02\x02\x02\x02\x06\x07\x01\x01")
	works(t, &c, "\x07\x01\x00\x00\x09"+all+"\x07\x00\x01\x00\x09"+all+"\x07\x00\x00\x01\x09"+all+"\x07\x00\x00\x00\x09"+all[:11]+"\x08",
		99, 4, "\x02\x06\x02\x08")
	if look(&c) != objects || c.programs != programs {
		t.Error("P10 to P13: commands with errors have effects")
	}
}

// TestShortCommands: what is not all there, or no command, is no trouble.
func TestShortCommands(t *testing.T) {
	for op := range 256 {
		for _, b := range []string{"\xff", "\x08", "\x04", "\x00"} {
			waiting := string([]byte{byte(op)}) + strings.Repeat(b, 19)
			for cut := range len(waiting) + 1 {
				bytes := []byte(waiting[:cut])
				if command := first(bytes); len(command) > cut {
					t.Errorf("of % x the first command is % x", bytes, command)
				}
				var bare, c Context
				works(t, &c, "\x01\x00\x03\x02\x05\x00\x01"+end, 99, 9, "\x00\x00")
				for _, context := range []*Context{&bare, &c} {
					context.fault(bytes)
					context.cost(bytes)
					context.do(bytes)
				}
			}
		}
	}
}
