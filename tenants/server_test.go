package tenants

import (
	"math"
	"reflect"
	"strings"
	"testing"

	"tenants/api"
	"tenants/client"
)

// opened is a server with so many open contexts, from 0 on.
func opened(t *testing.T, contexts int) *Server {
	t.Helper()
	s := New()
	if s == nil {
		t.Fatal("P6: New() is nil")
	}
	for c := range contexts {
		opens(t, s, c)
	}
	return s
}

func opens(t *testing.T, s *Server, want int) {
	t.Helper()
	if c, e := s.Open(); c != want || e != api.OK {
		t.Fatalf("P6: Open() = %d, %d, want %d, OK", c, e, want)
	}
}

func closes(t *testing.T, s *Server, c int) {
	t.Helper()
	if e := s.Close(c); e != api.OK {
		t.Fatalf("P6: Close(%d) = %d, want OK", c, e)
	}
}

func isFree(t *testing.T, s *Server, want int) {
	t.Helper()
	if n := s.Free(); n != want {
		t.Errorf("P6: Free() = %d, want %d", n, want)
	}
}

func sends(t *testing.T, s *Server, c int, b string) {
	t.Helper()
	if e := s.Send(c, b); e != api.OK {
		t.Errorf("P7: Send(%d, % .20x) = %d, want OK", c, b, e)
	}
}

func tooLong(t *testing.T, s *Server, c int, b string) {
	t.Helper()
	if e := s.Send(c, b); e != api.ErrLong {
		t.Errorf("P7: Send(%d, %d bytes) = %d, want ErrLong", c, len(b), e)
	}
}

func spends(t *testing.T, s *Server, c int, fuel int, want int) {
	t.Helper()
	if n, e := s.Run(c, fuel); n != want || e != api.OK {
		t.Errorf("P8: Run(%d, %d) = %d, %d, want %d, OK", c, fuel, n, e, want)
	}
}

func replies(t *testing.T, s *Server, c int, want string) {
	t.Helper()
	if r, e := s.Replies(c); r != want || e != api.OK {
		t.Errorf("P9: Replies(%d) = % x, %d, want % x, OK", c, r, e, want)
	}
}

// does sends commands and lets the context work at them till they are done.
func does(t *testing.T, s *Server, c int, commands string, cost int, reply string) {
	t.Helper()
	sends(t, s, c, commands)
	spends(t, s, c, api.MaxFuel, cost)
	if r, e := s.Replies(c); r != reply || e != api.OK {
		t.Errorf("P9 to P13: context %d, commands % .20x: replies % x, %d, want % x", c, commands, r, e, reply)
	}
}

func create(handle, width, height int) string {
	return string([]byte{api.Create, byte(handle), byte(width), byte(height)})
}

func drop(handle int) string { return string([]byte{api.Drop, byte(handle)}) }

// refuses asks for all that can be asked of a context.
func refuses(t *testing.T, s *Server, c int, want api.Errno) {
	t.Helper()
	if e := s.Close(c); e != want {
		t.Errorf("P6: Close(%d) = %d, want %d", c, e, want)
	}
	for _, b := range []string{"", "\x00", strings.Repeat("a", api.MaxPending+1)} {
		if e := s.Send(c, b); e != want {
			t.Errorf("P7: Send(%d, %d bytes) = %d, want %d", c, len(b), e, want)
		}
	}
	for _, fuel := range []int{0, 1, api.MaxFuel, -1, api.MaxFuel + 1, math.MinInt, math.MaxInt} {
		if n, e := s.Run(c, fuel); n != 0 || e != want {
			t.Errorf("P8: Run(%d, %d) = %d, %d, want 0, %d", c, fuel, n, e, want)
		}
	}
	if r, e := s.Replies(c); r != "" || e != want {
		t.Errorf("P9: Replies(%d) = %q, %d, want nothing, %d", c, r, e, want)
	}
}

var someNumbers = []int{math.MinInt, -api.Contexts, -1, 0, 1, 7, 8, 9, 256, 1 << 32, math.MaxInt}

func TestNilServer(t *testing.T) {
	var s *Server
	for _, c := range someNumbers {
		refuses(t, s, c, api.ErrServer)
	}
	if c, e := s.Open(); c != 0 || e != api.ErrServer {
		t.Errorf("P6: of nil, Open() = %d, %d, want 0, ErrServer", c, e)
	}
	isFree(t, s, 0)
}

func TestNewServerHasNoContexts(t *testing.T) {
	s := opened(t, 0)
	for _, c := range someNumbers {
		refuses(t, s, c, api.ErrContext)
	}
	isFree(t, s, api.Pages)
	opens(t, s, 0)
}

func TestOnlyOpenContextsAnswer(t *testing.T) {
	s := opened(t, 2)
	for _, c := range someNumbers {
		if c != 0 && c != 1 {
			refuses(t, s, c, api.ErrContext)
		}
	}
	does(t, s, 0, drop(0), 1, "\x02")
	does(t, s, 1, drop(0), 1, "\x02")
}

// TestOpenLowestNumber closes every choice of contexts, and opens them again.
func TestOpenLowestNumber(t *testing.T) {
	for choice := range 1 << api.Contexts {
		s := opened(t, api.Contexts)
		for c := range api.Contexts {
			if choice>>c&1 == 1 {
				closes(t, s, c)
				refuses(t, s, c, api.ErrContext)
			}
		}
		for c := range api.Contexts {
			if choice>>c&1 == 1 {
				opens(t, s, c)
			}
		}
		for range 2 {
			if c, e := s.Open(); c != 0 || e != api.ErrFull {
				t.Fatalf("P6: all are open, and Open() = %d, %d, want 0, ErrFull", c, e)
			}
		}
	}
}

func TestFullServerChangesNothing(t *testing.T) {
	s := opened(t, api.Contexts)
	does(t, s, 0, create(3, 8, 8), 65, "\x00")
	sends(t, s, 0, create(3, 8, 8)+"\x02")
	s.Open()
	spends(t, s, 0, 9, 1)
	replies(t, s, 0, "\x03")
	isFree(t, s, api.Pages-1)
}

func TestCloseTakesAllAway(t *testing.T) {
	s := opened(t, 3)
	does(t, s, 1, create(0, 24, 24)+create(1, 8, 24), 577+193, "\x00\x00")
	does(t, s, 2, create(5, 2, 2), 5, "\x00")
	isFree(t, s, api.Pages-13)
	does(t, s, 1, wipe(0, 7)+program(0, ends(3))+program(3, ""), 577+4+1, zeros(3))
	// A reply waits, a command is paid for in part, and one is not all there.
	sends(t, s, 1, drop(1)+create(1, 8, 8)+"\x01\x02")
	spends(t, s, 1, 41, 41)
	isFree(t, s, api.Pages-10)
	closes(t, s, 1)
	isFree(t, s, api.Pages-1)
	refuses(t, s, 1, api.ErrContext)

	opens(t, s, 1)
	// What can't be asked for is looked at from within.
	if !reflect.DeepEqual(s.contexts[1], &client.Context{}) {
		t.Errorf("P6: a context that was just opened has %+v", s.contexts[1])
	}
	isFree(t, s, api.Pages-1)
	replies(t, s, 1, "")
	spends(t, s, 1, api.MaxFuel, 0)
	sends(t, s, 1, strings.Repeat("\x00", api.MaxPending))
	spends(t, s, 1, api.MaxFuel, api.MaxPending)
	replies(t, s, 1, strings.Repeat("\x01", api.MaxPending))
	does(t, s, 1, drop(0)+drop(1), 2, "\x02\x02")
	does(t, s, 1, create(0, 24, 24)+create(1, 8, 24), 577+193, "\x00\x00")
	holds(t, s, 1, 0, zeros(576))
	// The context beside it was left alone.
	does(t, s, 2, create(5, 2, 2)+drop(5), 2, "\x03\x00")
}

// TestFree takes every size of an object.
func TestFree(t *testing.T) {
	s := opened(t, 2)
	does(t, s, 1, create(0, 5, 13), 66, "\x00")
	for width := 1; width <= api.MaxSide; width++ {
		for height := 1; height <= api.MaxSide; height++ {
			bytes := width * height
			does(t, s, 0, create(0, width, height), 1+bytes, "\x00")
			isFree(t, s, 96-2-int(math.Ceil(float64(bytes)/64)))
			does(t, s, 0, drop(0), 1, "\x00")
			isFree(t, s, 96-2)
		}
	}
}

func TestServersApart(t *testing.T) {
	a := opened(t, 1)
	b := opened(t, 1)
	does(t, a, 0, create(0, 24, 24), 577, "\x00")
	sends(t, a, 0, create(1, 4, 4))
	spends(t, a, 0, 16, 16)
	isFree(t, a, 87)
	isFree(t, b, 96)
	spends(t, b, 0, 16, 0)
	replies(t, b, 0, "")
	does(t, b, 0, create(0, 2, 2), 5, "\x00")
	closes(t, b, 0)
	isFree(t, b, 96)
	spends(t, a, 0, 16, 1)
	replies(t, a, 0, "\x00")
	isFree(t, a, 86)
}
