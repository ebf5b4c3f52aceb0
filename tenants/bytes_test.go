package tenants

import (
	"math"
	"strings"
	"testing"

	"tenants/api"
)

func write(handle, at int, bytes string) string {
	return string([]byte{api.Write, byte(handle), byte(at), byte(at >> 8), byte(len(bytes))}) + bytes
}

func read(handle, at, n int) string {
	return string([]byte{api.Read, byte(handle), byte(at), byte(at >> 8), byte(n)})
}

func wipe(handle, value int) string {
	return string([]byte{api.Clear, byte(handle), byte(value)})
}

// places are those around the ends of objects and of the numbers of two bytes.
var places = []int{0, 1, 2, 4, 5, 6, 7, 254, 255, 256, 257, 320, 321, 322, 511, 512, 574, 575, 576, 577, 4095, 32767, 32768, 65279, 65280, 65534, 65535}

// ramp is bytes that differ from their neighbours, and none of which is 0.
func ramp(n, from int) string {
	b := make([]byte, n)
	for k := range b {
		b[k] = byte(1 + (from+7*k)%255)
	}
	return string(b)
}

// written is what an object's bytes become.
func written(had string, at int, bytes string) string {
	if at >= len(had) {
		return had
	}
	become := had[:at] + bytes
	if len(become) >= len(had) {
		return become[:len(had)]
	}
	return become + had[len(become):]
}

// holds asks for all the bytes of an object, and for some behind its end.
func holds(t *testing.T, s *Server, c, handle int, want string) {
	t.Helper()
	want += zeros(3)
	for at := 0; at < len(want); at += 255 {
		part := want[at:min(at+255, len(want))]
		does(t, s, c, read(handle, at, len(part)), 1+len(part), "\x00"+part)
	}
}

func TestBytesExample(t *testing.T) {
	s := opened(t, 1)
	does(t, s, 0, create(0, 2, 2), 5, "\x00")
	sends(t, s, 0, code(t, "03 00 01 00 02 61 62")+code(t, "04 00 00 00 06")+"\x09")
	spends(t, s, 0, 100, 11)
	replies(t, s, 0, code(t, "00 00 00 61 62 00 00 00 01"))
}

// TestWriteEveryPlace writes every number of bytes up to some, around the end of
// a small object.
func TestWriteEveryPlace(t *testing.T) {
	s := opened(t, 1)
	does(t, s, 0, create(5, 3, 2), 7, "\x00")
	had := zeros(6)
	for _, at := range append([]int{3, 8, 9}, places...) {
		for n := range 10 {
			bytes := ramp(n, 31*at+n)
			does(t, s, 0, write(5, at, bytes), 1+n, "\x00")
			had = written(had, at, bytes)
			holds(t, s, 0, 5, had)
		}
	}
}

// TestWriteMost writes into the greatest object.
func TestWriteMost(t *testing.T) {
	s := opened(t, 1)
	does(t, s, 0, create(7, 24, 24), 577, "\x00")
	had := zeros(576)
	for _, at := range places {
		for _, n := range []int{255, 0, 254, 128, 1} {
			bytes := ramp(n, at+3*n)
			does(t, s, 0, write(7, at, bytes), 1+n, "\x00")
			had = written(had, at, bytes)
			holds(t, s, 0, 7, had)
		}
	}
}

// TestReadEveryPlace reads every number of bytes, also far behind the end: what
// lies there does not begin anew.
func TestReadEveryPlace(t *testing.T) {
	s := opened(t, 1)
	for _, o := range []struct{ handle, width, height int }{{0, 24, 24}, {1, 1, 1}, {2, 5, 1}, {3, 3, 2}} {
		bytes := o.width * o.height
		does(t, s, 0, create(o.handle, o.width, o.height), 1+bytes, "\x00")
		had := ramp(bytes, o.handle)
		for at := 0; at < bytes; at += 100 {
			part := had[at:min(at+100, bytes)]
			does(t, s, 0, write(o.handle, at, part), 1+len(part), "\x00")
		}
		all := had + zeros(65536+255)
		for _, at := range places {
			for n := range 256 {
				does(t, s, 0, read(o.handle, at, n), 1+n, "\x00"+all[at:at+n])
			}
		}
		holds(t, s, 0, o.handle, had)
	}
}

// TestLowerByteFirst tells byte 1 from byte 256.
func TestLowerByteFirst(t *testing.T) {
	s := opened(t, 1)
	does(t, s, 0, create(0, 24, 24), 577, "\x00")
	does(t, s, 0, "\x03\x00\x00\x01\x01a"+"\x03\x00\x01\x00\x01b"+"\x03\x00\x3f\x02\x01c", 6, zeros(3))
	does(t, s, 0, "\x04\x00\x01\x00\x01"+"\x04\x00\x00\x01\x01"+"\x04\x00\x3f\x02\x02", 7, "\x00b\x00a\x00c\x00")
	holds(t, s, 0, 0, "\x00b"+zeros(254)+"a"+zeros(318)+"c")
}

func TestClearEveryValue(t *testing.T) {
	s := opened(t, 1)
	does(t, s, 0, create(0, 4, 4)+create(1, 5, 13)+create(2, 4, 4), 17+66+17, zeros(3))
	does(t, s, 0, wipe(0, 200)+wipe(2, 201), 17+17, zeros(2))
	for _, value := range []int{255, 0} {
		does(t, s, 0, wipe(1, value), 66, "\x00")
		holds(t, s, 0, 1, strings.Repeat(string([]byte{byte(value)}), 65))
	}
	for value := range 256 {
		does(t, s, 0, write(1, value%70, ramp(9, value)), 10, "\x00")
		does(t, s, 0, wipe(1, value), 66, "\x00")
		holds(t, s, 0, 1, strings.Repeat(string([]byte{byte(value)}), 65))
	}
	holds(t, s, 0, 0, strings.Repeat("\xc8", 16))
	holds(t, s, 0, 2, strings.Repeat("\xc9", 16))
}

func TestClearEverySize(t *testing.T) {
	s := opened(t, 1)
	for width := 1; width <= api.MaxSide; width++ {
		for height := 1; height <= api.MaxSide; height++ {
			bytes := width * height
			does(t, s, 0, create(0, width, height)+wipe(0, width), 2*(1+bytes), zeros(2))
			holds(t, s, 0, 0, strings.Repeat(string([]byte{byte(width)}), bytes))
			does(t, s, 0, drop(0), 1, "\x00")
		}
	}
}

// TestBytesOfNoObject: a command with an error costs 1 and replies one byte,
// however many bytes it has or asks for, and these are no commands.
func TestBytesOfNoObject(t *testing.T) {
	s := opened(t, 2)
	does(t, s, 0, create(3, 4, 4)+wipe(3, 9), 17+17, zeros(2))
	for handle := range api.Handles {
		does(t, s, 1, create(handle, 1, 1), 2, "\x00")
	}
	for handle := range 256 {
		if handle == 3 {
			continue
		}
		for _, n := range []int{0, 1, 2, 255} {
			for _, at := range []int{0, 15, 16, 65535} {
				does(t, s, 0, write(handle, at, strings.Repeat("\x08", n))+"\x00", 2, "\x02\x01")
				does(t, s, 0, read(handle, at, n)+"\x00", 2, "\x02\x01")
			}
		}
		does(t, s, 0, wipe(handle, 8)+"\x00", 2, "\x02\x01")
		if handle < api.Handles {
			does(t, s, 0, create(handle, 2, 1)+drop(handle)+wipe(handle, 1), 3+1+1, "\x00\x00\x02")
		}
	}
	holds(t, s, 0, 3, strings.Repeat("\x09", 16))
	for handle := range api.Handles {
		holds(t, s, 1, handle, "\x00")
	}
	isFree(t, s, 96-1-8)
}

func TestEveryHandleHasItsBytes(t *testing.T) {
	s := opened(t, api.Contexts)
	for c := range api.Contexts {
		for handle := range api.Handles {
			does(t, s, c, create(handle, 3, 3)+wipe(handle, 1+10*c+handle), 20, zeros(2))
		}
	}
	for c := range api.Contexts {
		for handle := range api.Handles {
			does(t, s, c, write(handle, 8, string([]byte{byte(100 + 10*c + handle)})+ramp(254, 0)), 256, "\x00")
		}
	}
	for c := range api.Contexts {
		for handle := range api.Handles {
			value := string([]byte{byte(1 + 10*c + handle)})
			holds(t, s, c, handle, strings.Repeat(value, 8)+string([]byte{byte(100 + 10*c + handle)}))
		}
	}
}

// TestBytesAreGone: a new object is all 0, in place of one that was dropped, and
// in the context that has the number of one that was closed.
func TestBytesAreGone(t *testing.T) {
	s := opened(t, 2)
	for round := range 20 {
		handle := round % api.Handles
		does(t, s, 0, create(handle, 24, 24)+wipe(handle, 255), 577+577, zeros(2))
		does(t, s, 0, drop(handle)+read(handle, 0, 9), 2, "\x00\x02")
		width := 1 + round
		does(t, s, 0, create(handle, width, 24), 1+24*width, "\x00")
		holds(t, s, 0, handle, zeros(24*width))
		does(t, s, 0, wipe(handle, 7), 1+24*width, "\x00")
		closes(t, s, 0)
		opens(t, s, 0)
		does(t, s, 0, read(handle, 0, 1)+write(handle, 0, "a")+wipe(handle, 1), 3, "\x02\x02\x02")
		does(t, s, 0, create(handle, 24, 24), 577, "\x00")
		holds(t, s, 0, handle, zeros(576))
		does(t, s, 0, drop(handle), 1, "\x00")
		does(t, s, 1, create(0, 24, 20), 481, "\x00")
		holds(t, s, 1, 0, zeros(480))
		does(t, s, 1, drop(0), 1, "\x00")
	}
}

// TestBytesInOrder: each command sees what those ahead of it did.
func TestBytesInOrder(t *testing.T) {
	s := opened(t, 1)
	look := read(0, 0, 4)
	does(t, s, 0, create(0, 2, 2)+look+write(0, 1, "ab")+look+wipe(0, 'z')+look+write(0, 3, "cd")+look+write(0, 0, "")+drop(0)+look,
		5+5+3+5+5+5+3+5+1+1+1, "\x00\x00\x00\x00\x00\x00"+"\x00\x00\x00ab\x00"+"\x00\x00zzzz"+"\x00\x00zzzc"+"\x00\x00\x02")
}

// comesInTwo sends the pieces of a command to context 0: nothing may be spent
// ahead of the last byte.
func comesInTwo(t *testing.T, s *Server, command string, cut int, cost int, reply string) {
	t.Helper()
	does(t, s, 0, command[:cut], 0, "")
	does(t, s, 0, command[cut:], cost, reply)
}

// TestBytesInPieces: nothing is spent on a command ahead of its last byte, not
// even on one that has an error.
func TestBytesInPieces(t *testing.T) {
	long := ramp(255, 5)
	for _, c := range []struct {
		command string
		cost    int
		reply   string
	}{
		{write(0, 1, "abc"), 4, "\x00"},
		{write(0, 0, ""), 1, "\x00"},
		{write(0, 65535, "\x00\x00"), 3, "\x00"},
		{write(0, 0, long), 256, "\x00"},
		{write(1, 0, "abc"), 1, "\x02"},
		{write(255, 0, long), 1, "\x02"},
		{read(0, 1, 3), 4, "\x00\x09\x09\x09"},
		{read(1, 1, 3), 1, "\x02"},
		{wipe(0, 0), 7, "\x00"},
		{wipe(1, 3), 1, "\x02"},
	} {
		for cut := 1; cut < len(c.command); cut++ {
			s := opened(t, 1)
			does(t, s, 0, create(0, 3, 2)+wipe(0, 9), 14, zeros(2))
			comesInTwo(t, s, c.command, cut, c.cost, c.reply)
		}
		s := opened(t, 1)
		does(t, s, 0, create(0, 3, 2)+wipe(0, 9), 14, zeros(2))
		for k := range len(c.command) {
			spends(t, s, 0, api.MaxFuel, 0)
			sends(t, s, 0, c.command[k:k+1])
		}
		does(t, s, 0, "\x00", c.cost+1, c.reply+"\x01")
	}
}

// TestBytesPaidInTwo stops in the middle of a command, at every place.
func TestBytesPaidInTwo(t *testing.T) {
	for _, c := range []struct {
		command string
		cost    int
		reply   string
		become  string
	}{
		{write(0, 2, "abcdef"), 7, "\x00", "\x09\x09ab"},
		{write(0, 65535, "abcdef"), 7, "\x00", "\x09\x09\x09\x09"},
		{read(0, 2, 200), 201, "\x00\x09\x09" + zeros(198), "\x09\x09\x09\x09"},
		{wipe(0, 5), 5, "\x00", "\x05\x05\x05\x05"},
	} {
		for fuel := range c.cost {
			s := opened(t, 1)
			does(t, s, 0, create(0, 4, 1)+wipe(0, 9), 10, zeros(2))
			sends(t, s, 0, c.command)
			spends(t, s, 0, fuel, fuel)
			replies(t, s, 0, "")
			spends(t, s, 0, 0, 0)
			spends(t, s, 0, 1000, c.cost-fuel)
			replies(t, s, 0, c.reply)
			holds(t, s, 0, 0, c.become)
		}
	}
}

// TestReadMakesTooManyReplies: a Read may bring more than MaxReplies, and only
// then is the next command kept back.
func TestReadMakesTooManyReplies(t *testing.T) {
	for _, waiting := range []int{0, 767, 768, 769, 1022, 1023} {
		for _, n := range []int{0, 1, 254, 255} {
			s := opened(t, 1)
			does(t, s, 0, create(0, 3, 1)+wipe(0, 'r'), 8, zeros(2))
			sends(t, s, 0, zeros(waiting))
			spends(t, s, 0, api.MaxFuel, waiting)
			sends(t, s, 0, read(0, 1, n))
			spends(t, s, 0, n, n)
			spends(t, s, 0, api.MaxFuel, 1)
			sends(t, s, 0, write(0, 0, "w"))
			want := strings.Repeat("\x01", waiting) + "\x00" + ("rr" + zeros(253))[:n]
			if len(want) < 1024 {
				spends(t, s, 0, 9, 2)
				replies(t, s, 0, want+"\x00")
			} else {
				spends(t, s, 0, 9, 0)
				replies(t, s, 0, want)
				spends(t, s, 0, 9, 2)
				replies(t, s, 0, "\x00")
			}
			holds(t, s, 0, 0, "wrr")
		}
	}
}

// TestReadNotBegunWhenRepliesWait: with MaxReplies bytes or more nothing is
// spent on a Read either.
func TestReadNotBegunWhenRepliesWait(t *testing.T) {
	s := opened(t, 1)
	does(t, s, 0, create(0, 1, 1)+wipe(0, 'r'), 4, zeros(2))
	sends(t, s, 0, strings.Repeat(read(0, 0, 255), 6))
	spends(t, s, 0, 3*256+7, 3*256+7)
	spends(t, s, 0, api.MaxFuel, 256-7)
	spends(t, s, 0, api.MaxFuel, 0)
	one := "\x00r" + zeros(254)
	replies(t, s, 0, strings.Repeat(one, 4))
	spends(t, s, 0, api.MaxFuel, 512)
	replies(t, s, 0, one+one)
}

// TestReadStays: what was read does not change with what is written later.
func TestReadStays(t *testing.T) {
	s := opened(t, 1)
	sends(t, s, 0, create(0, 2, 1)+write(0, 0, "ab")+read(0, 0, 2)+wipe(0, 'c')+write(0, 0, "d"))
	spends(t, s, 0, api.MaxFuel, 3+3+3+3+2)
	before, _ := s.Replies(0)
	does(t, s, 0, wipe(0, 'e')+drop(0)+create(0, 2, 1), 3+1+3, zeros(3))
	if want := "\x00\x00\x00ab\x00\x00"; before != want {
		t.Errorf("P9: the replies are % x, want % x", before, want)
	}
}

// TestWriteStays: what is sent later changes nothing that was written.
func TestWriteStays(t *testing.T) {
	s := opened(t, 1)
	does(t, s, 0, create(0, 24, 24), 577, "\x00")
	for k := range 50 {
		does(t, s, 0, write(0, 0, ramp(255, k)), 256, "\x00")
		sends(t, s, 0, strings.Repeat("\xff", 1024))
		spends(t, s, 0, api.MaxFuel, 1024)
		replies(t, s, 0, strings.Repeat("\x01", 1024))
		holds(t, s, 0, 0, ramp(255, k)+zeros(321))
	}
}

// TestWriteAtTheLimitOfPending: as many bytes wait as may, and the last Write is
// just there, or lacks one byte.
func TestWriteAtTheLimitOfPending(t *testing.T) {
	s := opened(t, 1)
	does(t, s, 0, create(0, 24, 24), 577, "\x00")
	commands := write(0, 0, ramp(255, 0)) + write(0, 255, ramp(255, 1)) + write(0, 510, ramp(255, 2)) + write(0, 510, ramp(239, 3))
	if len(commands) != api.MaxPending {
		t.Fatalf("%d bytes", len(commands))
	}
	sends(t, s, 0, commands[:1023])
	tooLong(t, s, 0, "ab")
	spends(t, s, 0, api.MaxFuel, 3*256)
	sends(t, s, 0, commands[1023:]+zeros(780))
	tooLong(t, s, 0, "a")
	spends(t, s, 0, 240, 240)
	replies(t, s, 0, zeros(4))
	spends(t, s, 0, api.MaxFuel, 780)
	replies(t, s, 0, strings.Repeat("\x01", 780))
	holds(t, s, 0, 0, ramp(255, 0)+ramp(255, 1)+ramp(239, 3)[:66])
}

// TestBytesWrongCalls: a Run that is refused spends nothing on a Write.
func TestBytesWrongCalls(t *testing.T) {
	s := opened(t, 1)
	does(t, s, 0, create(0, 4, 1), 5, "\x00")
	sends(t, s, 0, write(0, 0, "abcd"))
	spends(t, s, 0, 4, 4)
	for _, fuel := range []int{-1, api.MaxFuel + 1, math.MinInt, math.MaxInt} {
		if n, e := s.Run(0, fuel); n != 0 || e != api.ErrArg {
			t.Errorf("P8: Run(0, %d) = %d, %d, want 0, ErrArg", fuel, n, e)
		}
	}
	replies(t, s, 0, "")
	spends(t, s, 0, 4, 1)
	replies(t, s, 0, "\x00")
	holds(t, s, 0, 0, "abcd")
}
