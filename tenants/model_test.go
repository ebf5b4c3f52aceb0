package tenants

import (
	"encoding/binary"
	"slices"
	"testing"

	"tenants/api"
)

// tenant is what one context must be like, told as the document tells it: the
// fuel is spent one by one.
type tenant struct {
	sent     []byte
	paid     int
	replies  []byte
	objects  map[int]canvas // by handle
	programs map[int]string // by number
	cost     int            // of the command that was begun
	e        api.Errno      // and its error
}

type canvas struct {
	width int
	bytes []byte
}

func newTenant() *tenant {
	return &tenant{objects: map[int]canvas{}, programs: map[int]string{}}
}

func (m *tenant) pages() int {
	n := 0
	for _, o := range m.objects {
		for bytes := len(o.bytes); bytes > 0; bytes -= 64 {
			n++
		}
	}
	return n
}

// length is how many bytes the first command has; more than are there, if that
// can't be told yet.
func (m *tenant) length() int {
	const untold = 9999
	if len(m.sent) == 0 {
		return untold
	}
	switch m.sent[0] {
	case 1:
		return 4
	case 2:
		return 2
	case 3:
		if len(m.sent) < 5 {
			return untold
		}
		return 5 + int(m.sent[4])
	case 4:
		return 5
	case 5:
		if len(m.sent) < 3 {
			return untold
		}
		return 3 + 4*int(m.sent[2])
	case 6:
		return 3
	case 7:
		return 17
	}
	return 1
}

// price is what a command that is all there costs, and its error.
func (m *tenant) price(command []byte) (int, api.Errno) {
	op := command[0]
	if op < 1 || op > 7 {
		return 1, api.ErrOp
	}
	object, there := m.objects[int(command[1])]
	switch {
	case op == 1 && command[1] > 7:
		return 1, api.ErrHandle
	case op == 1 && there:
		return 1, api.ErrTaken
	case op == 1:
		width, height := int(command[2]), int(command[3])
		size := width * height
		if size == 0 || max(width, height) > 24 {
			return 1, api.ErrSize
		}
		if m.pages()*64+(size+63)/64*64 > 12*64 {
			return 1, api.ErrMemory
		}
		return 1 + size, api.OK
	case op == 5 && command[1] > 3:
		return 1, api.ErrProgram
	case op == 5:
		if e, _ := Verify(string(command[3:])); e != api.OK {
			return 1, api.ErrCode
		}
		return 1 + len(command)/4, api.OK
	case !there:
		return 1, api.ErrHandle
	case op == 3 || op == 4:
		return 1 + int(command[4]), api.OK
	case op == 6:
		return 1 + len(object.bytes), api.OK
	case op == 7:
		return m.priceOfDraw(command)
	}
	return 1, api.OK
}

// priceOfDraw draws on a copy; the object is there.
func (m *tenant) priceOfDraw(command []byte) (int, api.Errno) {
	target := m.objects[int(command[1])]
	text, known := m.programs[int(command[2])]
	texture, there := m.objects[int(command[3])]
	switch shape, near := shapeOf(command); {
	case !known:
		return 1, api.ErrProgram
	case !there:
		return 1, api.ErrHandle
	case !near:
		return 1, api.ErrCorner
	default:
		bytes := slices.Clone(target.bytes)
		read := texture.bytes
		if command[1] == command[3] {
			read = bytes
		}
		return paint(bytes, target.width, text, read, int(command[4]), shape), api.OK
	}
}

// shapeOf is the triangle of a Draw, and whether its corners are in reach.
func shapeOf(command []byte) (api.Triangle, bool) {
	var n [6]int
	near := true
	for k := range n {
		n[k] = int(int16(binary.LittleEndian.Uint16(command[5+2*k:])))
		near = near && -2048 <= n[k] && n[k] <= 2047
	}
	return triangle(at(n[0], n[1]), at(n[2], n[3]), at(n[4], n[5])), near
}

// effect is what comes of a command without an error, and what it replies
// behind its first byte.
func (m *tenant) effect(command []byte) (more []byte) {
	handle := int(command[1])
	object := m.objects[handle].bytes
	switch command[0] {
	case 1:
		width, height := int(command[2]), int(command[3])
		m.objects[handle] = canvas{width, make([]byte, width*height)}
	case 2:
		delete(m.objects, handle)
	case 3:
		at := int(command[2]) + int(command[3])*256
		copy(object[min(at, len(object)):], command[5:])
	case 4:
		at := int(command[2]) + int(command[3])*256
		long := append(slices.Clone(object), make([]byte, 70000)...)
		return long[at : at+int(command[4])]
	case 5:
		m.programs[handle] = string(command[3:])
	case 6:
		for k := range object {
			object[k] = command[2]
		}
	case 7:
		shape, _ := shapeOf(command)
		texture := m.objects[int(command[3])].bytes
		paint(object, m.objects[handle].width, m.programs[int(command[2])], texture, int(command[4]), shape)
	}
	return nil
}

// burn spends one unit of fuel, if there is something to spend it on.
func (m *tenant) burn() bool {
	length := m.length()
	if length > len(m.sent) || len(m.replies) >= 1024 {
		return false
	}
	command := m.sent[:length]
	if m.paid == 0 {
		m.cost, m.e = m.price(command)
	}
	m.paid++
	if m.paid < m.cost {
		return true
	}
	m.replies = append(m.replies, byte(m.e))
	if m.e == api.OK {
		m.replies = append(m.replies, m.effect(command)...)
	}
	m.sent = slices.Delete(m.sent, 0, length)
	m.paid = 0
	return true
}

// asked is one call for a context, and what was answered.
type asked struct {
	call  string
	text  string
	fuel  int
	spent int
	reply string
	e     api.Errno
}

func (a asked) of(s *Server, c int) asked {
	switch a.call {
	case "Send":
		a.e = s.Send(c, a.text)
	case "Run":
		a.spent, a.e = s.Run(c, a.fuel)
	case "Replies":
		a.reply, a.e = s.Replies(c)
	}
	return a
}

func (a asked) ofModel(m *tenant) asked {
	switch {
	case m == nil:
		a.e = api.ErrContext
	case a.call == "Send" && len(m.sent)+len(a.text) > 1024:
		a.e = api.ErrLong
	case a.call == "Send":
		m.sent = append(m.sent, a.text...)
	case a.call == "Run" && (a.fuel < 0 || a.fuel > 1048576):
		a.e = api.ErrArg
	case a.call == "Run":
		for a.spent < a.fuel && m.burn() {
			a.spent++
		}
	case a.call == "Replies":
		a.reply = string(m.replies)
		m.replies = nil
	}
	return a
}

// anyBytes is bytes of any kind, often such as commands and instructions have.
func anyBytes(q *sequence, n int) string {
	b := make([]byte, n)
	for k := range b {
		b[k] = byte(q.below(256))
		if q.below(2) == 0 {
			b[k] = byte(q.below(9))
		}
	}
	return string(b)
}

// anyCode is most often a program.
func anyCode(q *sequence) string {
	n := q.below(34)
	if q.below(20) == 0 {
		n = q.below(256)
	}
	text := []byte(anyBytes(q, 4*n))
	for k := 0; k < len(text); k += 4 {
		text[k] = byte(q.below(9))
		if text[k] == 7 {
			text[k+2] = byte(q.below(n + 1))
		}
		if q.below(200) == 0 {
			text[k] = 9
		}
	}
	return string(text)
}

// anyCommand is most often one that has no error.
func anyCommand(q *sequence) string {
	handle := q.below(3)
	if q.below(12) == 0 {
		handle = q.below(256)
	}
	at := q.below(40)
	if q.below(4) == 0 {
		at = places[q.below(len(places))]
	}
	n := []int{q.below(10), q.below(10), q.below(256), 255}[q.below(4)]
	switch q.below(24) {
	case 0, 1:
		return create(handle, q.below(26), q.below(26))
	case 2, 3, 4:
		return create(handle, 1+q.below(9), 1+q.below(9))
	case 5, 6:
		return drop(handle)
	case 7, 8, 9:
		return write(handle, at, anyBytes(q, n))
	case 10, 11, 12, 13:
		return read(handle, at, n)
	case 14:
		return wipe(handle, q.below(256))
	case 15, 16:
		return program(q.below(5), anyCode(q))
	case 17, 18, 19, 20, 21, 22:
		return anyDraw(q, handle)
	}
	return string([]byte{byte(8 + q.below(249))})
}

// anyDraw is most often one with its texture and its corners in reach.
func anyDraw(q *sequence, handle int) string {
	texture := q.below(4)
	if q.below(3) == 0 {
		texture = handle
	}
	shape := anyTriangle(q)
	if q.below(20) == 0 {
		*[]*int{&shape.A.X, &shape.A.Y, &shape.B.X, &shape.B.Y, &shape.C.X, &shape.C.Y}[q.below(6)] = q.below(65536)
	}
	return draw(handle, q.below(4), texture, q.below(256), shape)
}

// anyCall cuts commands in pieces, wherever it likes.
func anyCall(q *sequence, l *life) asked {
	switch q.below(12) {
	case 0:
		return asked{call: "Replies"}
	case 1, 2, 3, 4:
		fuels := []int{0, 1, q.below(10), q.below(1000), q.below(1000), api.MaxFuel, api.MaxFuel + 1, -1 - q.below(9)}
		return asked{call: "Run", fuel: fuels[q.below(len(fuels))]}
	}
	for len(l.unsent) < 2000 {
		if l.mess {
			// Nobody knows what commands these are.
			l.unsent += anyBytes(q, 20)
		} else {
			l.unsent += anyCommand(q)
		}
	}
	most := []int{4, 40, 400, 2000}[q.below(4)]
	return asked{call: "Send", text: l.unsent[:q.below(most+1)]}
}

// life is a context from Open to Close: what is still to be sent, what it must
// be like, and all that it was asked.
type life struct {
	mess   bool
	unsent string
	model  *tenant
	calls  []asked
}

func (l *life) ask(t *testing.T, q *sequence, s *Server, c int) {
	t.Helper()
	call := anyCall(q, l)
	got := call.of(s, c)
	want := call.ofModel(l.model)
	if got != want {
		t.Fatalf("P7 to P13: context %d answers %+v, want %+v", c, got, want)
	}
	if l.model == nil {
		l.unsent = ""
	} else if call.call == "Send" && got.e == api.OK {
		l.unsent = l.unsent[len(call.text):]
	}
	l.calls = append(l.calls, got)
}

// again asks all the same of a context with another number, alone in a server:
// it must be answered the same (P2).
func (l *life) again(t *testing.T, number int) {
	t.Helper()
	s := opened(t, number+1)
	for _, call := range l.calls {
		bare := asked{call: call.call, text: call.text, fuel: call.fuel}
		if got := bare.of(s, number); got != call {
			t.Fatalf("P2: context %d, alone, answers %+v, and in company %+v", number, got, call)
		}
	}
}

// TestAnyCalls has contexts come and go and work, in any order.
func TestAnyCalls(t *testing.T) {
	for seed := range 150 {
		q := sequence(seed)
		s := opened(t, 0)
		var lives [api.Contexts]life
		for range 500 {
			c := q.below(api.Contexts)
			switch q.below(20) {
			case 0, 1:
				lowest := slices.IndexFunc(lives[:], func(l life) bool { return l.model == nil })
				got, e := s.Open()
				if lowest < 0 && (got != 0 || e != api.ErrFull) || lowest >= 0 && (got != lowest || e != api.OK) {
					t.Fatalf("P6: Open() = %d, %d, want %d", got, e, lowest)
				}
				if lowest >= 0 {
					lives[lowest] = life{mess: q.below(4) == 0, model: newTenant()}
				}
			case 2:
				e := s.Close(c)
				if (e == api.OK) != (lives[c].model != nil) {
					t.Fatalf("P6: Close(%d) = %d", c, e)
				}
				if e == api.OK {
					lives[c].again(t, q.below(api.Contexts))
				}
				lives[c] = life{}
			default:
				lives[c].ask(t, &q, s, c)
			}
			free := 96
			for _, l := range lives {
				if l.model != nil {
					free -= l.model.pages()
				}
			}
			isFree(t, s, free)
		}
	}
}
