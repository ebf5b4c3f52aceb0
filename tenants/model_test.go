package tenants

import (
	"slices"
	"testing"

	"tenants/api"
)

// tenant is what one context must be like, told as the document tells it: the
// fuel is spent one by one, and nothing is known ahead.
type tenant struct {
	sent    []byte
	paid    int
	replies []byte
	objects map[int]int // bytes, by handle
}

func (m *tenant) pages() int {
	n := 0
	for _, bytes := range m.objects {
		for ; bytes > 0; bytes -= 64 {
			n++
		}
	}
	return n
}

// command is how long the first command is, what it costs, and its error.
func (m *tenant) command() (length int, cost int, e api.Errno) {
	if len(m.sent) == 0 {
		return 1, 0, 0
	}
	switch m.sent[0] {
	case 1:
		if len(m.sent) < 4 {
			return 4, 0, 0
		}
		handle, width, height := int(m.sent[1]), int(m.sent[2]), int(m.sent[3])
		size := width * height
		_, taken := m.objects[handle]
		switch {
		case handle > 7:
			return 4, 1, api.ErrHandle
		case taken:
			return 4, 1, api.ErrTaken
		case size == 0 || max(width, height) > 24:
			return 4, 1, api.ErrSize
		case m.pages()*64+(size+63)/64*64 > 12*64:
			return 4, 1, api.ErrMemory
		}
		return 4, 1 + size, api.OK
	case 2:
		if len(m.sent) < 2 {
			return 2, 0, 0
		}
		if _, there := m.objects[int(m.sent[1])]; !there {
			return 2, 1, api.ErrHandle
		}
		return 2, 1, api.OK
	}
	return 1, 1, api.ErrOp
}

// burn spends one unit of fuel, if there is something to spend it on.
func (m *tenant) burn() bool {
	length, cost, e := m.command()
	if length > len(m.sent) || len(m.replies) >= 1024 {
		return false
	}
	m.paid++
	if m.paid < cost {
		return true
	}
	if e == api.OK {
		handle := int(m.sent[1])
		if m.sent[0] == 1 {
			m.objects[handle] = int(m.sent[2]) * int(m.sent[3])
		} else {
			delete(m.objects, handle)
		}
	}
	m.sent = slices.Delete(m.sent, 0, length)
	m.replies = append(m.replies, byte(e))
	m.paid = 0
	return true
}

// asked is one call for a context, and what was answered.
type asked struct {
	call  string
	text  string
	fuel  int
	spent int
	reply string
	e     api.Errno
}

func (a asked) of(s *Server, c int) asked {
	switch a.call {
	case "Send":
		a.e = s.Send(c, a.text)
	case "Run":
		a.spent, a.e = s.Run(c, a.fuel)
	case "Replies":
		a.reply, a.e = s.Replies(c)
	}
	return a
}

func (a asked) ofModel(m *tenant) asked {
	switch {
	case m == nil:
		a.e = api.ErrContext
	case a.call == "Send" && len(m.sent)+len(a.text) > 1024:
		a.e = api.ErrLong
	case a.call == "Send":
		m.sent = append(m.sent, a.text...)
	case a.call == "Run" && (a.fuel < 0 || a.fuel > 1048576):
		a.e = api.ErrArg
	case a.call == "Run":
		for a.spent < a.fuel && m.burn() {
			a.spent++
		}
	case a.call == "Replies":
		a.reply = string(m.replies)
		m.replies = nil
	}
	return a
}

// anyCommand is most often one that has no error.
func anyCommand(q *sequence) string {
	handle := q.below(9)
	if q.below(12) == 0 {
		handle = q.below(256)
	}
	switch q.below(10) {
	case 0, 1, 2, 3:
		return create(handle, q.below(26), q.below(26))
	case 4, 5:
		return create(handle, 1+q.below(9), 1+q.below(9))
	case 6, 7, 8:
		return drop(handle)
	}
	return string([]byte{byte(8 + q.below(249))})
}

// anyCall cuts commands in pieces, wherever it likes.
func anyCall(q *sequence, unsent *string) asked {
	switch q.below(12) {
	case 0:
		return asked{call: "Replies"}
	case 1, 2, 3, 4:
		fuels := []int{0, 1, q.below(10), q.below(1000), q.below(1000), api.MaxFuel, api.MaxFuel + 1, -1 - q.below(9)}
		return asked{call: "Run", fuel: fuels[q.below(len(fuels))]}
	}
	for len(*unsent) < 2000 {
		*unsent += anyCommand(q)
	}
	most := []int{4, 40, 400, 2000}[q.below(4)]
	return asked{call: "Send", text: (*unsent)[:q.below(most+1)]}
}

// life is a context from Open to Close: what is still to be sent, what it must
// be like, and all that it was asked.
type life struct {
	unsent string
	model  *tenant
	calls  []asked
}

func (l *life) ask(t *testing.T, q *sequence, s *Server, c int) {
	t.Helper()
	call := anyCall(q, &l.unsent)
	got := call.of(s, c)
	want := call.ofModel(l.model)
	if got != want {
		t.Fatalf("P7 to P10: context %d answers %+v, want %+v", c, got, want)
	}
	if l.model == nil {
		l.unsent = ""
	} else if call.call == "Send" && got.e == api.OK {
		l.unsent = l.unsent[len(call.text):]
	}
	l.calls = append(l.calls, got)
}

// again asks all the same of a context with another number, alone in a server:
// it must be answered the same (P2).
func (l *life) again(t *testing.T, number int) {
	t.Helper()
	s := opened(t, number+1)
	for _, call := range l.calls {
		bare := asked{call: call.call, text: call.text, fuel: call.fuel}
		if got := bare.of(s, number); got != call {
			t.Fatalf("P2: context %d, alone, answers %+v, and in company %+v", number, got, call)
		}
	}
}

// TestAnyCalls has contexts come and go and work, in any order.
func TestAnyCalls(t *testing.T) {
	for seed := range 60 {
		q := sequence(seed)
		s := opened(t, 0)
		var lives [api.Contexts]life
		for range 500 {
			c := q.below(api.Contexts)
			switch q.below(20) {
			case 0, 1:
				lowest := slices.IndexFunc(lives[:], func(l life) bool { return l.model == nil })
				got, e := s.Open()
				if lowest < 0 && (got != 0 || e != api.ErrFull) || lowest >= 0 && (got != lowest || e != api.OK) {
					t.Fatalf("P6: Open() = %d, %d, want %d", got, e, lowest)
				}
				if lowest >= 0 {
					lives[lowest] = life{model: &tenant{objects: map[int]int{}}}
				}
			case 2:
				e := s.Close(c)
				if (e == api.OK) != (lives[c].model != nil) {
					t.Fatalf("P6: Close(%d) = %d", c, e)
				}
				if e == api.OK {
					lives[c].again(t, q.below(api.Contexts))
				}
				lives[c] = life{}
			default:
				lives[c].ask(t, &q, s, c)
			}
			free := 96
			for _, l := range lives {
				if l.model != nil {
					free -= l.model.pages()
				}
			}
			isFree(t, s, free)
		}
	}
}
