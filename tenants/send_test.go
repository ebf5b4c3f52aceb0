package tenants

import (
	"strings"
	"testing"

	"tenants/api"
)

func zeros(n int) string { return strings.Repeat("\x00", n) }

func TestSendBounds(t *testing.T) {
	for waiting := range api.MaxPending + 1 {
		s := opened(t, 1)
		sends(t, s, 0, zeros(waiting))
		room := api.MaxPending - waiting
		tooLong(t, s, 0, zeros(room+1))
		sends(t, s, 0, "")
		sends(t, s, 0, zeros(room))
		tooLong(t, s, 0, "\x00")
		sends(t, s, 0, "")
		spends(t, s, 0, api.MaxFuel, api.MaxPending)
		replies(t, s, 0, strings.Repeat("\x01", api.MaxPending))
	}
}

func TestSendLongTexts(t *testing.T) {
	s := opened(t, 1)
	for _, n := range []int{api.MaxPending + 1, 2 * api.MaxPending, 1 << 16, 1 << 24} {
		tooLong(t, s, 0, zeros(n))
	}
	spends(t, s, 0, api.MaxFuel, 0)
	replies(t, s, 0, "")
}

// TestSendTooLongChangesNothing has half a command wait, whose other half does
// not come with what is refused.
func TestSendTooLongChangesNothing(t *testing.T) {
	s := opened(t, 1)
	sends(t, s, 0, "\x01\x00")
	tooLong(t, s, 0, "\x04\x04"+zeros(api.MaxPending))
	spends(t, s, 0, 99, 0)
	sends(t, s, 0, "\x02\x03")
	spends(t, s, 0, 99, 7)
	replies(t, s, 0, "\x00")
	spends(t, s, 0, 99, 0)
}

// TestSendWhileWorking: the bytes of a command wait till it is done.
func TestSendWhileWorking(t *testing.T) {
	s := opened(t, 1)
	sends(t, s, 0, create(0, 4, 4)+zeros(api.MaxPending-4))
	tooLong(t, s, 0, "\x00")
	spends(t, s, 0, 16, 16)
	tooLong(t, s, 0, "\x00")
	spends(t, s, 0, 1, 1)
	tooLong(t, s, 0, zeros(5))
	sends(t, s, 0, zeros(4))
	tooLong(t, s, 0, "\x00")
	spends(t, s, 0, 10, 10)
	tooLong(t, s, 0, zeros(11))
	sends(t, s, 0, zeros(10))
}

// TestSendPieces cuts the same commands at every two places.
func TestSendPieces(t *testing.T) {
	commands := create(0, 3, 2) + "\x00" + drop(1) + create(1, 1, 2) + "\xff" + drop(0) + create(1, 9, 9)
	for i := range len(commands) + 1 {
		for j := i; j <= len(commands); j++ {
			together := opened(t, 1)
			apart := opened(t, 1)
			spent := 0
			for _, piece := range []string{commands[:i], commands[i:j], commands[j:]} {
				sends(t, together, 0, piece)
				sends(t, apart, 0, piece)
				n, _ := apart.Run(0, 100)
				spent += n
			}
			spends(t, together, 0, 100, 7+1+1+3+1+1+1)
			replies(t, together, 0, "\x00\x01\x02\x00\x01\x00\x03")
			replies(t, apart, 0, "\x00\x01\x02\x00\x01\x00\x03")
			if spent != 15 {
				t.Errorf("P7: cut at %d and %d, %d was spent, want 15", i, j, spent)
			}
		}
	}
}

// TestSendOrder: what was sent later waits behind what was sent before.
func TestSendOrder(t *testing.T) {
	s := opened(t, 1)
	for handle := range api.Handles {
		sends(t, s, 0, create(handle, 1, 1+handle%2))
	}
	for handle := range api.Handles {
		spends(t, s, 0, 2+handle%2, 2+handle%2)
		replies(t, s, 0, "\x00")
		isFree(t, s, 95-handle)
	}
	spends(t, s, 0, 9, 0)
}
