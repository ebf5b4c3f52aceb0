package tenants

import (
	"math"
	"strings"
	"testing"

	"tenants/api"
)

func TestRunFuelThatMayNotBe(t *testing.T) {
	s := opened(t, 1)
	sends(t, s, 0, create(0, 3, 3))
	spends(t, s, 0, 4, 4)
	for _, fuel := range []int{math.MinInt, -api.MaxFuel, -1, api.MaxFuel + 1, 1 << 32, math.MaxInt} {
		if n, e := s.Run(0, fuel); n != 0 || e != api.ErrArg {
			t.Errorf("P8: Run(0, %d) = %d, %d, want 0, ErrArg", fuel, n, e)
		}
	}
	replies(t, s, 0, "")
	isFree(t, s, 96)
	spends(t, s, 0, api.MaxFuel, 6)
	replies(t, s, 0, "\x00")
}

func TestRunNothingWaits(t *testing.T) {
	s := opened(t, 1)
	for _, fuel := range []int{0, 1, 1000, api.MaxFuel} {
		spends(t, s, 0, fuel, 0)
	}
	replies(t, s, 0, "")
	// That fuel is lost.
	sends(t, s, 0, create(0, 2, 2))
	spends(t, s, 0, 4, 4)
	replies(t, s, 0, "")
}

// TestRunInTwo stops in the middle of a command, at every place.
func TestRunInTwo(t *testing.T) {
	const cost = 1 + 24*24
	for fuel := range cost {
		s := opened(t, 1)
		sends(t, s, 0, create(0, 24, 24))
		spends(t, s, 0, fuel, fuel)
		isFree(t, s, 96)
		replies(t, s, 0, "")
		spends(t, s, 0, 0, 0)
		replies(t, s, 0, "")
		spends(t, s, 0, 1000, cost-fuel)
		isFree(t, s, 87)
		replies(t, s, 0, "\x00")
	}
}

func TestRunOneByOne(t *testing.T) {
	s := opened(t, 1)
	sends(t, s, 0, create(0, 2, 3)+create(0, 24, 24)+drop(0)+"\x00"+create(0, 1, 1))
	done := []int{7, 8, 9, 10, 12}
	want := "\x00\x03\x00\x01\x00"
	for spent := 1; spent <= 12; spent++ {
		spends(t, s, 0, 1, 1)
		if spent == done[0] {
			replies(t, s, 0, want[:1])
			done = done[1:]
			want = want[1:]
		}
		replies(t, s, 0, "")
	}
	spends(t, s, 0, 1, 0)
}

// TestRunEndsBetweenCommands: what is just enough for some is nothing for the
// next one.
func TestRunEndsBetweenCommands(t *testing.T) {
	s := opened(t, 1)
	sends(t, s, 0, create(0, 2, 2)+create(1, 2, 2)+create(2, 2, 2))
	spends(t, s, 0, 10, 10)
	replies(t, s, 0, "\x00\x00")
	spends(t, s, 0, 4, 4)
	replies(t, s, 0, "")
	spends(t, s, 0, 4, 1)
	replies(t, s, 0, "\x00")
	sends(t, s, 0, create(3, 2, 2))
	spends(t, s, 0, 4, 4)
	replies(t, s, 0, "")
}

// TestRunCommandNotAllThere: nothing is spent on it ahead of its last byte.
func TestRunCommandNotAllThere(t *testing.T) {
	s := opened(t, 1)
	for _, b := range create(0, 5, 5)[:3] {
		sends(t, s, 0, string(b))
		spends(t, s, 0, 1000, 0)
		replies(t, s, 0, "")
		isFree(t, s, 96)
	}
	sends(t, s, 0, "\x05")
	spends(t, s, 0, 1000, 26)
	replies(t, s, 0, "\x00")
	sends(t, s, 0, "\x02")
	spends(t, s, 0, 1000, 0)
	sends(t, s, 0, "\x00\x02")
	spends(t, s, 0, 1000, 1)
	replies(t, s, 0, "\x00")
	sends(t, s, 0, "\x00")
	spends(t, s, 0, 1000, 1)
	replies(t, s, 0, "\x02")
}

// TestRunStopsWhenRepliesWait has every number of replies wait ahead of a
// command that could be done.
func TestRunStopsWhenRepliesWait(t *testing.T) {
	for waiting := range api.MaxReplies + 1 {
		s := opened(t, 1)
		sends(t, s, 0, zeros(waiting))
		spends(t, s, 0, api.MaxFuel, waiting)
		sends(t, s, 0, create(0, 1, 2)+"\x00")
		want := strings.Repeat("\x01", waiting)
		switch {
		case waiting == api.MaxReplies:
			spends(t, s, 0, 2, 0)
			spends(t, s, 0, api.MaxFuel, 0)
			isFree(t, s, 96)
			replies(t, s, 0, want)
			spends(t, s, 0, api.MaxFuel, 4)
			replies(t, s, 0, "\x00\x01")
		case waiting == api.MaxReplies-1:
			spends(t, s, 0, 2, 2)
			spends(t, s, 0, api.MaxFuel, 1)
			spends(t, s, 0, api.MaxFuel, 0)
			replies(t, s, 0, want+"\x00")
			spends(t, s, 0, api.MaxFuel, 1)
			replies(t, s, 0, "\x01")
		default:
			spends(t, s, 0, 2, 2)
			spends(t, s, 0, api.MaxFuel, 2)
			replies(t, s, 0, want+"\x00\x01")
		}
		isFree(t, s, 95)
	}
}

// TestRunManyCommands has as many commands wait as can, and stops in the midst.
func TestRunManyCommands(t *testing.T) {
	s := opened(t, 1)
	pair := create(0, 24, 24) + drop(0)
	pairs := api.MaxPending / len(pair)
	sends(t, s, 0, strings.Repeat(pair, pairs))
	spends(t, s, 0, 578*100+3, 578*100+3)
	replies(t, s, 0, zeros(200))
	spends(t, s, 0, api.MaxFuel, 578*(pairs-100)-3)
	replies(t, s, 0, zeros(2*(pairs-100)))
	spends(t, s, 0, api.MaxFuel, 0)
	isFree(t, s, 96)
}
