package tenants

import (
	"strings"
	"testing"

	"tenants/api"
)

// program is a Code; the text must be of whole fours of bytes.
func program(number int, text string) string {
	return string([]byte{api.Code, byte(number), byte(len(text) / 4)}) + text
}

// ends is so many instructions that end.
func ends(n int) string { return strings.Repeat("\x08\x00\x00\x00", n) }

func TestCodeExample(t *testing.T) {
	s := opened(t, 1)
	sends(t, s, 0, code(t, "05 00 01 00 00 07 00"))
	spends(t, s, 0, 100, 2)
	replies(t, s, 0, "\x00")
}

// TestCodeEveryNumber: ErrProgram is named ahead of ErrCode.
func TestCodeEveryNumber(t *testing.T) {
	s := opened(t, 1)
	for number := range 256 {
		if number < api.Programs {
			does(t, s, 0, program(number, ends(2))+"\x00", 3+1, "\x00\x01")
			does(t, s, 0, program(number, "")+"\x00", 1+1, "\x00\x01")
			does(t, s, 0, program(number, "\x09\x00\x00\x00")+"\x00", 1+1, "\x07\x01")
			does(t, s, 0, program(number, ends(33))+"\x00", 1+1, "\x07\x01")
			continue
		}
		for _, text := range []string{ends(2), "", "\x09\x00\x00\x00", ends(33), ends(255)} {
			does(t, s, 0, program(number, text), 1, "\x06")
			does(t, s, 0, "\x00", 1, "\x01")
		}
	}
}

// TestCodeEveryLength: one that is too long is taken whole all the same, and
// its bytes are no commands.
func TestCodeEveryLength(t *testing.T) {
	s := opened(t, 1)
	for n := range 256 {
		if n <= api.MaxCode {
			does(t, s, 0, program(1, ends(n))+"\x00", 1+n+1, "\x00\x01")
		} else {
			does(t, s, 0, program(1, ends(n))+"\x00", 1+1, "\x07\x01")
		}
	}
}

// TestCodeEveryFirstByte has an instruction that may be none stand at each place
// of the greatest program.
func TestCodeEveryFirstByte(t *testing.T) {
	s := opened(t, 1)
	for place := range api.MaxCode {
		for op := range 256 {
			text := ends(place) + string([]byte{byte(op), 255, 32, 255}) + ends(api.MaxCode-1-place)
			if op <= 8 {
				does(t, s, 0, program(3, text), 33, "\x00")
			} else {
				does(t, s, 0, program(3, text), 1, "\x07")
			}
		}
	}
}

// TestCodeEveryJump: to behind the last instruction, and no farther.
func TestCodeEveryJump(t *testing.T) {
	s := opened(t, 1)
	for n := 1; n <= api.MaxCode; n++ {
		for to := range 256 {
			jump := string([]byte{7, 0, byte(to), 0})
			for _, text := range []string{jump + ends(n-1), ends(n-1) + jump} {
				if to <= n {
					does(t, s, 0, program(0, text), 1+n, "\x00")
				} else {
					does(t, s, 0, program(0, text), 1, "\x07")
				}
			}
		}
	}
}

// TestCodeInPieces: nothing is spent ahead of the last byte, not even on a Code
// that has an error that its first bytes tell.
func TestCodeInPieces(t *testing.T) {
	for _, c := range []struct {
		command string
		cost    int
		reply   string
	}{
		{program(0, ""), 1, "\x00"},
		{program(3, "\x00\x00\x07\x00\x08\x00\x00\x00"), 3, "\x00"},
		{program(1, ends(32)), 33, "\x00"},
		{program(1, ends(33)), 1, "\x07"},
		{program(1, ends(255)), 1, "\x07"},
		{program(4, ends(2)), 1, "\x06"},
		{program(255, ""), 1, "\x06"},
		{program(2, "\x09\x00\x00\x00\x09\x00\x00\x00"), 1, "\x07"},
	} {
		for cut := 1; cut < len(c.command); cut++ {
			s := opened(t, 1)
			comesInTwo(t, s, c.command, cut, c.cost, c.reply)
			does(t, s, 0, "\x00", 1, "\x01")
		}
		s := opened(t, 1)
		for k := range len(c.command) {
			spends(t, s, 0, api.MaxFuel, 0)
			sends(t, s, 0, c.command[k:k+1])
		}
		spends(t, s, 0, api.MaxFuel, c.cost)
		replies(t, s, 0, c.reply)
	}
}

func TestCodePaidInTwo(t *testing.T) {
	for _, n := range []int{1, 2, 31, 32} {
		for fuel := range 1 + n {
			s := opened(t, 1)
			sends(t, s, 0, program(2, ends(n))+"\x00")
			spends(t, s, 0, fuel, fuel)
			replies(t, s, 0, "")
			spends(t, s, 0, 0, 0)
			spends(t, s, 0, 1+n-fuel, 1+n-fuel)
			replies(t, s, 0, "\x00")
			spends(t, s, 0, 99, 1)
			replies(t, s, 0, "\x01")
		}
	}
}

// TestCodeAtTheLimitOfPending: the longest Code and one byte more are all that
// may wait.
func TestCodeAtTheLimitOfPending(t *testing.T) {
	s := opened(t, 1)
	sends(t, s, 0, program(0, ends(255))[:1022])
	tooLong(t, s, 0, zeros(3))
	spends(t, s, 0, api.MaxFuel, 0)
	sends(t, s, 0, zeros(2))
	tooLong(t, s, 0, "\x00")
	spends(t, s, 0, api.MaxFuel, 2)
	replies(t, s, 0, "\x07\x01")
	sends(t, s, 0, zeros(1024))
}

// TestCodeWaitsForReplies: as with all commands, nothing is spent on it while
// MaxReplies bytes wait.
func TestCodeWaitsForReplies(t *testing.T) {
	s := opened(t, 1)
	sends(t, s, 0, zeros(1023))
	spends(t, s, 0, api.MaxFuel, 1023)
	sends(t, s, 0, program(0, ends(1))+program(1, ends(2)))
	spends(t, s, 0, api.MaxFuel, 2)
	spends(t, s, 0, api.MaxFuel, 0)
	replies(t, s, 0, strings.Repeat("\x01", 1023)+"\x00")
	spends(t, s, 0, api.MaxFuel, 3)
	replies(t, s, 0, "\x00")
}

// TestCodeAgain: a program may be put in place of one that was, as often as one
// likes, and takes no pages.
func TestCodeAgain(t *testing.T) {
	s := opened(t, 1)
	for round := range 200 {
		n := (7 * round) % 33
		does(t, s, 0, program(round%4, ends(n)), 1+n, "\x00")
		does(t, s, 0, program(round%4, ends(32-n)), 1+32-n, "\x00")
		isFree(t, s, 96)
	}
}
