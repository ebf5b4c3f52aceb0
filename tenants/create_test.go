package tenants

import (
	"testing"

	"tenants/api"
)

// TestCreateEverySize takes every two bytes for width and height.
func TestCreateEverySize(t *testing.T) {
	s := opened(t, 1)
	for width := range 256 {
		for height := range 256 {
			if width >= 1 && width <= 24 && height >= 1 && height <= 24 {
				does(t, s, 0, create(4, width, height), 1+width*height, "\x00")
				does(t, s, 0, drop(4), 1, "\x00")
			} else {
				does(t, s, 0, create(4, width, height), 1, "\x04")
			}
			isFree(t, s, 96)
		}
	}
}

func TestCreateAndDropEveryHandle(t *testing.T) {
	s := opened(t, 1)
	for handle := range 256 {
		does(t, s, 0, drop(handle), 1, "\x02")
		if handle >= api.Handles {
			does(t, s, 0, create(handle, 1, 1), 1, "\x02")
			does(t, s, 0, drop(handle), 1, "\x02")
			continue
		}
		does(t, s, 0, create(handle, 1, 1), 2, "\x00")
		does(t, s, 0, create(handle, 1, 1), 1, "\x03")
		does(t, s, 0, drop(handle), 1, "\x00")
		does(t, s, 0, drop(handle), 1, "\x02")
		does(t, s, 0, create(handle, 1, 2), 3, "\x00")
		isFree(t, s, 95-handle)
	}
	for handle := api.Handles - 1; handle >= 0; handle-- {
		does(t, s, 0, create(handle, 1, 1), 1, "\x03")
		does(t, s, 0, drop(handle), 1, "\x00")
		isFree(t, s, 96-handle)
	}
}

func TestCreateErrorNamedFirst(t *testing.T) {
	s := opened(t, 1)
	does(t, s, 0, create(0, 24, 24)+create(1, 24, 8), 577+193, "\x00\x00")
	for _, c := range []struct {
		command string
		reply   string
	}{
		{create(8, 0, 0), "\x02"},
		{create(8, 24, 24), "\x02"},
		{create(255, 255, 255), "\x02"},
		{create(0, 0, 0), "\x03"},
		{create(0, 25, 1), "\x03"},
		{create(1, 24, 24), "\x03"},
		{create(2, 0, 24), "\x04"},
		{create(2, 24, 0), "\x04"},
		{create(2, 25, 24), "\x04"},
		{create(2, 24, 25), "\x04"},
		{create(2, 255, 255), "\x04"},
		{create(2, 24, 24), "\x05"},
		{create(2, 1, 1), "\x05"},
		{drop(2), "\x02"},
	} {
		does(t, s, 0, c.command, 1, c.reply)
		isFree(t, s, 84)
	}
	// None of these changed anything.
	does(t, s, 0, drop(1)+create(1, 24, 8)+drop(0)+create(0, 24, 24), 1+193+1+577, zeros(4))
}

// TestCreateQuota: what is left of the quota is enough for one more object, or
// it lacks a page.
func TestCreateQuota(t *testing.T) {
	fives := create(0, 13, 5) + create(1, 13, 5) + create(2, 13, 5) + create(3, 13, 5) + create(4, 13, 5)
	threes := create(0, 8, 24) + create(1, 8, 24) + create(2, 8, 24)
	for _, c := range []struct {
		had   string
		pages int
		more  string
		fits  bool
	}{
		{create(0, 24, 24), 9, create(1, 24, 8), true},
		{create(0, 24, 24), 9, create(1, 15, 13), false},
		{create(0, 24, 24), 9, create(1, 24, 9), false},
		{create(0, 16, 24), 6, create(1, 16, 24), true},
		{create(0, 16, 24), 6, create(1, 24, 17), false},
		{fives, 10, create(5, 8, 16), true},
		{fives, 10, create(5, 10, 13), false},
		{fives + create(5, 5, 13), 12, create(6, 1, 1), false},
		{threes + create(3, 8, 16), 11, create(4, 8, 8), true},
		{threes + create(3, 8, 16), 11, create(4, 5, 13), false},
	} {
		s := opened(t, 1)
		for had := c.had; had != ""; had = had[4:] {
			does(t, s, 0, had[:4], 1+int(had[2])*int(had[3]), "\x00")
		}
		isFree(t, s, 96-c.pages)
		if c.fits {
			does(t, s, 0, c.more, 1+int(c.more[2])*int(c.more[3]), "\x00")
			isFree(t, s, 84)
		} else {
			does(t, s, 0, c.more, 1, "\x05")
			isFree(t, s, 96-c.pages)
		}
	}
}

// TestCreateAgain uses numbers and pages that were used before.
func TestCreateAgain(t *testing.T) {
	s := opened(t, 1)
	for range 50 {
		does(t, s, 0, create(2, 24, 24)+create(7, 8, 24)+create(1, 1, 1), 577+193+1, "\x00\x00\x05")
		isFree(t, s, 84)
		does(t, s, 0, drop(2)+create(1, 1, 1)+create(2, 24, 24)+create(2, 16, 16), 1+2+1+257, "\x00\x00\x05\x00")
		isFree(t, s, 88)
		does(t, s, 0, drop(7)+drop(1)+drop(2), 3, zeros(3))
		isFree(t, s, 96)
	}
}

// TestCreateInEveryContext: each may have its quota, whatever the others have.
func TestCreateInEveryContext(t *testing.T) {
	s := opened(t, api.Contexts)
	for c := range api.Contexts {
		does(t, s, c, create(0, 24, 24)+create(1, 24, 8)+create(2, 1, 1), 577+193+1, "\x00\x00\x05")
		isFree(t, s, 96-12*(c+1))
	}
	for c := range api.Contexts {
		closes(t, s, c)
		opens(t, s, c)
		isFree(t, s, 12)
		does(t, s, c, create(3, 24, 24)+create(4, 24, 8)+create(5, 1, 1), 577+193+1, "\x00\x00\x05")
		isFree(t, s, 0)
	}
}

func TestOtherFirstBytes(t *testing.T) {
	s := opened(t, 1)
	for op := range 256 {
		if op >= api.Create && op <= api.Draw {
			continue
		}
		b := string([]byte{byte(op)})
		does(t, s, 0, b, 1, "\x01")
		does(t, s, 0, b+create(0, 1, 1)+b+drop(0)+b+b, 1+2+1+1+1+1, "\x01\x00\x01\x00\x01\x01")
		isFree(t, s, 96)
	}
}
