package tenants

import (
	"encoding/hex"
	"strings"
	"testing"

	"tenants/api"
)

// code: the bytes that are written in hexadecimal, with or without blanks.
func code(t *testing.T, text string) string {
	t.Helper()
	b, err := hex.DecodeString(strings.ReplaceAll(text, " ", ""))
	if err != nil {
		t.Fatalf("%q: %v", text, err)
	}
	return string(b)
}

func verified(t *testing.T, text string, e api.Errno, place int) {
	t.Helper()
	if gotE, got := Verify(text); gotE != e || got != place {
		t.Errorf("P4: Verify(% x) = %d, %d, want %d, %d", text, gotE, got, e, place)
	}
}

func TestVerifyTexts(t *testing.T) {
	for _, c := range []struct {
		text  string
		e     api.Errno
		place int
	}{
		{"", api.OK, 0},
		{"08 00 00 00", api.OK, 0},
		{"08 ff ff ff", api.OK, 0},
		{"00 ff ff ff", api.OK, 0},
		{"09 00 00 00", api.ErrCode, 0},
		{"00 00 07", api.ErrCode, 0},
		{"07 00 02 00 08 00 00 00", api.OK, 0},
		{"07 00 03 00 08 00 00 00", api.ErrCode, 0},
		{"07 00 02 00 08", api.ErrCode, 0},
		{"07 00 01 00 08", api.ErrCode, 1},
		{"07 ff 01 ff", api.OK, 0},
		{"07 00 02 00", api.ErrCode, 0},
		{"08 00 00 00 07 00 03 00", api.ErrCode, 1},
		{"08 00 00 00 09 00 00 00 ff 00 00 00", api.ErrCode, 1},
		{"08 00 00 00 09 00 00 00 00", api.ErrCode, 1},
		{"08 00 00 00 08 00 00 00 09", api.ErrCode, 2},
		{"09", api.ErrCode, 0},
	} {
		verified(t, code(t, c.text), c.e, c.place)
	}
}

func TestVerifyEveryFirstByte(t *testing.T) {
	for o := range 256 {
		e, place := api.ErrCode, 1
		if o <= 8 {
			e, place = api.OK, 0
		}
		verified(t, string([]byte{8, 0, 0, 0, byte(o), 0, 0, 0}), e, place)
	}
}

// A jump may go up to just behind the last whole four, whatever bytes follow.
func TestVerifyEveryJump(t *testing.T) {
	for whole := 1; whole <= api.MaxCode; whole++ {
		for b := range 256 {
			jump := strings.Repeat("\x00", 4*(whole-1)) + string([]byte{7, 0, byte(b), 0})
			e, place := api.OK, 0
			if b > whole {
				e, place = api.ErrCode, whole-1
			}
			verified(t, jump, e, place)
			if whole == api.MaxCode {
				continue
			}
			if b <= whole {
				e, place = api.ErrCode, whole
			}
			verified(t, jump+"\x08\x00\x00", e, place)
		}
	}
}

func TestVerifyEveryLength(t *testing.T) {
	for n := range 300 {
		e, place := api.OK, 0
		if n > 4*api.MaxCode {
			e = api.ErrLong
		} else if n%4 != 0 {
			e, place = api.ErrCode, n/4
		}
		verified(t, strings.Repeat("\x00", n), e, place)
	}
	for _, n := range []int{129, 132, 4096, 1 << 24} {
		if e, place := Verify(strings.Repeat("\xff", n)); e != api.ErrLong || place != 0 {
			t.Errorf("P4: Verify of %d bytes = %d, %d, want ErrLong, 0", n, e, place)
		}
	}
}
