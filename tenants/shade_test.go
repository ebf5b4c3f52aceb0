package tenants

import (
	"math"
	"strings"
	"testing"

	"tenants/api"
)

type shading struct {
	text    string
	p       api.Pixel
	texture string
	value   int
	steps   int
}

func shaded(t *testing.T, c shading) {
	t.Helper()
	value, steps, e := Shade(code(t, c.text), c.p, c.texture)
	if value != c.value || steps != c.steps || e != api.OK {
		t.Errorf("P5: Shade(%s, %v, %.20q) = %d, %d, %d, want %d, %d, OK", c.text, c.p, c.texture, value, steps, e, c.value, c.steps)
	}
}

func TestShadeInstructions(t *testing.T) {
	for _, c := range []shading{
		{"", api.Pixel{X: 5}, "", 5, 0},
		{"00 00 07 00 08 00 00 00", api.Pixel{}, "", 7, 2},
		{"00 00 34 12", api.Pixel{X: 9}, "", 0x34, 1},
		{"00 00 34 12 00 01 00 01 04 00 00 01", api.Pixel{}, "", 0x12, 3},
		// Sums, differences and products wrap at 65536, and not at 256.
		{"01 00 00 03", api.Pixel{X: 5, Colour: 253}, "", 2, 1},
		{"01 00 00 03 00 01 00 01 04 00 00 01", api.Pixel{X: 5, Colour: 253}, "", 1, 3},
		{"00 04 ff ff 01 00 04 03", api.Pixel{Colour: 1}, "", 0, 2},
		{"00 04 ff ff 01 00 04 03 00 01 00 01 04 00 00 01", api.Pixel{Colour: 1}, "", 0, 4},
		{"02 00 00 01", api.Pixel{X: 9, Y: 5}, "", 4, 1},
		{"02 00 00 01", api.Pixel{X: 3, Y: 5}, "", 254, 1},
		{"02 00 00 01 00 01 00 01 04 00 00 01", api.Pixel{X: 3, Y: 5}, "", 255, 3},
		{"03 00 00 01", api.Pixel{X: 200, Y: 3}, "", 88, 1},
		{"00 04 ff ff 03 00 04 04", api.Pixel{}, "", 1, 2},
		{"00 04 ff ff 03 00 04 04 00 01 00 01 04 00 00 01", api.Pixel{}, "", 0, 4},
		{"03 00 00 01 00 01 00 01 04 00 00 01", api.Pixel{X: 255, Y: 255}, "", 254, 3},
		{"04 00 00 01", api.Pixel{X: 200, Y: 3}, "", 66, 1},
		{"04 00 00 01", api.Pixel{X: 2, Y: 3}, "", 0, 1},
		{"04 00 00 01", api.Pixel{X: 200}, "", 0, 1},
		{"05 00 00 01", api.Pixel{X: 4, Y: 5}, "", 1, 1},
		{"05 00 00 01", api.Pixel{X: 5, Y: 5}, "", 0, 1},
		{"05 00 00 01", api.Pixel{X: 6, Y: 5}, "", 0, 1},
		{"00 04 ff ff 05 00 04 01", api.Pixel{X: 9, Y: 5}, "", 0, 2},
		{"06 00 01 00", api.Pixel{Y: 2}, "abc", 99, 1},
		{"06 00 01 00", api.Pixel{X: 9, Y: 3}, "abc", 0, 1},
		{"06 00 01 00", api.Pixel{X: 9}, "", 0, 1},
		{"06 00 01 00", api.Pixel{}, "\xff", 255, 1},
		{"00 04 3f 02 06 00 04 00", api.Pixel{}, strings.Repeat("a", 575) + "z", 'z', 2},
		{"00 04 40 02 06 00 04 00", api.Pixel{X: 1}, strings.Repeat("a", 576), 0, 2},
		{"00 04 ff ff 06 00 04 00", api.Pixel{X: 1}, strings.Repeat("a", 576), 0, 2},
		{"07 00 02 00 00 00 4d 00", api.Pixel{X: 6}, "", 6, 1},
		{"07 01 02 00 00 00 4d 00", api.Pixel{X: 6}, "", 77, 2},
		{"00 04 00 01 07 04 03 00 00 00 4d 00", api.Pixel{X: 6}, "", 6, 2},
		{"07 00 01 00", api.Pixel{X: 6}, "", 6, 1},
		{"08 00 00 00 00 00 4d 00", api.Pixel{X: 6}, "", 6, 1},
	} {
		shaded(t, c)
	}
}

func TestShadeRegistersAtTheBeginning(t *testing.T) {
	p := api.Pixel{X: 1, Y: 255, Old: 77, Colour: 200}
	begin := [8]int{1, 255, 77, 200}
	for b := range 256 {
		// Registers are counted modulo 8, in all three places.
		for _, a := range []byte{0, 8, 248} {
			text := string([]byte{1, a, byte(b), byte(255 - b)})
			want := (begin[b%8] + begin[(255-b)%8]) % 256
			if value, steps, e := Shade(text, p, ""); value != want || steps != 1 || e != api.OK {
				t.Errorf("P5: Shade(% x, %v) = %d, %d, %d, want %d, 1, OK", text, p, value, steps, e, want)
			}
		}
	}
}

func TestShadeSteps(t *testing.T) {
	// Y rounds of 21 instructions, in each of which X grows by 17: register 4
	// counts the rounds, register 5 tells whether another one follows.
	times := "00 06 01 00 01 04 04 06 05 05 04 01" + strings.Repeat("01 00 00 06", 17) + "07 05 00 00"
	nop := "00 07 00 00"
	for _, c := range []shading{
		{times, api.Pixel{Y: 1}, "", 17, 21},
		{times, api.Pixel{Y: 3}, "", 51, 63},
		{times + nop, api.Pixel{Y: 3}, "", 51, 64},
		{times + "08 00 00 00", api.Pixel{Y: 3}, "", 51, 64},
		{times + "07 00 16 00", api.Pixel{Y: 3}, "", 51, 64},
		{times + nop + nop, api.Pixel{Y: 3}, "", api.Stuck, 64},
		{times + nop + "08 00 00 00", api.Pixel{Y: 3}, "", api.Stuck, 64},
		{times + "07 00 00 00", api.Pixel{Y: 3}, "", api.Stuck, 64},
		{times + "07 00 17 00" + nop, api.Pixel{Y: 3}, "", 51, 64},
		{times, api.Pixel{Y: 4}, "", api.Stuck, 64},
		{"00 01 01 00 07 01 00 00", api.Pixel{}, "", api.Stuck, 64},
		{"07 00 00 00", api.Pixel{X: 1}, "", api.Stuck, 64},
		{"07 00 00 00", api.Pixel{}, "", 0, 1},
		{strings.Repeat(nop, 32), api.Pixel{X: 8}, "", 8, 32},
	} {
		shaded(t, c)
	}
}

func TestShadeErrors(t *testing.T) {
	long := strings.Repeat("x", 577)
	bad := api.Pixel{X: -1}
	for _, c := range []struct {
		code    string
		p       api.Pixel
		texture string
		e       api.Errno
	}{
		{"\x09\x00\x00\x00", bad, long, api.ErrCode},
		{"\x00\x00\x00\x00\x09", api.Pixel{X: 7}, "", api.ErrCode},
		{"\x07\x00\x02\x00", api.Pixel{X: 7}, "", api.ErrCode},
		{strings.Repeat("\xff", 129), bad, "", api.ErrLong},
		{strings.Repeat("\x00", 132), api.Pixel{X: 7}, "", api.ErrLong},
		{strings.Repeat("\x00", 1<<24), api.Pixel{X: 7}, "", api.ErrLong},
		{"", bad, long, api.ErrLong},
		{"", api.Pixel{X: 7}, long, api.ErrLong},
		{"", api.Pixel{X: 7}, strings.Repeat("x", 1<<24), api.ErrLong},
		{"", bad, long[1:], api.ErrArg},
	} {
		if value, steps, e := Shade(c.code, c.p, c.texture); value != 0 || steps != 0 || e != c.e {
			t.Errorf("P5: Shade(% .9x, %v, %d bytes) = %d, %d, %d, want 0, 0, %d", c.code, c.p, len(c.texture), value, steps, e, c.e)
		}
	}
	for _, n := range []int{-1, 256, 65536, 1 << 32, math.MaxInt, math.MinInt} {
		for k := range 4 {
			p := api.Pixel{X: 7, Y: 7, Old: 7, Colour: 7}
			*[]*int{&p.X, &p.Y, &p.Old, &p.Colour}[k] = n
			if value, steps, e := Shade("", p, ""); value != 0 || steps != 0 || e != api.ErrArg {
				t.Errorf("P5: Shade of %v = %d, %d, %d, want ErrArg", p, value, steps, e)
			}
		}
	}
	shaded(t, shading{"", api.Pixel{X: 255, Y: 255, Old: 255, Colour: 255}, long[1:], 255, 0})
}

// expected says again what a program does, with registers that wrap by themselves.
func expected(text string, p api.Pixel, texture string) (int, int) {
	r := [8]uint16{uint16(p.X), uint16(p.Y), uint16(p.Old), uint16(p.Colour)}
	done := 0
	for text, rest := text, text; len(rest) > 0; done++ {
		if done == 64 {
			return 170, 64
		}
		a, b, c := &r[rest[1]&7], r[rest[2]&7], r[rest[3]&7]
		k, target := rest[0], 4*int(rest[2])
		immediate := uint16(rest[2]) | uint16(rest[3])<<8
		rest = rest[4:]
		switch {
		case k == 0:
			*a = immediate
		case k == 1:
			*a = b + c
		case k == 2:
			*a = b - c
		case k == 3:
			*a = b * c
		case k == 4 && c > 0:
			*a = b / c
		case k == 5 && b < c:
			*a = 1
		case k == 6 && int(b) < len(texture):
			*a = uint16(texture[b])
		case k == 4, k == 5, k == 6:
			*a = 0
		case k == 7 && *a > 0:
			rest = text[target:]
		case k == 8:
			rest = ""
		}
	}
	return int(r[0] & 255), done
}

func TestShadeAnyPrograms(t *testing.T) {
	q := sequence(5)
	stuck := 0
	for range 50000 {
		n := q.below(api.MaxCode + 1)
		b := make([]byte, 4*n)
		for k := range b {
			b[k] = byte(q.below(256))
			if k%4 == 0 {
				b[k] = []byte{0, 1, 2, 3, 4, 5, 6, 7, 0, 1, 2, 3, 4, 5, 6, 7, 8}[q.below(17)]
			} else if k%4 == 2 && b[k-2] == 7 {
				b[k] = byte(q.below(n + 1))
			}
		}
		p := api.Pixel{X: q.below(256), Y: q.below(256), Old: q.below(256), Colour: q.below(256)}
		texture := make([]byte, q.below(577))
		for k := range texture {
			texture[k] = byte(q.below(256))
		}
		want, wantSteps := expected(string(b), p, string(texture))
		if wantSteps == 64 {
			stuck++
		}
		// Twice, since the answer hangs on the arguments alone.
		for range 2 {
			value, steps, e := Shade(string(b), p, string(texture))
			if value != want || steps != wantSteps || e != api.OK {
				t.Fatalf("P5: Shade(% x, %v, % x) = %d, %d, %d, want %d, %d, OK", b, p, texture, value, steps, e, want, wantSteps)
			}
		}
	}
	if stuck == 0 {
		t.Errorf("no program was stopped: the test is too tame")
	}
}

// Any bytes: what Verify refuses Shade refuses, and neither fails otherwise.
func TestShadeAnyBytes(t *testing.T) {
	q := sequence(7)
	for range 50000 {
		b := make([]byte, q.below(140))
		limit := []int{10, 256}[q.below(2)]
		for k := range b {
			b[k] = byte(q.below(limit))
		}
		refusal, _ := Verify(string(b))
		value, steps, e := Shade(string(b), api.Pixel{X: 9, Y: 1}, "abc")
		if e != refusal || e != api.OK && (value != 0 || steps != 0) {
			t.Fatalf("P5: Shade(% x) = %d, %d, %d, want the error %d", b, value, steps, e, refusal)
		}
	}
}
