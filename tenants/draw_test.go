package tenants

import (
	"math"
	"strings"
	"testing"

	"tenants/api"
)

// draw is a Draw.
func draw(handle, number, texture, colour int, s api.Triangle) string {
	b := []byte{api.Draw, byte(handle), byte(number), byte(texture), byte(colour)}
	for _, n := range []int{s.A.X, s.A.Y, s.B.X, s.B.Y, s.C.X, s.C.Y} {
		b = append(b, byte(n), byte(n>>8))
	}
	return string(b)
}

var (
	whole  = triangle(at(-100, -100), at(1500, -100), at(-100, 1500)) // covers everything
	single = triangle(at(0, 0), at(32, 0), at(0, 32))                 // covers (0, 0) alone
	three  = triangle(at(32, 0), at(32, 32), at(0, 32))               // covers (1, 0), (0, 1) and (1, 1)
	flat   = triangle(at(-100, -100), at(0, 0), at(1500, 1500))       // goes through the centres, on one line
	away   = triangle(at(-2048, -2048), at(-8, -2048), at(-8, 2047))  // covers nothing of any object
)

// Programs, as the pixel's byte becomes.
const (
	itsX      = ""
	itsY      = "\x01\x00\x01\x04"
	itsOld    = "\x01\x00\x02\x04"
	itsColour = "\x01\x00\x03\x04"
	sum       = "\x01\x00\x02\x03" // Old + Colour
	seven     = "\x00\x00\x07\x00"
	endless   = "\x00\x01\x01\x00\x07\x01\x00\x00"
)

// has makes an object with these bytes.
func has(t *testing.T, s *Server, c, handle, width int, bytes string) {
	t.Helper()
	does(t, s, c, create(handle, width, len(bytes)/width), 1+len(bytes), "\x00")
	for k := 0; k < len(bytes); k += 255 {
		part := bytes[k:min(k+255, len(bytes))]
		does(t, s, c, write(handle, k, part), 1+len(part), "\x00")
	}
}

// knows gives programs, from number 0 on.
func knows(t *testing.T, s *Server, c int, texts ...string) {
	t.Helper()
	for number, text := range texts {
		does(t, s, c, program(number, text), 1+len(text)/4, "\x00")
	}
}

// paint says again what a Draw makes of bytes, and answers what it costs. The
// texture may be the same bytes.
func paint(bytes []byte, width int, text string, texture []byte, colour int, s api.Triangle) int {
	cost := 1
	for y := range len(bytes) / width {
		for x := range width {
			if nudged(s, x, y) {
				pixel := &bytes[width*y+x]
				value, steps := expected(text, api.Pixel{X: x, Y: y, Old: int(*pixel), Colour: colour}, string(texture))
				*pixel = byte(value)
				cost += 1 + steps
			}
		}
	}
	return cost
}

func TestDrawExample(t *testing.T) {
	s := opened(t, 1)
	sends(t, s, 0, code(t, "01 00 02 02"))
	spends(t, s, 0, 3, 3)
	replies(t, s, 0, "")
	isFree(t, s, 96)
	spends(t, s, 0, 9, 2)
	replies(t, s, 0, "\x00")
	isFree(t, s, 95)
	sends(t, s, 0, code(t, "03 00 01 00 02 61 62 04 00 00 00 06 09"))
	spends(t, s, 0, 100, 11)
	replies(t, s, 0, code(t, "00 00 00 61 62 00 00 00 01"))
	sends(t, s, 0, code(t, "05 00 01 00 00 07 00"))
	sends(t, s, 0, code(t, "07 00 00 00 00 00 00 00 00 20 00 00 00 00 00 20 00"))
	sends(t, s, 0, code(t, "04 00 00 00 04"))
	spends(t, s, 0, 100, 2+3+5)
	replies(t, s, 0, code(t, "00 00 00 07 61 62 00"))
}

// TestDrawEveryHandle: that of the object, and that of the texture.
func TestDrawEveryHandle(t *testing.T) {
	s := opened(t, 1)
	for _, handle := range []int{0, 3, 7} {
		does(t, s, 0, create(handle, 1, 1), 2, "\x00")
	}
	knows(t, s, 0, seven)
	for handle := range 256 {
		if handle == 0 || handle == 3 || handle == 7 {
			does(t, s, 0, draw(handle, 0, 3, 0, whole)+read(handle, 0, 1), 3+2, "\x00\x00\x07")
			does(t, s, 0, draw(3, 0, handle, 0, whole), 3, "\x00")
			continue
		}
		does(t, s, 0, draw(handle, 0, 3, 0, whole), 1, "\x02")
		does(t, s, 0, draw(3, 0, handle, 0, whole), 1, "\x02")
	}
}

// TestDrawEveryProgram: the one without instructions is a program too.
func TestDrawEveryProgram(t *testing.T) {
	s := opened(t, 1)
	does(t, s, 0, create(0, 1, 1)+program(1, seven)+program(2, ""), 2+2+1, zeros(3))
	for number := range 256 {
		switch number {
		case 1:
			does(t, s, 0, draw(0, number, 0, 0, whole), 3, "\x00")
		case 2:
			does(t, s, 0, draw(0, number, 0, 0, whole), 2, "\x00")
		default:
			does(t, s, 0, draw(0, number, 0, 0, whole), 1, "\x06")
		}
	}
}

func TestDrawErrorNamedFirst(t *testing.T) {
	s := opened(t, 1)
	has(t, s, 0, 0, 2, "abcd")
	has(t, s, 0, 1, 3, "efg")
	knows(t, s, 0, seven)
	far := triangle(at(0, 0), at(2048, 0), at(0, 32))
	for _, c := range []struct {
		command string
		reply   string
	}{
		{draw(2, 0, 0, 9, whole), "\x02"},
		{draw(2, 1, 0, 9, whole), "\x02"},
		{draw(2, 1, 2, 9, far), "\x02"},
		{draw(8, 4, 8, 9, far), "\x02"},
		{draw(255, 255, 255, 255, far), "\x02"},
		{draw(0, 1, 0, 9, whole), "\x06"},
		{draw(0, 1, 2, 9, whole), "\x06"},
		{draw(0, 4, 0, 9, far), "\x06"},
		{draw(0, 255, 255, 9, far), "\x06"},
		{draw(0, 0, 2, 9, whole), "\x02"},
		{draw(0, 0, 2, 9, far), "\x02"},
		{draw(0, 0, 255, 9, flat), "\x02"},
		{draw(0, 0, 0, 9, far), "\x08"},
		{draw(0, 0, 1, 9, far), "\x08"},
		{draw(1, 0, 0, 9, far), "\x08"},
	} {
		does(t, s, 0, c.command, 1, c.reply)
		does(t, s, 0, c.command+"\x00"+c.command, 3, c.reply+"\x01"+c.reply)
		holds(t, s, 0, 0, "abcd")
		holds(t, s, 0, 1, "efg")
		isFree(t, s, 94)
	}
	// The program is there as before, and no other one.
	does(t, s, 0, draw(0, 0, 0, 9, single)+draw(0, 1, 0, 9, single), 3+1, "\x00\x06")
	holds(t, s, 0, 0, "\x07bcd")
}

// TestDrawEveryCoordinate: all numbers of two bytes, at each of the six places.
// The other two corners lie in one place, so that the triangle is flat.
func TestDrawEveryCoordinate(t *testing.T) {
	s := opened(t, 1)
	has(t, s, 0, 0, 1, "a")
	knows(t, s, 0, seven)
	const together = 32
	for place := range 6 {
		for n := 0; n < 65536; n += together {
			commands, want := "", ""
			for k := n; k < n+together; k++ {
				var corners [6]int
				corners[place] = k
				commands += draw(0, 0, 0, 0, triangle(at(corners[0], corners[1]), at(corners[2], corners[3]), at(corners[4], corners[5])))
				if k <= 2047 || k >= 65536-2048 {
					want += "\x00"
				} else {
					want += "\x08"
				}
			}
			does(t, s, 0, commands, together, want)
		}
	}
	holds(t, s, 0, 0, "a")
}

// TestDrawFarCorners: the bytes at the ends of the range, one by one.
func TestDrawFarCorners(t *testing.T) {
	s := opened(t, 1)
	has(t, s, 0, 0, 2, "abcd")
	knows(t, s, 0, seven)
	head := "07 00 00 00 00 "
	for _, c := range []struct {
		corners string
		cost    int
		reply   string
		become  string
	}{
		{"ff 07 ff 07 00 f8 ff 07 ff 07 00 f8", 9, "\x00", "\x07\x07\x07\x07"},
		{"00 f8 00 f8 00 f8 ff 07 ff 07 00 f8", 1, "\x00", "abcd"},
		{"00 08 ff 07 00 f8 ff 07 ff 07 00 f8", 1, "\x08", "abcd"},
		{"ff 07 00 08 00 f8 ff 07 ff 07 00 f8", 1, "\x08", "abcd"},
		{"ff 07 ff 07 ff f7 ff 07 ff 07 00 f8", 1, "\x08", "abcd"},
		{"ff 07 ff 07 00 f8 00 08 ff 07 00 f8", 1, "\x08", "abcd"},
		{"ff 07 ff 07 00 f8 ff 07 00 08 00 f8", 1, "\x08", "abcd"},
		{"ff 07 ff 07 00 f8 ff 07 ff 07 ff f7", 1, "\x08", "abcd"},
		{"ff 7f ff 07 00 f8 ff 07 ff 07 00 f8", 1, "\x08", "abcd"},
		{"ff 07 ff 07 00 80 ff 07 ff 07 00 f8", 1, "\x08", "abcd"},
		// One that is -1 and not 65535, in each corner: the triangle of (0, 0) alone.
		{"ff ff ff ff 20 00 ff ff ff ff 20 00", 3, "\x00", "\x07bcd"},
		{"20 00 ff ff ff ff ff ff ff ff 20 00", 3, "\x00", "\x07bcd"},
	} {
		does(t, s, 0, write(0, 0, "abcd")+code(t, head+c.corners), 5+c.cost, "\x00"+c.reply)
		holds(t, s, 0, 0, c.become)
	}
}

// TestDrawNothing: such triangles cost 1, whatever the program, and change
// nothing.
func TestDrawNothing(t *testing.T) {
	s := opened(t, 1)
	had := ramp(576, 3)
	has(t, s, 0, 0, 24, had)
	knows(t, s, 0, seven, itsX, endless)
	for number := range 3 {
		for _, n := range []api.Triangle{
			flat, away,
			triangle(at(8, 8), at(8, 8), at(8, 8)),
			triangle(at(8, 8), at(376, 8), at(100, 8)),
			triangle(at(8, 8), at(8, 376), at(8, 100)),
			triangle(at(9, 9), at(23, 9), at(9, 23)),
			triangle(at(384, -2048), at(2047, 0), at(384, 2047)),
			triangle(at(-2048, 384), at(2047, 384), at(0, 2047)),
			triangle(at(-2048, 0), at(2047, 0), at(0, -2048)),
		} {
			does(t, s, 0, draw(0, number, 0, 255, n), 1, "\x00")
		}
	}
	holds(t, s, 0, 0, had)
}

// TestDrawOutsideOfTheObject: of a triangle that covers pixels behind the
// object's sides only those inside count.
func TestDrawOutsideOfTheObject(t *testing.T) {
	s := opened(t, 1)
	has(t, s, 0, 0, 3, "abcdef")
	has(t, s, 0, 1, 3, "ghi")
	knows(t, s, 0, seven)
	right := triangle(at(48, 0), at(48, 1000), at(1048, 0))
	below := triangle(at(0, 32), at(1000, 32), at(0, 1032))
	lastColumn := triangle(at(40, -100), at(40, 1000), at(1048, 0))
	lastRow := triangle(at(-100, 24), at(1000, 24), at(0, 1032))
	does(t, s, 0, draw(0, 0, 0, 0, right)+draw(0, 0, 0, 0, below), 2, "\x00\x00")
	holds(t, s, 0, 0, "abcdef")
	does(t, s, 0, draw(0, 0, 0, 0, lastColumn), 1+2*2, "\x00")
	holds(t, s, 0, 0, "ab\x07de\x07")
	does(t, s, 0, draw(0, 0, 0, 0, lastRow), 1+3*2, "\x00")
	holds(t, s, 0, 0, "ab\x07\x07\x07\x07")
	holds(t, s, 0, 1, "ghi")
}

// TestDrawEverySize: which pixel has which byte.
func TestDrawEverySize(t *testing.T) {
	s := opened(t, 1)
	knows(t, s, 0, itsX, itsY)
	for width := 1; width <= api.MaxSide; width++ {
		for height := 1; height <= api.MaxSide; height++ {
			size := width * height
			does(t, s, 0, create(6, width, height), 1+size, "\x00")
			var xs, ys []byte
			for k := range size {
				xs = append(xs, byte(k%width))
				ys = append(ys, byte(k/width))
			}
			does(t, s, 0, draw(6, 0, 6, 0, whole), 1+size, "\x00")
			holds(t, s, 0, 6, string(xs))
			does(t, s, 0, draw(6, 1, 6, 0, whole), 1+2*size, "\x00")
			holds(t, s, 0, 6, string(ys))
			does(t, s, 0, drop(6), 1, "\x00")
		}
	}
}

// TestDrawWhatIsCovered draws triangles of all kinds on the largest object and
// on a small one; the corners may stand in each order.
func TestDrawWhatIsCovered(t *testing.T) {
	s := opened(t, 1)
	has(t, s, 0, 0, 24, zeros(576))
	has(t, s, 0, 1, 5, zeros(35))
	knows(t, s, 0, seven)
	q := sequence(11)
	triangles := []api.Triangle{whole, single, three, flat, away}
	for range 60 {
		var p [3]api.Point
		for k := range p {
			p[k] = at(q.below(4096)-2048, q.below(4096)-2048)
			if q.below(2) == 0 {
				p[k] = at(q.below(63)*8-64, q.below(63)*8-64)
			}
		}
		triangles = append(triangles, triangle(p[0], p[1], p[2]))
	}
	some := 0
	for _, one := range triangles {
		for handle, width := range []int{24, 5} {
			bytes := []byte(zeros([]int{576, 35}[handle]))
			cost := paint(bytes, width, seven, nil, 0, one)
			if cost > 1 && cost < 1+2*len(bytes) {
				some++
			}
			for _, turned := range orders(one) {
				does(t, s, 0, wipe(handle, 0)+draw(handle, 0, handle, 0, turned), 1+len(bytes)+cost, "\x00\x00")
				holds(t, s, 0, handle, string(bytes))
			}
		}
	}
	if some < 20 {
		t.Errorf("only %d triangles cover a part: the test is too tame", some)
	}
}

// TestDrawColours: 0 and 255, and all between.
func TestDrawColours(t *testing.T) {
	s := opened(t, 1)
	has(t, s, 0, 0, 2, "ab")
	knows(t, s, 0, itsColour)
	for colour := range 256 {
		does(t, s, 0, draw(0, 0, 0, colour, whole), 5, "\x00")
		holds(t, s, 0, 0, strings.Repeat(string([]byte{byte(colour)}), 2))
	}
}

// TestDrawOver: each Draw begins with what the one before left.
func TestDrawOver(t *testing.T) {
	s := opened(t, 1)
	has(t, s, 0, 0, 2, "\x01\x02\x03\x04")
	knows(t, s, 0, sum, itsOld, seven)
	for _, c := range []struct {
		number int
		colour int
		shape  api.Triangle
		cost   int
		become string
	}{
		{0, 5, whole, 9, "\x06\x07\x08\x09"},
		{0, 5, three, 7, "\x06\x0c\x0d\x0e"},
		{0, 250, single, 3, "\x00\x0c\x0d\x0e"},
		{0, 255, whole, 9, "\xff\x0b\x0c\x0d"},
		{0, 0, whole, 9, "\xff\x0b\x0c\x0d"},
		{1, 9, whole, 9, "\xff\x0b\x0c\x0d"},
		{2, 9, three, 7, "\xff\x07\x07\x07"},
		{0, 1, whole, 9, "\x00\x08\x08\x08"},
		{0, 1, flat, 1, "\x00\x08\x08\x08"},
		{0, 1, away, 1, "\x00\x08\x08\x08"},
	} {
		does(t, s, 0, draw(0, c.number, 0, c.colour, c.shape), c.cost, "\x00")
		holds(t, s, 0, 0, c.become)
	}
	// All at once, with other commands in between.
	does(t, s, 0, wipe(0, 3)+draw(0, 0, 0, 1, whole)+draw(0, 0, 0, 1, three)+write(0, 3, "a")+draw(0, 0, 0, 1, whole)+read(0, 0, 4),
		5+9+7+2+9+5, "\x00\x00\x00\x00\x00\x00\x05\x06\x06b")
}

// TestDrawPixel: X, Y, Old and the colour are in registers 0 to 3, and 0 in the
// others, for each pixel anew.
func TestDrawPixel(t *testing.T) {
	s := opened(t, 1)
	for register := range 8 {
		// The register is read ahead of being changed, and all are left changed.
		text := string([]byte{1, 0, byte(register), 7})
		for r := 1; r < 8; r++ {
			text += string([]byte{0, byte(r), 99, 99})
		}
		had := "\x0a\x0b\x0c\x0d\x0e\x0f"
		has(t, s, 0, 0, 3, had)
		knows(t, s, 0, text)
		does(t, s, 0, draw(0, 0, 0, 200, whole), 1+6*9, "\x00")
		want := []string{"\x00\x01\x02\x00\x01\x02", "\x00\x00\x00\x01\x01\x01", had, strings.Repeat("\xc8", 6)}
		if register < 4 {
			holds(t, s, 0, 0, want[register])
		} else {
			holds(t, s, 0, 0, zeros(6))
		}
		does(t, s, 0, drop(0), 1, "\x00")
	}
}

func TestDrawTexture(t *testing.T) {
	s := opened(t, 1)
	// The byte of the texture that Old tells the number of.
	knows(t, s, 0, "\x06\x00\x02\x00", code(t, "00 04 ff 00 01 05 02 04 01 05 05 04 06 00 05 00"))
	has(t, s, 0, 1, 3, "abc")
	has(t, s, 0, 2, 1, "z")
	most := ramp(576, 9)
	has(t, s, 0, 3, 24, most)
	for _, c := range []struct {
		number  int
		texture int
		had     string
		cost    int
		become  string
	}{
		{0, 1, "\x02\x01\x00\x03", 9, "cba\x00"},
		{0, 1, "\xff\x04\x02\x02", 9, "\x00\x00cc"},
		{0, 2, "\x00\x01\x00\xff", 9, "z\x00z\x00"},
		{0, 3, "\x00\xff\x18\x17", 9, most[:1] + most[255:256] + most[24:25] + most[23:24]},
		// The byte number Old + 510.
		{1, 3, "\x00\x41\x42\xff", 1 + 4*5, most[510:511] + most[575:576] + "\x00\x00"},
		{1, 1, "\x00\x01\x02\x03", 1 + 4*5, zeros(4)},
	} {
		has(t, s, 0, 0, 2, c.had)
		does(t, s, 0, draw(0, c.number, c.texture, 77, whole), c.cost, "\x00")
		holds(t, s, 0, 0, c.become)
		does(t, s, 0, drop(0), 1, "\x00")
	}
	// What is read is left as it is.
	holds(t, s, 0, 1, "abc")
	holds(t, s, 0, 2, "z")
	holds(t, s, 0, 3, most)
}

// TestDrawTextureAsItIsNow: what was written to the texture counts, and an
// object that came in its place too.
func TestDrawTextureAsItIsNow(t *testing.T) {
	s := opened(t, 1)
	knows(t, s, 0, "\x06\x00\x00\x00", seven)
	has(t, s, 0, 0, 3, "...")
	has(t, s, 0, 1, 3, "abc")
	does(t, s, 0, draw(0, 0, 1, 0, whole)+read(0, 0, 3), 7+4, "\x00\x00abc")
	does(t, s, 0, write(1, 1, "d")+draw(0, 0, 1, 0, whole)+read(0, 0, 3), 2+7+4, "\x00\x00\x00adc")
	does(t, s, 0, draw(1, 1, 0, 0, single)+draw(0, 0, 1, 0, whole)+read(0, 0, 3), 3+7+4, "\x00\x00\x00\x07dc")
	does(t, s, 0, drop(1)+draw(0, 0, 1, 0, whole), 1+1, "\x00\x02")
	does(t, s, 0, create(1, 2, 1)+draw(0, 0, 1, 0, whole)+read(0, 0, 3), 3+7+4, "\x00\x00\x00\x00\x00\x00")
}

// TestDrawTextureItself: the bytes ahead are as they were, and those behind as
// they were drawn.
func TestDrawTextureItself(t *testing.T) {
	for _, c := range []struct {
		name   string
		width  int
		had    string
		text   string
		shape  api.Triangle
		cost   int
		become string
	}{
		{"the byte on the left, and 1", 5, "\x09\x00\x00\x00\x00",
			"00 07 01 00 02 00 00 07 06 00 00 00 01 00 00 07", whole, 1 + 5*5, "\x01\x02\x03\x04\x05"},
		{"the byte on the right", 5, "abcde",
			"00 07 01 00 01 00 00 07 06 00 00 00", whole, 1 + 5*4, "bcde\x00"},
		{"its own byte, and 1", 3, "abcdef",
			"00 07 03 00 03 06 01 07 01 06 06 00 06 00 06 00 00 07 01 00 01 00 00 07", whole, 1 + 6*7, "bcdefg"},
		{"the byte above", 3, "abcdefghi",
			"02 05 01 04 00 07 01 00 02 05 05 07 00 07 03 00 03 06 05 07 01 06 06 00 06 00 06 00", whole, 1 + 9*8, zeros(9)},
		{"the byte below", 3, "abcdefghi",
			"00 07 01 00 01 05 01 07 00 07 03 00 03 06 05 07 01 06 06 00 06 00 06 00", whole, 1 + 9*7, "defghi\x00\x00\x00"},
		{"the first byte, and 1", 2, "abcd",
			"06 00 04 00 00 07 01 00 01 00 00 07", whole, 1 + 4*4, "bccc"},
		{"the first byte, which is not covered, and 1", 2, "abcd",
			"06 00 04 00 00 07 01 00 01 00 00 07", three, 1 + 3*4, "abbb"},
		{"the last byte", 2, "abcd",
			"00 06 03 00 06 00 06 00", whole, 1 + 4*3, "dddd"},
	} {
		t.Run(c.name, func(t *testing.T) {
			s := opened(t, 1)
			has(t, s, 0, 4, c.width, c.had)
			knows(t, s, 0, code(t, c.text))
			does(t, s, 0, draw(4, 0, 4, 0, c.shape), c.cost, "\x00")
			holds(t, s, 0, 4, c.become)
		})
	}
}

// TestDrawTextureAlike: another object with the same bytes is not the object
// itself.
func TestDrawTextureAlike(t *testing.T) {
	s := opened(t, 1)
	knows(t, s, 0, code(t, "06 00 04 00 00 07 01 00 01 00 00 07"))
	has(t, s, 0, 0, 2, "abcd")
	has(t, s, 0, 1, 2, "abcd")
	does(t, s, 0, draw(0, 0, 1, 0, whole), 1+4*4, "\x00")
	holds(t, s, 0, 0, "bbbb")
	holds(t, s, 0, 1, "abcd")
}

// TestDrawSteps: each pixel costs what was done for it.
func TestDrawSteps(t *testing.T) {
	s := opened(t, 1)
	down := code(t, "00 07 01 00 07 00 03 00 08 00 00 00 02 00 00 07 07 07 01 00")
	knows(t, s, 0, down, ends(1), ends(32), strings.Repeat("\x00\x07\x00\x00", 32))
	// X is counted down to 0: three instructions each time, and three more.
	does(t, s, 0, create(0, 24, 1), 25, "\x00")
	does(t, s, 0, wipe(0, 'a'), 25, "\x00")
	cost, become := 1, []byte{}
	for x := range 24 {
		if 3+3*x <= api.MaxSteps {
			cost += 1 + 3 + 3*x
			become = append(become, 0)
		} else {
			cost += 1 + api.MaxSteps
			become = append(become, api.Stuck)
		}
	}
	does(t, s, 0, draw(0, 0, 0, 0, whole), cost, "\x00")
	holds(t, s, 0, 0, string(become))
	does(t, s, 0, draw(0, 1, 0, 0, whole), 1+24*2, "\x00")
	does(t, s, 0, draw(0, 2, 0, 0, whole), 1+24*2, "\x00")
	does(t, s, 0, draw(0, 3, 0, 0, whole), 1+24*33, "\x00")
}

// TestDrawMostSteps: just MaxSteps instructions are done, or there is one more.
func TestDrawMostSteps(t *testing.T) {
	s := opened(t, 1)
	// As in TestShadeSteps: 63 instructions, when there are three rounds.
	times := code(t, "00 06 01 00 01 04 04 06 05 05 04 03"+strings.Repeat("01 00 00 06", 17)+"07 05 00 00")
	nop := "\x00\x07\x00\x00"
	has(t, s, 0, 0, 2, "ab")
	knows(t, s, 0, times, times+nop, times+nop+nop, endless)
	does(t, s, 0, draw(0, 0, 0, 3, whole), 1+2*64, "\x00")
	holds(t, s, 0, 0, "\x33\x34")
	does(t, s, 0, draw(0, 1, 0, 3, whole), 1+2*65, "\x00")
	holds(t, s, 0, 0, "\x33\x34")
	does(t, s, 0, draw(0, 2, 0, 3, whole), 1+2*65, "\x00")
	holds(t, s, 0, 0, "\xaa\xaa")
	does(t, s, 0, wipe(0, 0)+draw(0, 3, 0, 3, single), 3+66, "\x00\x00")
	holds(t, s, 0, 0, "\xaa\x00")
}

// TestDrawLargestObject: with a program that never ends by itself it is the
// greatest cost that there is, and more of them than one Run's fuel is enough for.
func TestDrawLargestObject(t *testing.T) {
	s := opened(t, 1)
	has(t, s, 0, 0, 24, ramp(576, 0))
	knows(t, s, 0, endless)
	const cost = 1 + 576*65
	does(t, s, 0, draw(0, 0, 0, 0, whole), cost, "\x00")
	holds(t, s, 0, 0, strings.Repeat("\xaa", 576))
	sends(t, s, 0, strings.Repeat(draw(0, 0, 0, 0, whole), 60))
	spends(t, s, 0, api.MaxFuel, api.MaxFuel)
	replies(t, s, 0, zeros(28))
	spends(t, s, 0, 29*cost-api.MaxFuel-1, 29*cost-api.MaxFuel-1)
	replies(t, s, 0, "")
	spends(t, s, 0, 1, 1)
	replies(t, s, 0, "\x00")
	spends(t, s, 0, api.MaxFuel, api.MaxFuel)
	replies(t, s, 0, zeros(28))
	spends(t, s, 0, api.MaxFuel, 31*cost-api.MaxFuel)
	replies(t, s, 0, zeros(3))
}

// TestDrawPaidInTwo stops in the middle of a Draw, at every place.
func TestDrawPaidInTwo(t *testing.T) {
	for _, c := range []struct {
		command string
		cost    int
		become  string
	}{
		{draw(0, 0, 0, 9, whole), 13, "jklmno"},
		{draw(0, 1, 0, 9, whole), 7, "\x00\x01\x02\x00\x01\x02"},
		{draw(0, 2, 0, 9, single), 66, "\xaabcdef"},
		{draw(0, 3, 0, 9, whole), 1 + 6*4, "bccccc"},
	} {
		for fuel := range c.cost {
			s := opened(t, 1)
			has(t, s, 0, 0, 3, "abcdef")
			knows(t, s, 0, sum, itsX, endless, code(t, "06 00 04 00 00 07 01 00 01 00 00 07"))
			sends(t, s, 0, c.command)
			spends(t, s, 0, fuel, fuel)
			replies(t, s, 0, "")
			spends(t, s, 0, 0, 0)
			replies(t, s, 0, "")
			spends(t, s, 0, 1000, c.cost-fuel)
			replies(t, s, 0, "\x00")
			holds(t, s, 0, 0, c.become)
		}
	}
}

// TestDrawPaidOneByOne: a Draw of the largest object, in thousands of pieces; its
// bytes wait till it is done.
func TestDrawPaidOneByOne(t *testing.T) {
	s := opened(t, 2)
	had := ramp(576, 1)
	has(t, s, 0, 0, 24, had)
	text := code(t, "06 04 00 00 01 00 02 04 01 00 00 03 04 05 00 03 07 05 02 00")
	knows(t, s, 0, text)
	become := []byte(had)
	cost := paint(become, 24, text, become, 40, whole)
	if cost < 3000 {
		t.Errorf("the cost is %d: the test is too tame", cost)
	}
	sends(t, s, 0, draw(0, 0, 0, 40, whole)+zeros(api.MaxPending-17))
	for range cost - 1 {
		spends(t, s, 0, 1, 1)
		replies(t, s, 0, "")
	}
	tooLong(t, s, 0, "\x00")
	isFree(t, s, 87)
	spends(t, s, 0, 1, 1)
	replies(t, s, 0, "\x00")
	tooLong(t, s, 0, zeros(18))
	sends(t, s, 0, zeros(17))
	spends(t, s, 0, api.MaxFuel, api.MaxPending)
	replies(t, s, 0, strings.Repeat("\x01", api.MaxPending))
	holds(t, s, 0, 0, string(become))
}

// TestDrawInPieces: nothing is spent ahead of the last byte, not even on a Draw
// that has an error that its first bytes tell.
func TestDrawInPieces(t *testing.T) {
	for _, c := range []struct {
		command string
		cost    int
		reply   string
		become  string
	}{
		{draw(0, 0, 0, 9, whole), 13, "\x00", "\x07\x07\x07\x07\x07\x07"},
		{draw(0, 0, 0, 9, single), 3, "\x00", "\x07bcdef"},
		{draw(0, 0, 0, 9, flat), 1, "\x00", "abcdef"},
		{draw(255, 0, 0, 9, whole), 1, "\x02", "abcdef"},
		{draw(0, 1, 0, 9, whole), 1, "\x06", "abcdef"},
		{draw(0, 0, 255, 9, whole), 1, "\x02", "abcdef"},
		{draw(0, 0, 0, 9, triangle(at(2048, 0), at(0, 0), at(0, 0))), 1, "\x08", "abcdef"},
	} {
		if len(c.command) != 17 {
			t.Fatalf("a Draw of %d bytes", len(c.command))
		}
		for cut := 1; cut < len(c.command); cut++ {
			s := opened(t, 1)
			has(t, s, 0, 0, 3, "abcdef")
			knows(t, s, 0, seven)
			comesInTwo(t, s, c.command, cut, c.cost, c.reply)
			holds(t, s, 0, 0, c.become)
		}
		s := opened(t, 1)
		has(t, s, 0, 0, 3, "abcdef")
		knows(t, s, 0, seven)
		for k := range len(c.command) {
			spends(t, s, 0, api.MaxFuel, 0)
			sends(t, s, 0, c.command[k:k+1])
		}
		does(t, s, 0, "\x00", c.cost+1, c.reply+"\x01")
		holds(t, s, 0, 0, c.become)
	}
}

// TestDrawAtTheLimitOfPending: sixty Draws and four bytes more are all that may
// wait; those may be the first bytes of another one.
func TestDrawAtTheLimitOfPending(t *testing.T) {
	s := opened(t, 1)
	has(t, s, 0, 0, 1, "\x00")
	knows(t, s, 0, sum)
	sends(t, s, 0, strings.Repeat(draw(0, 0, 0, 3, whole), 60)+zeros(4))
	tooLong(t, s, 0, "\x00")
	spends(t, s, 0, api.MaxFuel, 60*3+4)
	replies(t, s, 0, zeros(60)+"\x01\x01\x01\x01")
	holds(t, s, 0, 0, "\xb4")
	sends(t, s, 0, strings.Repeat(draw(0, 0, 0, 3, whole), 61)[:api.MaxPending])
	spends(t, s, 0, api.MaxFuel, 60*3)
	sends(t, s, 0, draw(0, 0, 0, 3, whole)[4:])
	spends(t, s, 0, api.MaxFuel, 3)
	replies(t, s, 0, zeros(61))
	holds(t, s, 0, 0, "\x6b")
}

// TestDrawWaitsForReplies: as with all commands, nothing is spent on it while
// MaxReplies bytes wait.
func TestDrawWaitsForReplies(t *testing.T) {
	s := opened(t, 1)
	has(t, s, 0, 0, 2, "ab")
	knows(t, s, 0, sum)
	sends(t, s, 0, zeros(1022))
	spends(t, s, 0, api.MaxFuel, 1022)
	sends(t, s, 0, strings.Repeat(draw(0, 0, 0, 1, whole), 3))
	spends(t, s, 0, api.MaxFuel, 10)
	spends(t, s, 0, api.MaxFuel, 0)
	replies(t, s, 0, strings.Repeat("\x01", 1022)+"\x00\x00")
	spends(t, s, 0, api.MaxFuel, 5)
	replies(t, s, 0, "\x00")
	holds(t, s, 0, 0, "de")
}

// TestDrawWrongCalls: a Run that is refused spends nothing on a Draw.
func TestDrawWrongCalls(t *testing.T) {
	s := opened(t, 1)
	has(t, s, 0, 0, 2, "ab")
	knows(t, s, 0, sum)
	sends(t, s, 0, draw(0, 0, 0, 1, whole))
	spends(t, s, 0, 4, 4)
	for _, fuel := range []int{-1, api.MaxFuel + 1, math.MinInt, math.MaxInt} {
		if n, e := s.Run(0, fuel); n != 0 || e != api.ErrArg {
			t.Errorf("P8: Run(0, %d) = %d, %d, want 0, ErrArg", fuel, n, e)
		}
	}
	tooLong(t, s, 0, zeros(api.MaxPending-16))
	replies(t, s, 0, "")
	spends(t, s, 0, 9, 1)
	replies(t, s, 0, "\x00")
	holds(t, s, 0, 0, "bc")
}

// TestDrawWithTheProgramOfItsNumber: programs are kept, put in place of others,
// and stay when a Code has an error (P12).
func TestDrawWithTheProgramOfItsNumber(t *testing.T) {
	s := opened(t, 1)
	has(t, s, 0, 0, 1, "a")
	set := func(value byte) string { return string([]byte{0, 0, value, 0}) }
	draws := func(values ...int) {
		t.Helper()
		for number, value := range values {
			if value < 0 {
				does(t, s, 0, draw(0, number, 0, 0, whole), 1, "\x06")
			} else {
				does(t, s, 0, draw(0, number, 0, 0, whole)+read(0, 0, 1), 3+2, "\x00\x00"+string([]byte{byte(value)}))
			}
		}
	}
	draws(-1, -1, -1, -1)
	does(t, s, 0, program(2, set(12)), 2, "\x00")
	draws(-1, -1, 12, -1)
	does(t, s, 0, program(0, set(10))+program(3, set(13)), 4, "\x00\x00")
	draws(10, -1, 12, 13)
	does(t, s, 0, program(1, set(11))+program(2, set(22)), 4, "\x00\x00")
	draws(10, 11, 22, 13)
	// A longer one, of which one instruction is done, and a shorter one again.
	does(t, s, 0, program(1, "\x01\x00\x04\x04\x08\x00\x00\x00"+ends(30)), 33, "\x00")
	does(t, s, 0, draw(0, 1, 0, 0, whole), 4, "\x00")
	does(t, s, 0, program(1, set(31)), 2, "\x00")
	draws(10, 31, 22, 13)
	for _, text := range []string{"\x09\x00\x00\x00", set(1) + "\x07\x00\x03\x00", strings.Repeat(set(1), 33), strings.Repeat(set(1), 255)} {
		does(t, s, 0, program(1, text), 1, "\x07")
		draws(10, 31, 22, 13)
	}
	does(t, s, 0, program(4, set(1))+program(255, set(1)), 2, "\x06\x06")
	draws(10, 31, 22, 13)
	// Bytes that are sent later do not change them, nor does what becomes of objects.
	does(t, s, 0, strings.Repeat("\xff", 1024), 1024, strings.Repeat("\x01", 1024))
	does(t, s, 0, drop(0)+create(0, 1, 1), 1+2, "\x00\x00")
	draws(10, 31, 22, 13)
	// The one without instructions is one all the same.
	does(t, s, 0, program(1, ""), 1, "\x00")
	does(t, s, 0, draw(0, 1, 0, 0, whole)+read(0, 0, 1), 2+2, "\x00\x00\x00")
}

// TestDrawAfterClose: programs and objects of the one that had the number before
// are gone.
func TestDrawAfterClose(t *testing.T) {
	s := opened(t, 2)
	has(t, s, 1, 0, 2, "ab")
	knows(t, s, 1, sum, "", endless, seven)
	sends(t, s, 1, draw(0, 0, 0, 1, whole))
	spends(t, s, 1, 4, 4)
	closes(t, s, 1)
	opens(t, s, 1)
	spends(t, s, 1, 9, 0)
	does(t, s, 1, draw(0, 0, 0, 1, whole), 1, "\x02")
	does(t, s, 1, create(0, 2, 1), 3, "\x00")
	for number := range api.Programs {
		does(t, s, 1, draw(0, number, 0, 1, whole), 1, "\x06")
	}
	holds(t, s, 1, 0, zeros(2))
}

// TestDrawContextsApart: none draws with what another has, or on it (P2).
func TestDrawContextsApart(t *testing.T) {
	s := opened(t, api.Contexts)
	for c := range api.Contexts {
		has(t, s, c, 0, 2, "ab")
	}
	for c := range api.Contexts {
		does(t, s, c, draw(0, 0, 0, 1, whole), 1, "\x06")
		does(t, s, c, program(0, "\x00\x00"+string([]byte{byte(c)})+"\x00"), 2, "\x00")
		does(t, s, c, create(1+c%7, 1, 1), 2, "\x00")
	}
	for c := range api.Contexts {
		sends(t, s, c, draw(0, 0, 0, 1, whole))
		spends(t, s, c, c%5, c%5)
	}
	for c := range api.Contexts {
		spends(t, s, c, 9, 5-c%5)
		replies(t, s, c, "\x00")
	}
	for c := range api.Contexts {
		holds(t, s, c, 0, strings.Repeat(string([]byte{byte(c)}), 2))
		does(t, s, c, draw(0, 0, 1+(c+1)%7, 1, whole), 1, "\x02")
		does(t, s, c, draw(1+(c+1)%7, 0, 0, 1, whole), 1, "\x02")
	}
}

// TestDrawAnyProgram draws triangles with programs of all kinds on objects of
// all kinds, again and again.
func TestDrawAnyProgram(t *testing.T) {
	q := sequence(13)
	for range 150 {
		s := opened(t, 1)
		var bytes [2][]byte
		var width [2]int
		for handle := range 2 {
			width[handle] = 1 + q.below(16)
			bytes[handle] = []byte(anyBytes(&q, width[handle]*(1+q.below(16))))
			has(t, s, 0, handle, width[handle], string(bytes[handle]))
		}
		for range 6 {
			text := goodCode(&q)
			target, texture, colour := q.below(2), q.below(2), q.below(256)
			shape := anyTriangle(&q)
			cost := paint(bytes[target], width[target], text, bytes[texture], colour, shape)
			knows(t, s, 0, text)
			does(t, s, 0, draw(target, 0, texture, colour, shape), cost, "\x00")
			holds(t, s, 0, 0, string(bytes[0]))
			holds(t, s, 0, 1, string(bytes[1]))
		}
	}
}

// goodCode is a program for sure.
func goodCode(q *sequence) string {
	for {
		text := anyCode(q)
		if e, _ := Verify(text); e == api.OK {
			return text
		}
	}
}

// anyTriangle is most often one that covers some of an object; its corners are
// in reach.
func anyTriangle(q *sequence) api.Triangle {
	var p [3]api.Point
	for k := range p {
		switch q.below(3) {
		case 0:
			p[k] = at(q.below(60)*8-48, q.below(60)*8-48)
		case 1:
			p[k] = at(q.below(600)-100, q.below(600)-100)
		case 2:
			p[k] = at(q.below(4096)-2048, q.below(4096)-2048)
		}
	}
	if q.below(3) == 0 {
		return whole
	}
	return triangle(p[0], p[1], p[2])
}
