package tenants

import (
	"math"
	"testing"

	"tenants/api"
)

func at(x, y int) api.Point { return api.Point{X: x, Y: y} }

func triangle(a, b, c api.Point) api.Triangle { return api.Triangle{A: a, B: b, C: c} }

// orders: the triangle with its corners in each order.
func orders(t api.Triangle) []api.Triangle {
	a, b, c := t.A, t.B, t.C
	return []api.Triangle{
		triangle(a, b, c), triangle(a, c, b), triangle(b, a, c),
		triangle(b, c, a), triangle(c, a, b), triangle(c, b, a),
	}
}

func covered(t *testing.T, s api.Triangle, x, y int) bool {
	t.Helper()
	in, e := Cover(s, x, y)
	if e != api.OK {
		t.Fatalf("P3: Cover(%v, %d, %d): error %d", s, x, y, e)
	}
	return in
}

// picture: the pixels (0, 0) to (3, 3), row by row, those that are covered as #.
func picture(t *testing.T, s api.Triangle) string {
	t.Helper()
	rows := ""
	for y := range 4 {
		for x := range 4 {
			if covered(t, s, x, y) {
				rows += "#"
			} else {
				rows += "."
			}
		}
		rows += "/"
	}
	return rows
}

func TestCoverPictures(t *testing.T) {
	for _, c := range []struct {
		name string
		s    api.Triangle
		want string
	}{
		{"slanting edge on the right", triangle(at(0, 0), at(32, 0), at(0, 32)), "#.../..../..../..../"},
		{"slanting edge on the left", triangle(at(32, 0), at(32, 32), at(0, 32)), ".#../##../..../..../"},
		{"top edge", triangle(at(0, 8), at(32, 8), at(0, 40)), "##../#.../..../..../"},
		{"edge below", triangle(at(0, 24), at(32, 24), at(0, -8)), "#.../..../..../..../"},
		{"upright edge on the left", triangle(at(8, 0), at(8, 64), at(40, 32)), "#.../##../##../#.../"},
		{"upright edge on the right", triangle(at(40, 0), at(40, 64), at(8, 32)), "..../.#../.#../..../"},
		{"corner of a left and a top edge", triangle(at(8, 8), at(40, 8), at(8, 40)), "##../#.../..../..../"},
		{"corner of a top and a right edge", triangle(at(8, 8), at(40, 8), at(40, 40)), "##../.#../..../..../"},
		{"corner of two left edges", triangle(at(24, 24), at(56, 8), at(56, 40)), "..../.##./..../..../"},
		{"corner of two right edges", triangle(at(24, 24), at(0, 8), at(0, 40)), "..../#.../..../..../"},
		{"corner of a left and a right edge", triangle(at(24, 8), at(8, 40), at(40, 40)), "..../.#../..../..../"},
		{"no pixel's centre", triangle(at(9, 9), at(23, 9), at(9, 23)), "..../..../..../..../"},
		{"smallest, corner of a left and a top edge", triangle(at(8, 8), at(9, 8), at(8, 9)), "#.../..../..../..../"},
		{"smallest, corner of two left edges", triangle(at(8, 8), at(9, 7), at(8, 9)), "#.../..../..../..../"},
		{"smallest, corner of a left edge and one below", triangle(at(8, 8), at(9, 7), at(9, 8)), "..../..../..../..../"},
		{"smallest, corner of a right and a top edge", triangle(at(8, 8), at(7, 8), at(8, 9)), "..../..../..../..../"},
		{"one line, slanting", triangle(at(0, 0), at(24, 24), at(64, 64)), "..../..../..../..../"},
		{"one line, level", triangle(at(0, 8), at(24, 8), at(64, 8)), "..../..../..../..../"},
		{"one line, upright", triangle(at(8, 0), at(8, 24), at(8, 64)), "..../..../..../..../"},
		{"two corners in one place", triangle(at(8, 8), at(8, 8), at(40, 8)), "..../..../..../..../"},
		{"three corners in one place", triangle(at(8, 8), at(8, 8), at(8, 8)), "..../..../..../..../"},
		{"farthest corners", triangle(at(2047, 2047), at(-2048, 2047), at(2047, -2048)), "####/####/####/####/"},
		{"farthest corners, the other half", triangle(at(-2048, -2048), at(-2048, 2047), at(2047, -2048)), "..../..../..../..../"},
		{"thin, left edge through the centres", triangle(at(-2048, -2048), at(2047, 2047), at(2047, 2046)), "#.../.#../..#./...#/"},
		{"thin, right edge through the centres", triangle(at(-2048, -2048), at(2047, 2047), at(2046, 2047)), "..../..../..../..../"},
	} {
		for _, s := range orders(c.s) {
			if got := picture(t, s); got != c.want {
				t.Errorf("P3: %s: of %v are covered %s, want %s", c.name, s, got, c.want)
			}
		}
	}
}

// nudged: whether the triangle holds the centre when that is moved to the right
// by very little, and down by much less. That is the rule of left and top edges
// in other words, and needs no case of its own for the border.
func nudged(s api.Triangle, x, y int) bool {
	const fine = 1 << 27
	cx := (api.Scale*x+api.Scale/2)*fine + 1<<13
	cy := (api.Scale*y+api.Scale/2)*fine + 1
	turn := func(p, q api.Point) int {
		d := (q.X-p.X)*(cy-p.Y*fine) - (q.Y-p.Y)*(cx-p.X*fine)
		if d > 0 {
			return 1
		} else if d < 0 {
			return -1
		}
		return 0
	}
	sum := turn(s.A, s.B) + turn(s.B, s.C) + turn(s.C, s.A)
	return sum == 3 || sum == -3
}

// Corners at the corners, the centres and the middles of the sides of pixels.
func TestCoverSmallTriangles(t *testing.T) {
	var points []api.Point
	for y := 0; y <= 40; y += 8 {
		for x := 0; x <= 40; x += 8 {
			points = append(points, at(x, y))
		}
	}
	for _, a := range points {
		for _, b := range points {
			for _, c := range points {
				s := triangle(a, b, c)
				for k := range 9 {
					x, y := k%3, k/3
					if got, want := covered(t, s, x, y), nudged(s, x, y); got != want {
						t.Fatalf("P3: Cover(%v, %d, %d) = %v, want %v", s, x, y, got, want)
					}
				}
			}
		}
	}
}

// sequence is a fixed row of numbers that look like chance.
type sequence uint64

func (q *sequence) below(n int) int {
	*q = *q*6364136223846793005 + 1442695040888963407
	return int(uint64(*q)>>33) % n
}

func TestCoverAnyTriangles(t *testing.T) {
	q := sequence(3)
	for range 3000 {
		var p [3]api.Point
		span := []int{64, 500, 4096}[q.below(3)]
		for k := range p {
			p[k] = at(q.below(span)-span/2, q.below(span)-span/2)
			if span == 500 {
				p[k] = at(q.below(63)*8-64, q.below(63)*8-64)
			}
		}
		s := triangle(p[0], p[1], p[2])
		for k := range api.MaxSide * api.MaxSide {
			x, y := k%api.MaxSide, k/api.MaxSide
			if got, want := covered(t, s, x, y), nudged(s, x, y); got != want {
				t.Fatalf("P3: Cover(%v, %d, %d) = %v, want %v", s, x, y, got, want)
			}
		}
	}
}

// Triangles round one point, edge at edge, cover each pixel exactly once.
func TestCoverFan(t *testing.T) {
	ring := []api.Point{at(-2048, -2048), at(200, -2048), at(2047, -2048), at(2047, 200), at(2047, 2047), at(56, 2047), at(-2048, 2047), at(-2048, 56)}
	for _, hub := range []api.Point{at(200, 200), at(56, 56), at(8, 8), at(376, 376), at(192, 13)} {
		for k := range api.MaxSide * api.MaxSide {
			x, y := k%api.MaxSide, k/api.MaxSide
			times := 0
			for i := range ring {
				if covered(t, triangle(hub, ring[i], ring[(i+1)%len(ring)]), x, y) {
					times++
				}
			}
			if times != 1 {
				t.Errorf("P3: the fan round %v covers (%d, %d) %d times", hub, x, y, times)
			}
		}
	}
}

func TestCoverErrors(t *testing.T) {
	refused := func(s api.Triangle, x, y int) {
		t.Helper()
		if in, e := Cover(s, x, y); in || e != api.ErrArg {
			t.Errorf("P3: Cover(%v, %d, %d) = %v, %d, want ErrArg", s, x, y, in, e)
		}
	}
	all := triangle(at(-100, -100), at(1500, -100), at(-100, 1500))
	line := triangle(at(0, 0), at(0, 0), at(0, 0))
	for _, n := range []int{-1, api.MaxSide, api.MaxSide + 1, 255, 1 << 32, math.MaxInt, math.MinInt} {
		for _, s := range []api.Triangle{all, line} {
			refused(s, n, 0)
			refused(s, 0, n)
			refused(s, n, n)
		}
	}
	for _, n := range []int{-api.MaxCorner - 2, api.MaxCorner + 1, 65535, -1 << 32, 1 << 62, math.MaxInt, math.MinInt} {
		for k := range 6 {
			s := all
			*[]*int{&s.A.X, &s.A.Y, &s.B.X, &s.B.Y, &s.C.X, &s.C.Y}[k] = n
			refused(s, 0, 0)
			refused(s, -1, 0)
		}
	}
	for _, n := range []int{-api.MaxCorner - 1, api.MaxCorner} {
		for k := range 6 {
			s := all
			*[]*int{&s.A.X, &s.A.Y, &s.B.X, &s.B.Y, &s.C.X, &s.C.Y}[k] = n
			covered(t, s, 0, 0)
		}
	}
	for _, p := range []api.Point{at(0, 0), at(23, 0), at(0, 23), at(23, 23)} {
		if !covered(t, all, p.X, p.Y) {
			t.Errorf("P3: %v does not cover %v", all, p)
		}
	}
}
