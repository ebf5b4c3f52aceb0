// Package raster tells which pixels a triangle covers.
package raster

import "tenants/api"

// edge is a side of a triangle: its two ends, and the corner that is not on it.
type edge struct {
	from, to, third api.Point
}

// Cover tells whether a triangle covers a pixel (P3).
func Cover(t api.Triangle, x int, y int) (bool, api.Errno) {
	if !InReach(t) {
		return false, api.ErrArg
	}
	if x < 0 || x >= api.MaxSide || y < 0 || y >= api.MaxSide {
		return false, api.ErrArg
	}
	p := centre(x, y)
	return holds(t, p), api.OK
}

// InReach tells whether no corner of a triangle is too far away.
func InReach(t api.Triangle) bool {
	coordinates := [6]int{t.A.X, t.A.Y, t.B.X, t.B.Y, t.C.X, t.C.Y}
	for _, coordinate := range coordinates {
		if coordinate < -api.MaxCorner-1 || coordinate > api.MaxCorner {
			return false
		}
	}
	return true
}

func centre(x int, y int) api.Point {
	return api.Point{X: api.Scale*x + api.Scale/2, Y: api.Scale*y + api.Scale/2}
}

// holds tells whether a triangle holds a point. A point on the line of an edge
// but not on the edge itself is outside of another edge, so that lines do here.
func holds(t api.Triangle, p api.Point) bool {
	if side(t.A, t.B, t.C) == 0 {
		return false
	}
	corners := [3]api.Point{t.A, t.B, t.C}
	for k := 0; k < 3; k++ {
		e := edge{from: corners[k], to: corners[(k+1)%3], third: corners[(k+2)%3]}
		if !e.admits(p) {
			return false
		}
	}
	return true
}

// admits tells whether a point lies on the third corner's side of the edge's
// line, or on the line of an edge whose points belong to the triangle.
func (e edge) admits(p api.Point) bool {
	here := side(e.from, e.to, p)
	if here == 0 {
		return e.ownsBorder()
	}
	inner := side(e.from, e.to, e.third)
	return (here > 0) == (inner > 0)
}

// ownsBorder tells whether the edge is a left or a top one.
func (e edge) ownsBorder() bool {
	if e.from.Y == e.to.Y {
		return e.third.Y > e.from.Y
	}
	inner := side(e.from, e.to, e.third)
	// Seen along an edge that goes up, the greater side is the right one.
	if e.to.Y < e.from.Y {
		return inner > 0
	}
	return inner < 0
}

// side is 0 for a point on the line through two others, and else has one sign
// on one side of the line and the other sign on the other. Corners in reach and
// centres are small enough for it never to overflow.
func side(from api.Point, to api.Point, p api.Point) int {
	return (to.X-from.X)*(p.Y-from.Y) - (to.Y-from.Y)*(p.X-from.X)
}
