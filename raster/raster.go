// Package raster tells which pixels a triangle covers.
package raster

import "tenants/api"

// edge is a side of a triangle: its two ends, and the corner that is not on it.
type edge struct {
	from, to, third api.Point
}

// Cover tells whether a triangle covers a pixel (P3).
func Cover(t api.Triangle, x int, y int) (bool, api.Errno) {
	corners := [3]api.Point{t.A, t.B, t.C}
	for _, corner := range corners {
		if !inReach(corner) {
			return false, api.ErrArg
		}
	}
	if x < 0 || x >= api.MaxSide || y < 0 || y >= api.MaxSide {
		return false, api.ErrArg
	}
	p := centre(x, y)
	return holds(corners, p), api.OK
}

func inReach(p api.Point) bool {
	if p.X < -api.MaxCorner-1 || p.X > api.MaxCorner {
		return false
	}
	return p.Y >= -api.MaxCorner-1 && p.Y <= api.MaxCorner
}

func centre(x int, y int) api.Point {
	return api.Point{X: api.Scale*x + api.Scale/2, Y: api.Scale*y + api.Scale/2}
}

// holds tells whether a triangle holds a point. A point on the line of an edge
// but not on the edge itself is outside of another edge, so that lines do here.
func holds(corners [3]api.Point, p api.Point) bool {
	if side(corners[0], corners[1], corners[2]) == 0 {
		return false
	}
	for k := 0; k < 3; k++ {
		e := edge{from: corners[k], to: corners[(k+1)%3], third: corners[(k+2)%3]}
		if !e.admits(p) {
			return false
		}
	}
	return true
}

// admits tells whether a point lies on the third corner's side of the edge's
// line, or on the line of an edge whose points belong to the triangle.
func (e edge) admits(p api.Point) bool {
	here := side(e.from, e.to, p)
	if here == 0 {
		return e.ownsBorder()
	}
	inner := side(e.from, e.to, e.third)
	return (here > 0) == (inner > 0)
}

// ownsBorder tells whether the edge is a left or a top one.
func (e edge) ownsBorder() bool {
	if e.from.Y == e.to.Y {
		return e.third.Y > e.from.Y
	}
	inner := side(e.from, e.to, e.third)
	// Seen along an edge that goes up, the greater side is the right one.
	if e.to.Y < e.from.Y {
		return inner > 0
	}
	return inner < 0
}

// side is 0 for a point on the line through two others, and else has one sign
// on one side of the line and the other sign on the other. Corners in reach and
// centres are small enough for it never to overflow.
func side(from api.Point, to api.Point, p api.Point) int {
	return (to.X-from.X)*(p.Y-from.Y) - (to.Y-from.Y)*(p.X-from.X)
}
