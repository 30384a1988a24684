package stroke

import (
	"celluloid/api"
	"celluloid/fix"
)

// near: is a sample near a piece that is right? No product here is beyond 2^53, but those that fix holds against each other.
func near(p Piece, at api.Point) bool {
	way, from := away(p.A, p.B), away(p.A, at)
	// How far on the nearest point lies, in parts of the way: beyond an end the end is the nearest one.
	on, whole := along(way, from), along(way, way)
	switch {
	case on <= 0:
		return within(from, p.Width)
	case on >= whole:
		return within(away(p.B, at), p.Width)
	}
	// Between the ends, how far it is from the way is how great across is, divided by how long the way is: squared it needs no root.
	twice := 2 * across(way, from)
	return fix.Compare(twice, twice, p.Width*p.Width, whole) <= 0
}

// within: is the length of a way, twice, at most so great?
func within(way api.Point, width int) bool {
	return 4*along(way, way) <= width*width
}

// away is the way from one point to another.
func away(from api.Point, to api.Point) api.Point {
	return api.Point{X: to.X - from.X, Y: to.Y - from.Y}
}

// along is how far one way goes along another, times how long that is.
func along(a api.Point, b api.Point) int {
	return a.X*b.X + a.Y*b.Y
}

// across is how far one way goes aside from another, times how long that is; below 0 at one side.
func across(a api.Point, b api.Point) int {
	return a.X*b.Y - a.Y*b.X
}
