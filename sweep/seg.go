package sweep

import (
	"celluloid/curve"
	"celluloid/fix"
)

func rightEnds(s Seg) bool {
	return curve.Even(s.A) && curve.Even(s.B)
}

func isStyle(n int) bool {
	return n >= 0 && n <= mostStyle
}

// isSample: may a sample lie so far from 0?
func isSample(n int) bool {
	return n >= -farthest && n <= farthest && n%2 != 0
}

func allRight(l []Seg) bool {
	for _, s := range l {
		if !RightSeg(s) {
			return false
		}
	}
	return true
}

// down is a segment as one that does not go up: turned about, its sides changed, it winds the same.
func down(s Seg) Seg {
	if s.A.Y > s.B.Y {
		return Seg{A: s.B, B: s.A, Left: s.Right, Right: s.Left}
	}
	return s
}

func allDown(l []Seg) []Seg {
	var turned []Seg
	for _, s := range l {
		turned = append(turned, down(s))
	}
	return turned
}

// winds is how often a segment that goes down winds a sample by a style.
func winds(s Seg, style int, x int, y int) int {
	times := 0
	if !crosses(s, y) || !isLeft(s, x, y) {
		return times
	}
	if s.Left == style {
		times++
	}
	if s.Right == style {
		times--
	}
	return times
}

// crosses: does a segment that goes down cross a row?
func crosses(s Seg, y int) bool {
	return s.A.Y < y && y < s.B.Y
}

// isLeft: is a segment that goes down and crosses a sample's row left of the sample?
func isLeft(s Seg, x int, y int) bool {
	// Held against each other as products, places on a slope need no rounding.
	return fix.Compare(y-s.A.Y, s.B.X-s.A.X, x-s.A.X, s.B.Y-s.A.Y) <= 0
}

// column is that of a frame's first sample, of a row that a segment crosses, which the segment is left of; it may lie behind the frame.
func column(s Seg, y int) int {
	deep := s.B.Y - s.A.Y
	// How far the frame's first sample is from where the segment meets the row, in parts of its depth.
	back := (ahead-s.A.X)*deep - (y-s.A.Y)*(s.B.X-s.A.X)
	// With its sign changed the floor is a ceiling: the column of the first sample at no lesser x. It is always a number, as what crosses a row is not level.
	floor, _ := fix.Floor(back, step*deep)
	return max(0, -floor)
}
