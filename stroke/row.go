package stroke

import (
	"cmp"
	"slices"
	"sort"

	"celluloid/api"
	"celluloid/fix"
)

// open tells for each column one at which to look for the first free one from there on: itself, if it is free. Behind the last column stands one that always is.
type open []int

// rows are the lines of samples, row by row, by pieces of which those of greater Lines come first.
func rows(l []Piece, columns int, count int) []int {
	owners := make([]int, columns*count)
	free := make(open, columns+1)
	for k := range count {
		free.all()
		row(owners[columns*k:columns*(k+1)], free, l, step*k+ahead)
	}
	return owners
}

// greatestFirst is a list of the same pieces, by falling Lines.
func greatestFirst(l []Piece) []Piece {
	l = slices.Clone(l)
	slices.SortStableFunc(l, func(p Piece, q Piece) int { return cmp.Compare(q.Line, p.Line) })
	return l
}

// row tells the lines of one row's samples: each is the first one's that takes it, so that many pieces over one another cost little more than one.
func row(owners []int, free open, l []Piece, y int) {
	for _, p := range l {
		if free.next(0) == len(owners) {
			return
		}
		if !reaches(p, y) {
			continue
		}
		first, end := span(p, y, len(owners))
		for i := free.next(first); i < end; i = free.next(i) {
			owners[i] = p.Line
			free[i] = i + 1
		}
	}
}

func (free open) all() {
	for i := range free {
		free[i] = i
	}
}

// next is the first free column from i on.
func (free open) next(i int) int {
	for free[i] != i {
		// What looks here again has half as far to go.
		free[i] = free[free[i]]
		i = free[i]
	}
	return i
}

// reaches: can a sample of a row be near a piece?
func reaches(p Piece, y int) bool {
	return 2*(min(p.A.Y, p.B.Y)-y) <= p.Width && 2*(y-max(p.A.Y, p.B.Y)) <= p.Width
}

// span tells the first column of a row whose sample is near a piece, and the one behind the last. There is none between that is not, as what is near a piece has no dents.
func span(p Piece, y int, columns int) (int, int) {
	isNear := func(i int) bool { return near(p, api.Point{X: step*i + ahead, Y: y}) }
	// From here on to either side it is only farther and farther.
	middle := min(max(0, behind(nearest(p, y))), columns)
	left := run(middle, func(n int) bool { return isNear(middle - 1 - n) })
	right := run(columns-middle, func(n int) bool { return isNear(middle + n) })
	return middle - left, middle + right
}

// nearest is the x, or the floor of it, at which a row comes nearest to a piece: where they meet, or else the x of the end nearer to the row.
func nearest(p Piece, y int) int {
	top, bottom := p.A, p.B
	if top.Y > bottom.Y {
		top, bottom = bottom, top
	}
	switch {
	case y < top.Y:
		return top.X
	case y > bottom.Y:
		return bottom.X
	}
	// A level piece meets no row, as ends are even and samples odd: this is never divided by 0.
	floor, _ := fix.Floor((y-top.Y)*(bottom.X-top.X), bottom.Y-top.Y)
	return top.X + floor
}

// behind is the column of the first sample that lies behind x; it may lie beside the frame.
func behind(x int) int {
	floor, _ := fix.Floor(x-ahead, step)
	return floor + 1
}

// run is how many of so many columns are near, from the first one on till one is not. It asks for few of them: by longer and longer steps, and then between the last two.
func run(most int, isNear func(int) bool) int {
	low, length := 0, 1
	for low+length <= most && isNear(low+length-1) {
		low += length
		length *= 2
	}
	high := min(low+length-1, most)
	return low + sort.Search(high-low, func(n int) bool { return !isNear(low + n) })
}
