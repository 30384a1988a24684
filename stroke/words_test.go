package stroke_test

import (
	"math"
	"math/big"

	"celluloid/api"
	"celluloid/stroke"
)

// The chapter's words, written a second time and apart from the layer: what the tests hold the layer against. The nearest point of a piece is told in fractions here, and each sample is looked at by itself.

// Numbers that nothing holds.
const (
	most  = math.MaxInt64
	least = math.MinInt64
)

func ratio(n int) *big.Rat { return new(big.Rat).SetInt64(int64(n)) }

func sum(a *big.Rat, b *big.Rat) *big.Rat { return new(big.Rat).Add(a, b) }

func less(a *big.Rat, b *big.Rat) *big.Rat { return new(big.Rat).Sub(a, b) }

func times(a *big.Rat, b *big.Rat) *big.Rat { return new(big.Rat).Mul(a, b) }

func wordsFar(n int) bool { return n >= -16777216 && n <= 16777216 }

func wordsEnd(p api.Point) bool {
	return wordsFar(p.X) && wordsFar(p.Y) && p.X/2*2 == p.X && p.Y/2*2 == p.Y
}

func wordsSide(n int) bool { return 1 <= n && n <= 256 }

func wordsRight(p stroke.Piece) bool {
	return wordsEnd(p.A) && wordsEnd(p.B) && 1 <= p.Line && p.Line <= 255 && 1 <= p.Width && p.Width <= 1048576
}

func wordsAllRight(l []stroke.Piece) bool {
	for _, p := range l {
		if !wordsRight(p) {
			return false
		}
	}
	return true
}

// wordsNearest is the nearest point of a piece, as so much of its way: from 0 to 1.
func wordsNearest(p stroke.Piece, x int, y int) *big.Rat {
	dx, dy := ratio(p.B.X-p.A.X), ratio(p.B.Y-p.A.Y)
	square := sum(times(dx, dx), times(dy, dy))
	if square.Sign() == 0 {
		return square
	}
	part := sum(times(dx, ratio(x-p.A.X)), times(dy, ratio(y-p.A.Y)))
	part.Quo(part, square)
	switch {
	case part.Sign() < 0:
		return ratio(0)
	case part.Cmp(ratio(1)) > 0:
		return ratio(1)
	}
	return part
}

// wordsTwice is the square of how far, twice, a sample is from the nearest point of a piece.
func wordsTwice(p stroke.Piece, x int, y int) *big.Rat {
	part := wordsNearest(p, x, y)
	dx := less(sum(ratio(p.A.X), times(part, ratio(p.B.X-p.A.X))), ratio(x))
	dy := less(sum(ratio(p.A.Y), times(part, ratio(p.B.Y-p.A.Y))), ratio(y))
	return times(ratio(4), sum(times(dx, dx), times(dy, dy)))
}

func wordsNear(p stroke.Piece, x int, y int) bool {
	if !wordsRight(p) || !wordsFar(x) || !wordsFar(y) {
		return false
	}
	return wordsTwice(p, x, y).Cmp(ratio(p.Width*p.Width)) <= 0
}

// wordsLeast is the least width, of any size, by which a sample is near a piece.
func wordsLeast(p stroke.Piece, x int, y int) int {
	square := wordsTwice(p, x, y)
	width := int(new(big.Int).Sqrt(new(big.Int).Quo(square.Num(), square.Denom())).Int64())
	if ratio(width*width).Cmp(square) < 0 {
		width++
	}
	return width
}

func wordsOwners(l []stroke.Piece, w int, h int) ([]int, api.Errno) {
	if !wordsSide(w) || !wordsSide(h) || !wordsAllRight(l) {
		return nil, api.ErrArg
	}
	var owners []int
	for k := range 4 * h {
		for i := range 4 * w {
			owner := 0
			for _, p := range l {
				if p.Line > owner && wordsNear(p, 16*i+7, 16*k+7) {
					owner = p.Line
				}
			}
			owners = append(owners, owner)
		}
	}
	return owners, api.OK
}

func wordsTurn(n int) bool { return n >= -4194304 && n <= 4194304 }

func wordsShift(n int) bool { return n >= -1048576 && n <= 1048576 }

// wordsWidth is the floor of the quotient and one half, from 64 to 2^20 at the ends.
func wordsWidth(twips int, m api.Matrix) int {
	if twips < 0 || twips > 65535 || !wordsTurn(m.A) || !wordsTurn(m.B) || !wordsTurn(m.C) || !wordsTurn(m.D) || !wordsShift(m.X) || !wordsShift(m.Y) {
		return 0
	}
	size := less(times(ratio(m.A), ratio(m.D)), times(ratio(m.B), ratio(m.C)))
	scale := new(big.Int).Sqrt(new(big.Int).Abs(size.Num()))
	width := times(ratio(16*twips), new(big.Rat).SetInt(scale))
	width.Quo(width, ratio(5*65536))
	width = sum(width, big.NewRat(1, 2))
	n := new(big.Int).Quo(width.Num(), width.Denom())
	switch {
	case n.Cmp(big.NewInt(64)) < 0:
		return 64
	case n.Cmp(big.NewInt(1048576)) > 0:
		return 1048576
	}
	return int(n.Int64())
}
