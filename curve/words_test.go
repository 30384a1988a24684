package curve_test

import (
	"math"
	"math/big"

	"celluloid/api"
)

// The chapter's words once more, in fractions of any size, and with nothing of this layer: what the tests hold the layer against. A curve's points are told as those that lie on it, halfway between halfway points, and not by the chapter's sum.

// Numbers that nothing holds.
const (
	most  = math.MaxInt64
	least = math.MinInt64
)

// ratio is a fraction as it is.
func ratio(a int, b int) *big.Rat { return big.NewRat(int64(a), int64(b)) }

// on is so much of the way from a to b.
func on(a *big.Rat, b *big.Rat, way *big.Rat) *big.Rat {
	far := new(big.Rat).Sub(b, a)
	return far.Add(a, far.Mul(far, way))
}

// off is how far a and b are from one another.
func off(a *big.Rat, b *big.Rat) *big.Rat {
	far := new(big.Rat).Sub(a, b)
	return far.Abs(far)
}

// lies is one part of a curve, so much of its way on.
func lies(a int, b int, c int, way *big.Rat) *big.Rat {
	by := ratio(b, 1)
	return on(on(ratio(a, 1), by, way), on(by, ratio(c, 1), way), way)
}

// nearestEven is the even number that is the nearest one, of two the greater one.
func nearestEven(a *big.Rat) int {
	half := new(big.Rat).Add(new(big.Rat).Mul(a, ratio(1, 2)), ratio(1, 2))
	// A fraction's divisor is never below 0: this is the floor.
	floor := new(big.Int).Div(half.Num(), half.Denom())
	return 2 * int(floor.Int64())
}

func wordsEvenPart(n int) bool {
	return n >= -16777216 && n <= 16777216 && n/2*2 == n
}

func wordsEven(l ...api.Point) bool {
	for _, p := range l {
		if !wordsEvenPart(p.X) || !wordsEvenPart(p.Y) {
			return false
		}
	}
	return true
}

// wordsBendPart: how far the control point is from the middle, doubled.
func wordsBendPart(a int, b int, c int) int {
	bend := off(ratio(2*b, 1), ratio(a+c, 1))
	return int(bend.Num().Int64())
}

func wordsBend(a api.Point, b api.Point, c api.Point) int {
	if !wordsEven(a, b, c) {
		return 0
	}
	return max(wordsBendPart(a.X, b.X, c.X), wordsBendPart(a.Y, b.Y, c.Y))
}

func wordsPieces(a api.Point, b api.Point, c api.Point) int {
	if !wordsEven(a, b, c) {
		return 0
	}
	for _, x := range []struct{ bend, pieces int }{{8, 1}, {32, 2}, {128, 4}, {512, 8}, {2048, 16}} {
		if wordsBend(a, b, c) <= x.bend {
			return x.pieces
		}
	}
	return 32
}

func wordsFlat(a api.Point, b api.Point, c api.Point) []api.Point {
	n := wordsPieces(a, b, c)
	l := make([]api.Point, n)
	for i := range l {
		way := ratio(i+1, n)
		l[i] = api.Point{X: nearestEven(lies(a.X, b.X, c.X, way)), Y: nearestEven(lies(a.Y, b.Y, c.Y, way))}
	}
	return l
}
