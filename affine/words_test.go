package affine_test

import (
	"math"
	"math/big"

	"celluloid/api"
)

// The chapter's words once more, in fractions of any size, and with nothing of this layer: what the tests hold the layer against.

// Numbers that nothing holds.
const (
	most  = math.MaxInt64
	least = math.MinInt64
)

// ratio is a fraction as it is.
func ratio(a int, b int) *big.Rat { return big.NewRat(int64(a), int64(b)) }

func plus(a *big.Rat, b *big.Rat) *big.Rat { return new(big.Rat).Add(a, b) }

func less(a *big.Rat, b *big.Rat) *big.Rat { return new(big.Rat).Sub(a, b) }

func times(a *big.Rat, b *big.Rat) *big.Rat { return new(big.Rat).Mul(a, b) }

func over(a *big.Rat, b *big.Rat) *big.Rat { return new(big.Rat).Quo(a, b) }

// lowest is the greatest whole number that is not above a; a fraction's divisor is never below 0.
func lowest(a *big.Rat) *big.Int {
	return new(big.Int).Div(a.Num(), a.Denom())
}

// number is a whole number as the layer tells it; all of them must fit.
func number(n *big.Int) int {
	if !n.IsInt64() {
		panic("what the words tell is no number of 64 bits")
	}
	return int(n.Int64())
}

func floor(a *big.Rat) int { return number(lowest(a)) }

func between(low int, high int, l ...int) bool {
	for _, v := range l {
		if v < low || v > high {
			return false
		}
	}
	return true
}

func wordsRightMatrix(m api.Matrix) bool {
	return between(-4194304, 4194304, m.A, m.B, m.C, m.D) && between(-1048576, 1048576, m.X, m.Y)
}

func wordsRightCx(c api.Cx) bool {
	return between(-512, 512, c.Mul[:]...) && between(-255, 255, c.Add[:]...)
}

func wordsRightRGBA(k api.RGBA) bool {
	return between(0, 255, k.R, k.G, k.B, k.A)
}

// parts are a matrix as fractions: a point (x, y) goes to (a x + c y + e, b x + d y + f).
type parts struct {
	a, b, c, d, e, f *big.Rat
}

func partsOf(m api.Matrix) parts {
	return parts{ratio(m.A, 65536), ratio(m.B, 65536), ratio(m.C, 65536), ratio(m.D, 65536), ratio(m.X, 1), ratio(m.Y, 1)}
}

// turned: where (x, y) goes without e and f.
func (m parts) turned(x *big.Rat, y *big.Rat) (*big.Rat, *big.Rat) {
	return plus(times(m.a, x), times(m.c, y)), plus(times(m.b, x), times(m.d, y))
}

// gone: where (x, y) goes.
func (m parts) gone(x *big.Rat, y *big.Rat) (*big.Rat, *big.Rat) {
	x, y = m.turned(x, y)
	return plus(x, m.e), plus(y, m.f)
}

func sixteen(a *big.Rat) int { return floor(times(a, ratio(65536, 1))) }

func wordsCompose(outer api.Matrix, inner api.Matrix) (api.Matrix, api.Errno) {
	if !wordsRightMatrix(outer) || !wordsRightMatrix(inner) {
		return api.Matrix{}, 1
	}
	o, i := partsOf(outer), partsOf(inner)
	a, b := o.turned(i.a, i.b)
	c, d := o.turned(i.c, i.d)
	x, y := o.turned(i.e, i.f)
	m := api.Matrix{A: sixteen(a), B: sixteen(b), C: sixteen(c), D: sixteen(d), X: floor(x) + outer.X, Y: floor(y) + outer.Y}
	if !wordsRightMatrix(m) {
		return api.Matrix{}, 8
	}
	return m, 0
}

// wordsGone: where a point goes, in twips as they are.
func wordsGone(m api.Matrix, p api.Point) (*big.Rat, *big.Rat, api.Errno) {
	if !wordsRightMatrix(m) || !between(-1073741824, 1073741824, p.X, p.Y) {
		return nil, nil, 1
	}
	x, y := partsOf(m).gone(ratio(p.X, 1), ratio(p.Y, 1))
	return x, y, 0
}

func wordsApply(m api.Matrix, p api.Point) (api.Point, api.Errno) {
	x, y, e := wordsGone(m, p)
	if e != 0 {
		return api.Point{}, e
	}
	return api.Point{X: sixteen(x), Y: sixteen(y)}, 0
}

// wordsUnits is the nearest even number of units, of two the greater one: units are 64 to a pixel, twips 20.
func wordsUnits(twips *big.Rat) int {
	return 2 * floor(plus(times(twips, ratio(64, 2*20)), ratio(1, 2)))
}

func wordsGrid(m api.Matrix, p api.Point) (api.Point, api.Errno) {
	x, y, e := wordsGone(m, p)
	if e != 0 {
		return api.Point{}, e
	}
	q := api.Point{X: wordsUnits(x), Y: wordsUnits(y)}
	if !between(-16777216, 16777216, q.X, q.Y) {
		return api.Point{}, 8
	}
	return q, 0
}

// wordsBack goes another way than the layer: it takes y out of a pair of equations, and x then.
func wordsBack(m api.Matrix, p api.Point) (api.Point, bool) {
	if !wordsRightMatrix(m) || !between(-16777216, 16777216, p.X, p.Y) {
		return api.Point{}, false
	}
	g := partsOf(m)
	// a x + c y = u, b x + d y = v, with the one first whose factor of x is not 0.
	u, v := less(ratio(20*p.X, 64), g.e), less(ratio(20*p.Y, 64), g.f)
	if g.a.Sign() == 0 {
		g.a, g.b, g.c, g.d, u, v = g.b, g.a, g.d, g.c, v, u
	}
	if g.a.Sign() == 0 {
		return api.Point{}, false
	}
	share := over(g.b, g.a)
	d := less(g.d, times(share, g.c))
	if d.Sign() == 0 {
		return api.Point{}, false
	}
	y := over(less(v, times(share, u)), d)
	x := over(less(u, times(g.c, y)), g.a)
	return api.Point{X: floor(x), Y: floor(y)}, true
}

func wordsScale(m api.Matrix) int {
	if !wordsRightMatrix(m) {
		return 0
	}
	g := partsOf(m)
	d := less(times(g.a, g.d), times(g.b, g.c))
	great := lowest(times(d.Abs(d), ratio(1<<32, 1)))
	return number(great.Sqrt(great))
}

// ends brings v to the end that it is beyond.
func ends(low int, high int, v int) int {
	if v < low {
		return low
	}
	if v > high {
		return high
	}
	return v
}

func wordsComposeCx(outer api.Cx, inner api.Cx) api.Cx {
	var c api.Cx
	if !wordsRightCx(outer) || !wordsRightCx(inner) {
		return c
	}
	for i := range 4 {
		mul := ratio(outer.Mul[i], 256)
		c.Mul[i] = ends(-512, 512, floor(times(mul, ratio(inner.Mul[i], 1))))
		c.Add[i] = ends(-255, 255, floor(times(mul, ratio(inner.Add[i], 1)))+outer.Add[i])
	}
	return c
}

func wordsColor(c api.Cx, k api.RGBA) api.RGBA {
	if !wordsRightCx(c) || !wordsRightRGBA(k) {
		return api.RGBA{}
	}
	l := [4]int{k.R, k.G, k.B, k.A}
	for i := range 4 {
		l[i] = ends(0, 255, floor(times(ratio(l[i], 1), ratio(c.Mul[i], 256)))+c.Add[i])
	}
	return api.RGBA{R: l[0], G: l[1], B: l[2], A: l[3]}
}
