package affine_test

import (
	"math/big"
	"testing"

	"celluloid/affine"
	"celluloid/api"
	"celluloid/field"
)

// P14.2: by hand: 16 units are five twips.
func TestBackByHand(t *testing.T) {
	const one = 65536
	for _, c := range []struct {
		m       api.Matrix
		p, want api.Point
	}{
		{field.Same(), api.Point{}, api.Point{}},
		{field.Same(), api.Point{X: 16, Y: -16}, api.Point{X: 5, Y: -5}},
		{api.Matrix{A: 2 * one, D: 5 * one}, api.Point{X: 64, Y: 64}, api.Point{X: 10, Y: 4}},
		{api.Matrix{A: 2 * one, D: 5 * one, X: 10, Y: -5}, api.Point{X: 64, Y: 64}, api.Point{X: 5, Y: 5}},
		{api.Matrix{A: one, D: one, X: 3, Y: 7}, api.Point{}, api.Point{X: -3, Y: -7}},
		// By (x, y) goes to (-y, x).
		{api.Matrix{B: one, C: -one}, api.Point{X: 16, Y: 32}, api.Point{X: 10, Y: -5}},
		// By (x, y) goes to (2 y, 5 x): d is below 0.
		{api.Matrix{B: 5 * one, C: 2 * one}, api.Point{X: 64, Y: 32}, api.Point{X: 2, Y: 10}},
		// By (x, y) goes to (x + y, y), and to (x, x + y).
		{api.Matrix{A: one, C: one, D: one}, api.Point{X: 64, Y: 16}, api.Point{X: 15, Y: 5}},
		{api.Matrix{A: one, B: one, D: one}, api.Point{X: 64, Y: 16}, api.Point{X: 20, Y: -15}},
		// By (x, y) goes to (2 x + 3 y + 1, 5 x + 7 y + 2): d is -1.
		{api.Matrix{A: 2 * one, B: 5 * one, C: 3 * one, D: 7 * one, X: 1, Y: 2}, api.Point{X: 64, Y: 64}, api.Point{X: -79, Y: 59}},
	} {
		expectBack(t, c.m, c.p, c.want, true)
	}
}

// P14.2: floors of what is not whole, with either sign of d, and of the point.
func TestBackFloors(t *testing.T) {
	const one = 65536
	for _, c := range []struct{ turn, units, want int }{
		{one, 1, 0}, {one, 3, 0}, {one, 4, 1}, {one, 6, 1}, {one, 7, 2}, {one, 15, 4}, {one, 16, 5},
		{one, -1, -1}, {one, -3, -1}, {one, -4, -2}, {one, -15, -5}, {one, -16, -5}, {one, -17, -6},
		{-one, 1, -1}, {-one, 3, -1}, {-one, 4, -2}, {-one, 15, -5}, {-one, 16, -5}, {-one, 17, -6},
		{-one, -1, 0}, {-one, -3, 0}, {-one, -4, 1}, {-one, -15, 4}, {-one, -16, 5}, {-one, -17, 5},
		{3 * one, 16, 1}, {3 * one, -16, -2}, {-3 * one, 16, -2}, {-3 * one, -16, 1},
		{5 * one, 16, 1}, {5 * one, -16, -1}, {-5 * one, 16, -1}, {-5 * one, -16, 1},
		{1, 16, 5 * one}, {-1, 16, -5 * one},
	} {
		// The other part keeps its sign, so that d takes that of the turn; then it takes the other one.
		for _, sign := range []int{1, -1} {
			expectBack(t, api.Matrix{A: c.turn, D: sign * one}, api.Point{X: c.units, Y: sign * 16}, api.Point{X: c.want, Y: 5}, true)
			expectBack(t, api.Matrix{A: sign * one, D: c.turn}, api.Point{X: sign * 16, Y: c.units}, api.Point{X: 5, Y: c.want}, true)
			expectBack(t, api.Matrix{B: sign * one, C: c.turn}, api.Point{X: c.units, Y: sign * 16}, api.Point{X: 5, Y: c.want}, true)
			expectBack(t, api.Matrix{B: c.turn, C: sign * one}, api.Point{X: sign * 16, Y: c.units}, api.Point{X: c.want, Y: 5}, true)
		}
	}
}

// P14.2: false, if d is 0.
func TestBackOfWhatIsFlat(t *testing.T) {
	for _, m := range []api.Matrix{
		{}, {X: 5, Y: 6}, {A: 65536}, {B: 65536}, {C: 65536}, {D: 65536},
		{A: 65536, B: 65536}, {C: 65536, D: 65536}, {A: 65536, C: 65536}, {B: 65536, D: 65536},
		{A: 6, B: 3, C: 4, D: 2, X: 1}, {A: -6, B: 3, C: 4, D: -2}, {A: 1 << 22, B: 1 << 22, C: 1 << 22, D: 1 << 22},
		{A: 1 << 22, B: -1 << 22, C: -1 << 22, D: 1 << 22},
	} {
		for _, p := range sides(1 << 24) {
			expectBack(t, m, p, api.Point{}, false)
		}
	}
}

// P14.2: a d of 1, and of -1, in numbers of 32 bits behind the point: what is told may be very far.
func TestBackOfTheLeastSize(t *testing.T) {
	const far, twips = 1 << 24, 5 << 20
	expectBack(t, api.Matrix{A: 1, D: 1}, api.Point{X: far, Y: -far}, api.Point{X: twips << 16, Y: -twips << 16}, true)
	expectBack(t, api.Matrix{A: 1, D: -1}, api.Point{X: far, Y: -far}, api.Point{X: twips << 16, Y: twips << 16}, true)
	expectBack(t, api.Matrix{A: 1 << 11, B: 1, C: 1<<22 - 1, D: 1 << 11}, api.Point{X: 16, Y: 16},
		api.Point{X: (1<<11 - 1<<22 + 1) * 5 << 16, Y: (1<<11 - 1) * 5 << 16}, true)
	expectBack(t, api.Matrix{A: 1<<22 - 1, B: 1<<22 - 2, C: 1 << 22, D: 1<<22 - 1, X: -1 << 20, Y: 1 << 20}, api.Point{X: far, Y: -far},
		api.Point{X: (1<<23 - 1) * 6 << 36, Y: -(1<<23 - 3) * 6 << 36}, true)
}

// P14.2: points at the ends, and one beyond each.
func TestBackAtTheBounds(t *testing.T) {
	const far, twips = 1 << 24, 5 << 20
	m := field.Same()
	expectBack(t, m, api.Point{X: far, Y: -far}, api.Point{X: twips, Y: -twips}, true)
	expectBack(t, m, api.Point{X: -far, Y: far}, api.Point{X: -twips, Y: twips}, true)
	expectBack(t, m, api.Point{X: far - 1, Y: 1 - far}, api.Point{X: twips - 1, Y: 1 - twips - 1}, true)
	for _, v := range []int{far + 1, -far - 1, most, least, 1 << 32, -1 << 32, 1 << 50} {
		for _, p := range []api.Point{{X: v}, {Y: v}, {X: v, Y: far}, {X: -far, Y: v}, {X: v, Y: v}} {
			expectBack(t, m, p, api.Point{}, false)
		}
	}
}

// P14.2: as the words say, at the ends of what is right, beyond them and anywhere.
func TestBackAsTheWordsSay(t *testing.T) {
	check := func(m api.Matrix, p api.Point) {
		want, ok := wordsBack(m, p)
		expectBack(t, m, p, want, ok)
	}
	for _, m := range append(edges(), wrong()...) {
		for _, p := range sides(1 << 24) {
			check(m, p)
		}
	}
	d := dice(21)
	for range 5000 {
		check(d.matrix(), d.point(1<<24))
		check(d.mild(), d.point(1<<14))
	}
}

// expectNear holds a part of where Back's point goes to where it came from, which it is off by less than its two factors.
func expectNear(t *testing.T, m api.Matrix, gone int, units int, factors ...int) {
	t.Helper()
	off := new(big.Rat).Sub(ratio(gone, 65536), ratio(20*units, 64))
	most := new(big.Rat)
	for _, v := range factors {
		most.Add(most, new(big.Rat).Abs(ratio(v, 65536)))
	}
	if off.Abs(off).Cmp(most) >= 0 {
		t.Errorf("Apply(%+v, Back of %d units) = %d", m, units, gone)
	}
}

// P14.4: what Back tells goes, by Apply, to near where it came from: a twip, turned, is all that a floor leaves over.
func TestBackGoesToNear(t *testing.T) {
	d := dice(22)
	held := 0
	for i := range 20000 {
		m, p := d.matrix(), d.point(1<<24)
		if i%2 > 0 {
			m, p = d.mild(), d.point(1<<14)
		}
		from, ok := affine.Back(m, p)
		gone, e := affine.Apply(m, from)
		if !ok || e != api.OK {
			continue
		}
		held++
		expectNear(t, m, gone.X, p.X, m.A, m.C)
		expectNear(t, m, gone.Y, p.Y, m.B, m.D)
	}
	if held < 10000 {
		t.Errorf("only %d points were held", held)
	}
}

// P14.2, P14.4: points of whole twips that go to the grid come back as they are, where turns are whole.
func TestThereAndBack(t *testing.T) {
	d := dice(23)
	held := 0
	for range 20000 {
		m := api.Matrix{A: d.roll(9) - 4, B: d.roll(9) - 4, C: d.roll(9) - 4, D: d.roll(9) - 4}
		if m.A*m.D == m.B*m.C {
			continue
		}
		m = api.Matrix{A: m.A << 16, B: m.B << 16, C: m.C << 16, D: m.D << 16, X: 5 * (d.roll(9) - 4), Y: 5 * (d.roll(9) - 4)}
		p := api.Point{X: 5 * (d.roll(4001) - 2000), Y: 5 * (d.roll(4001) - 2000)}
		q, e := affine.Grid(m, p)
		if e != api.OK {
			t.Fatalf("Grid(%+v, %+v): error %d", m, p, e)
		}
		held++
		expectBack(t, m, q, p, true)
	}
	if held < 10000 {
		t.Errorf("only %d points were held", held)
	}
}
