package curve_test

import (
	"math/big"
	"testing"

	"celluloid/api"
	"celluloid/curve"
)

// within: does n lie where the parts a, b and c lie?
func within(n int, a int, b int, c int) bool {
	return n >= min(a, b, c) && n <= max(a, b, c)
}

// P16.2: the last point is c; the points are even, and lie where the parts of a, b and c lie.
func TestWhereThePointsLie(t *testing.T) {
	d := dice(1605)
	for range 20000 {
		l := d.curve(1 << (1 + d.roll(24)))
		a, b, c := l[0], l[1], l[2]
		flat := curve.Flat(a, b, c)
		if len(flat) == 0 || flat[len(flat)-1] != c {
			t.Fatalf("Flat(%v, %v, %v) = %v, want one that ends with c", a, b, c, flat)
		}
		for _, p := range flat {
			if !within(p.X, a.X, b.X, c.X) || !within(p.Y, a.Y, b.Y, c.Y) || !curve.Even(p) {
				t.Errorf("Flat(%v, %v, %v): %v", a, b, c, p)
			}
		}
	}
}

// P16.2: a straight curve, whose b is the middle of a and c, is one piece.
func TestStraight(t *testing.T) {
	d := dice(1607)
	for range 5000 {
		b := api.Point{X: d.even(1 << 20), Y: d.even(1 << 20)}
		x, y := d.even(1<<d.roll(24)), d.even(1<<d.roll(24))
		if !curve.Even(api.Point{X: b.X + x, Y: b.Y + y}) || !curve.Even(api.Point{X: b.X - x, Y: b.Y - y}) {
			continue
		}
		a, c := api.Point{X: b.X - x, Y: b.Y - y}, api.Point{X: b.X + x, Y: b.Y + y}
		expectBend(t, a, b, c, 0, 1)
		expectFlat(t, a, b, c, []api.Point{c})
	}
}

// expectNear asks for one part's points to be near a curve, and for the curve to be near the pieces between them.
func expectNear(t *testing.T, a int, b int, c int, l []int) {
	t.Helper()
	from := ratio(a, 1)
	for i, n := range l {
		to := ratio(n, 1)
		if off(to, lies(a, b, c, ratio(i+1, len(l)))).Cmp(ratio(1, 1)) > 0 {
			t.Errorf("%d by %d to %d: point %d is %d", a, b, c, i+1, n)
		}
		for part := range 8 {
			there := lies(a, b, c, ratio(8*i+part, 8*len(l)))
			if off(there, on(from, to, ratio(part, 8))).Cmp(ratio(3, 1)) > 0 {
				t.Errorf("%d by %d to %d: piece %d to %d is not near", a, b, c, i+1, n)
			}
		}
		from = to
	}
}

// parts are those of points, part by part.
func parts(l []api.Point) (x []int, y []int) {
	for _, p := range l {
		x, y = append(x, p.X), append(y, p.Y)
	}
	return x, y
}

// P16.2: where a curve bends at most 8,192, each point is at most one unit, in each part, beside it, and it at most three beside the pieces.
func TestNear(t *testing.T) {
	t.Parallel()
	d := dice(1609)
	seen := 0
	for range 1500 {
		l := d.curve(1 << (1 + d.roll(13)))
		a, b, c := l[0], l[1], l[2]
		if curve.Bend(a, b, c) > 8192 {
			continue
		}
		seen++
		x, y := parts(curve.Flat(a, b, c))
		expectNear(t, a.X, b.X, c.X, x)
		expectNear(t, a.Y, b.Y, c.Y, y)
	}
	if seen < 1000 {
		t.Errorf("%d curves", seen)
	}
}

// P16.2: the same, where a curve bends as far as its number of pieces lets it.
func TestNearAtTheMost(t *testing.T) {
	for _, d := range []int{8, 32, 128, 512, 2048, 8192} {
		for shift := -16; shift <= 16; shift += 2 {
			for _, l := range [][3]int{{0, 0, d}, {d, 0, 0}, {0, d / 2, 0}, {0, -d / 2, 0}, {0, 0, -d}, {d / 2, 0, d / 2}} {
				a, b, c := l[0]+shift, l[1]+shift, l[2]+shift
				x, y := parts(curve.Flat(api.Point{X: a}, api.Point{X: b}, api.Point{X: c}))
				expectNear(t, a, b, c, x)
				expectNear(t, 0, 0, 0, y)
			}
		}
	}
}

// P16.2: the points go with the curve, where it is placed elsewhere by even units.
func TestElsewhere(t *testing.T) {
	d := dice(1611)
	for range 3000 {
		l := d.curve(1 << (1 + d.roll(13)))
		x, y := d.even(1<<14), d.even(1<<14)
		var far [3]api.Point
		for i, p := range l {
			far[i] = api.Point{X: p.X + x, Y: p.Y + y}
		}
		if !wordsEven(far[:]...) {
			continue
		}
		want := curve.Flat(l[0], l[1], l[2])
		for i := range want {
			want[i] = api.Point{X: want[i].X + x, Y: want[i].Y + y}
		}
		expectFlat(t, far[0], far[1], far[2], want)
	}
}

// The words of the tests themselves: what lies on a curve is the chapter's sum.
func TestWordsAreTheSum(t *testing.T) {
	for i := range 17 {
		sum := ratio(-6*(16-i)*(16-i)+2*50*i*(16-i)+20*i*i, 16*16)
		if off(sum, lies(-6, 50, 20, ratio(i, 16))).Cmp(new(big.Rat)) != 0 {
			t.Errorf("%d of 16: %v", i, sum)
		}
	}
}
