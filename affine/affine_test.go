package affine_test

import (
	"fmt"
	"slices"
	"testing"

	"celluloid/affine"
	"celluloid/api"
	"celluloid/field"
)

// dice are numbers that are always the same ones.
type dice uint64

func (d *dice) roll(count int) int {
	x := uint64(*d)
	x ^= x << 13
	x ^= x >> 7
	x ^= x << 17
	*d = dice(x)
	return int(x>>11) % count
}

// about is a number from -highest to highest, of any size, often one of these.
func (d *dice) about(highest int) int {
	sign := d.roll(2)*2 - 1
	switch d.roll(8) {
	case 0:
		return sign * highest
	case 1, 2, 3:
		return sign * min(highest, 1<<d.roll(31)+d.roll(3)-1)
	}
	return sign * d.roll(highest+1)
}

// matrix is one that is right.
func (d *dice) matrix() api.Matrix {
	l := make([]int, 6)
	for i := range l {
		if d.roll(5) > 0 {
			l[i] = d.about(highest(i))
		}
	}
	return matrixOf(l)
}

// mild is one that is right and turns nothing to far away.
func (d *dice) mild() api.Matrix {
	return api.Matrix{A: d.about(1 << 17), B: d.about(1 << 17), C: d.about(1 << 17), D: d.about(1 << 17), X: d.about(1 << 16), Y: d.about(1 << 16)}
}

func (d *dice) point(highest int) api.Point {
	return api.Point{X: d.about(highest), Y: d.about(highest)}
}

// highest is how far number i of a matrix goes.
func highest(i int) int {
	if i < 4 {
		return 1 << 22
	}
	return 1 << 20
}

func matrixOf(l []int) api.Matrix {
	return api.Matrix{A: l[0], B: l[1], C: l[2], D: l[3], X: l[4], Y: l[5]}
}

func listOf(m api.Matrix) []int {
	return []int{m.A, m.B, m.C, m.D, m.X, m.Y}
}

// with is a matrix with another number i.
func with(m api.Matrix, i int, v int) api.Matrix {
	l := listOf(m)
	l[i] = v
	return matrixOf(l)
}

// edges are right matrices at, and beside, the ends of what is right.
func edges() []api.Matrix {
	l := []api.Matrix{{}, field.Same(), {B: 65536, C: -65536}, {A: -1, B: -1, C: -1, D: -1, X: -1, Y: -1}}
	for _, sign := range []int{-1, 1} {
		a, x := sign<<22, sign<<20
		l = append(l, api.Matrix{A: a, B: a, C: a, D: a, X: x, Y: x})
		l = append(l, api.Matrix{A: a, B: -a, C: a, D: a, X: x, Y: -x}, api.Matrix{A: a, D: a}, api.Matrix{B: a, C: a, X: -x})
		for i := range 6 {
			l = append(l, with(field.Same(), i, sign*highest(i)), with(field.Same(), i, sign*highest(i)-sign), with(api.Matrix{}, i, sign*highest(i)))
		}
	}
	return l
}

// wrong are matrices with one number beyond, each in turn, and with all of them.
func wrong() []api.Matrix {
	var l []api.Matrix
	for i := range 6 {
		for _, v := range []int{highest(i) + 1, -highest(i) - 1, most, least, least + 1, 1 << 32, -1 << 32, 1 << 62} {
			l = append(l, with(field.Same(), i, v), with(api.Matrix{}, i, v), with(api.Matrix{A: 3, B: 5, C: 7, D: 11, X: 13, Y: 17}, i, v))
		}
	}
	return append(l, matrixOf([]int{most, most, most, most, most, most}), matrixOf([]int{least, least, least, least, least, least}))
}

// sides are the ends of a point's parts, and their like within and beyond.
func sides(end int) []api.Point {
	l := []api.Point{{}, {X: end, Y: -end}}
	for _, v := range []int{0, 1, -1, 2, -2, end - 1, end, end + 1, 1 - end, -end, -end - 1, most, least, least + 1} {
		l = append(l, api.Point{X: v}, api.Point{Y: v}, api.Point{X: v, Y: v}, api.Point{X: v, Y: 17})
	}
	return l
}

func expectCompose(t *testing.T, outer api.Matrix, inner api.Matrix, want api.Matrix, wantE api.Errno) {
	t.Helper()
	if got, e := affine.Compose(outer, inner); got != want || e != wantE {
		t.Errorf("Compose(%+v, %+v) = %+v, error %d, want %+v, error %d", outer, inner, got, e, want, wantE)
	}
}

func expectApply(t *testing.T, m api.Matrix, p api.Point, want api.Point, wantE api.Errno) {
	t.Helper()
	if got, e := affine.Apply(m, p); got != want || e != wantE {
		t.Errorf("Apply(%+v, %+v) = %+v, error %d, want %+v, error %d", m, p, got, e, want, wantE)
	}
}

func expectGrid(t *testing.T, m api.Matrix, p api.Point, want api.Point, wantE api.Errno) {
	t.Helper()
	if got, e := affine.Grid(m, p); got != want || e != wantE {
		t.Errorf("Grid(%+v, %+v) = %+v, error %d, want %+v, error %d", m, p, got, e, want, wantE)
	}
}

func expectBack(t *testing.T, m api.Matrix, p api.Point, want api.Point, wantOK bool) {
	t.Helper()
	if got, ok := affine.Back(m, p); got != want || ok != wantOK {
		t.Errorf("Back(%+v, %+v) = %+v, %v, want %+v, %v", m, p, got, ok, want, wantOK)
	}
}

// P14.1, P14.2: the chapter's examples.
func TestExamples(t *testing.T) {
	expectApply(t, field.Same(), api.Point{X: 20, Y: 40}, api.Point{X: 20 << 16, Y: 40 << 16}, 0)
	expectGrid(t, field.Same(), api.Point{X: 20, Y: 40}, api.Point{X: 64, Y: 128}, 0)
	expectBack(t, field.Same(), api.Point{X: 64, Y: 128}, api.Point{X: 20, Y: 40}, true)
}

// P14.1: by hand: which products come to which number, by inner first, by outer then.
func TestComposeByHand(t *testing.T) {
	const one = 65536
	for _, c := range []struct{ outer, inner, want api.Matrix }{
		{api.Matrix{A: 2 * one, B: 3 * one, C: 5 * one, D: 7 * one, X: 11, Y: 13}, api.Matrix{A: 17, B: 19, C: 23, D: 29, X: 31, Y: 37},
			api.Matrix{A: 2*17 + 5*19, B: 3*17 + 7*19, C: 2*23 + 5*29, D: 3*23 + 7*29, X: 2*31 + 5*37 + 11, Y: 3*31 + 7*37 + 13}},
		{api.Matrix{A: one, D: one, X: 5, Y: 6}, api.Matrix{A: 2 * one, D: 3 * one, X: 1, Y: 2}, api.Matrix{A: 2 * one, D: 3 * one, X: 6, Y: 8}},
		{api.Matrix{A: 2 * one, D: 3 * one, X: 1, Y: 2}, api.Matrix{A: one, D: one, X: 5, Y: 6}, api.Matrix{A: 2 * one, D: 3 * one, X: 11, Y: 20}},
		{api.Matrix{}, api.Matrix{A: 5, B: 6, C: 7, D: 8, X: 9, Y: 10}, api.Matrix{}},
		{api.Matrix{A: 5, B: 6, C: 7, D: 8, X: 9, Y: 10}, api.Matrix{}, api.Matrix{X: 9, Y: 10}},
	} {
		expectCompose(t, c.outer, c.inner, c.want, 0)
	}
}

// P14.1: floors of sums that are not whole, above 0 and below, and not sums of floors.
func TestComposeFloors(t *testing.T) {
	for _, c := range []struct{ first, second, a, b, want int }{
		{1, 0, 1, 0, 0},
		{1, 0, 65535, 0, 0},
		{1, 0, 65536, 0, 1},
		{1, 0, 131071, 0, 1},
		{-1, 0, 1, 0, -1},
		{1, 0, -1, 0, -1},
		{-1, 0, 65535, 0, -1},
		{-1, 0, 65536, 0, -1},
		{-1, 0, 65537, 0, -2},
		{-1, 0, -1, 0, 0},
		{-1, 0, -65536, 0, 1},
		{1, 1, 32768, 32768, 1},
		{1, 1, 32768, 32767, 0},
		{-1, -1, 1, 1, -1},
		{-1, -1, 32768, 32768, -1},
		{-1, -1, 32768, 32769, -2},
		{1, -1, 5, 5, 0},
		{1, -1, 5, 6, -1},
		{-3, 0, 32768, 0, -2},
		{3, 0, 32768, 0, 1},
		{0, 7, 0, 65535, 6},
		{0, -7, 0, 65535, -7},
	} {
		for half := range 3 {
			i := 2 * half
			inner := with(with(api.Matrix{}, i, c.a), i+1, c.b)
			expectCompose(t, api.Matrix{A: c.first, C: c.second}, inner, with(api.Matrix{}, i, c.want), 0)
			expectCompose(t, api.Matrix{B: c.first, D: c.second}, inner, with(api.Matrix{}, i+1, c.want), 0)
			if half == 2 {
				expectCompose(t, api.Matrix{A: c.first, C: c.second, X: 9, Y: -9}, inner, api.Matrix{X: c.want + 9, Y: -9}, 0)
			}
		}
	}
}

// P14.1: composed ones that are just right, and just not, at either end of each number.
func TestComposeAtTheBounds(t *testing.T) {
	const far = 1 << 22
	for _, c := range []struct {
		first, second, a, b int
		want                int
		wantE               api.Errno
	}{
		{far, 1, 65536, 0, far, 0},
		{far, 1, 65536, 65535, far, 0},
		{far, 1, 65536, 65536, 0, 8},
		{far, 0, 65537, 0, 0, 8},
		{far, 0, far, 0, 0, 8},
		{-far, 1, 65536, 0, -far, 0},
		{-far, 1, 65536, 1, -far, 0},
		{-far, 1, 65536, -1, 0, 8},
		{-far, -1, 65536, 1, 0, 8},
		{-far, 0, 65537, 0, 0, 8},
		{-far, 0, far, 0, 0, 8},
		{far, far, far, far, 0, 8},
		{far, far, far, -far, 0, 0},
		{far, -far, far, far, 0, 0},
	} {
		for _, i := range []int{0, 2} {
			inner := with(with(api.Matrix{}, i, c.a), i+1, c.b)
			expectCompose(t, api.Matrix{A: c.first, C: c.second}, inner, with(api.Matrix{}, i, c.want), c.wantE)
			expectCompose(t, api.Matrix{B: c.first, D: c.second}, inner, with(api.Matrix{}, i+1, c.want), c.wantE)
		}
	}
}

// P14.1: X and Y that are just right, and just not: what is turned may be too far, as long as both together are not.
func TestComposeAtTheBoundsOfPlaces(t *testing.T) {
	const far = 1 << 20
	for _, c := range []struct {
		turn, place, more int
		want              int
		wantE             api.Errno
	}{
		{65536, far, 0, far, 0},
		{65536, far, 1, 0, 8},
		{65536, far - 1, 1, far, 0},
		{65536, -far, 0, -far, 0},
		{65536, -far, -1, 0, 8},
		{65536, 1 - far, -1, -far, 0},
		{65536, far, -far, 0, 0},
		{65536, far, far, 0, 8},
		{131072, far, -far, far, 0},
		{131072, far, 1 - far, 0, 8},
		{-131072, far, far, -far, 0},
		{-131072, far, far - 1, 0, 8},
		{1, 65535, far, far, 0},
		{1, 65536, far, 0, 8},
		{-1, 1, 1 - far, -far, 0},
		{-1, 1, -far, 0, 8},
		{1 << 22, far, 0, 0, 8},
	} {
		for i, outer := range []api.Matrix{{A: c.turn, X: c.more}, {B: c.turn, Y: c.more}, {C: c.turn, X: c.more}, {D: c.turn, Y: c.more}} {
			inner, want := with(api.Matrix{}, 4+i/2, c.place), with(api.Matrix{}, 4+i%2, c.want)
			expectCompose(t, outer, inner, want, c.wantE)
		}
	}
}

// P14.1: ErrArg, if one is not right, also where what they come to would not be right.
func TestComposeOfWhatIsNotRight(t *testing.T) {
	others := []api.Matrix{{}, field.Same(), {A: 1 << 22, D: 1 << 22, X: 1 << 20, Y: 1 << 20}, {B: -1 << 22, C: 1 << 22}}
	for _, m := range wrong() {
		for _, other := range append(others, m) {
			expectCompose(t, m, other, api.Matrix{}, 1)
			expectCompose(t, other, m, api.Matrix{}, 1)
		}
	}
}

// P14.1: as the words say, at the ends of what is right and anywhere.
func TestComposeAsTheWordsSay(t *testing.T) {
	check := func(outer api.Matrix, inner api.Matrix) {
		want, e := wordsCompose(outer, inner)
		expectCompose(t, outer, inner, want, e)
	}
	for _, outer := range edges() {
		for _, inner := range edges() {
			check(outer, inner)
		}
	}
	d := dice(14)
	for range 5000 {
		check(d.matrix(), d.matrix())
		check(d.mild(), d.mild())
	}
}

// P14.1: what is composed goes where its parts take it, by inner first; turns by whole numbers leave nothing over.
func TestComposeIsAsBothInTurn(t *testing.T) {
	d := dice(15)
	for range 2000 {
		var pair [2]api.Matrix
		for i := range pair {
			l := make([]int, 6)
			for k := range l {
				l[k] = d.roll(7) - 3
				if k < 4 {
					l[k] *= 65536
				}
			}
			pair[i] = matrixOf(l)
		}
		m, e := affine.Compose(pair[0], pair[1])
		if e != api.OK {
			t.Fatalf("Compose(%+v): error %d", pair, e)
		}
		p := d.point(1000)
		q, e := affine.Apply(pair[1], p)
		if e != api.OK {
			t.Fatalf("Apply(%+v, %+v): error %d", pair[1], p, e)
		}
		want, e := affine.Apply(pair[0], api.Point{X: q.X >> 16, Y: q.Y >> 16})
		expectApply(t, m, p, want, e)
	}
}

// P14.1: by hand: which products come to which part.
func TestApplyByHand(t *testing.T) {
	m := api.Matrix{A: 2, B: 3, C: 5, D: 7, X: 11, Y: 13}
	for _, c := range []struct{ p, want api.Point }{
		{api.Point{}, api.Point{X: 11 << 16, Y: 13 << 16}},
		{api.Point{X: 1}, api.Point{X: 11<<16 + 2, Y: 13<<16 + 3}},
		{api.Point{Y: 1}, api.Point{X: 11<<16 + 5, Y: 13<<16 + 7}},
		{api.Point{X: 100, Y: -1}, api.Point{X: 11<<16 + 200 - 5, Y: 13<<16 + 300 - 7}},
		{api.Point{X: -1 << 30, Y: 1 << 30}, api.Point{X: 11<<16 + 3<<30, Y: 13<<16 + 4<<30}},
	} {
		expectApply(t, m, c.p, c.want, 0)
	}
	far := api.Matrix{A: 1 << 22, B: -1 << 22, C: 1 << 22, D: -1 << 22, X: 1 << 20, Y: -1 << 20}
	expectApply(t, far, api.Point{X: 1 << 30, Y: 1 << 30}, api.Point{X: 1<<53 + 1<<36, Y: -1<<53 - 1<<36}, 0)
	expectApply(t, far, api.Point{X: -1 << 30, Y: -1 << 30}, api.Point{X: -1<<53 + 1<<36, Y: 1<<53 - 1<<36}, 0)
}

// P14.1: points at the ends, and one beyond each; nothing else is too far.
func TestApplyAtTheBounds(t *testing.T) {
	const far = 1 << 30
	for _, m := range []api.Matrix{{}, field.Same(), {A: 1 << 22, B: 1 << 22, C: 1 << 22, D: 1 << 22}} {
		for _, p := range []api.Point{{X: far}, {X: -far}, {Y: far}, {Y: -far}, {X: far, Y: -far}, {X: -far, Y: far}} {
			want, _ := wordsApply(m, p)
			expectApply(t, m, p, want, 0)
		}
		for _, v := range []int{far + 1, -far - 1, most, least, 1 << 32, -1 << 32} {
			for _, p := range []api.Point{{X: v}, {Y: v}, {X: v, Y: far}, {X: -far, Y: v}, {X: v, Y: v}} {
				expectApply(t, m, p, api.Point{}, 1)
				expectGrid(t, m, p, api.Point{}, 1)
			}
		}
	}
}

// P14.1, P14.2, P14.3: matrices that are not right.
func TestMatricesThatAreNotRight(t *testing.T) {
	for _, m := range wrong() {
		for _, p := range []api.Point{{}, {X: 1, Y: 1}, {X: 1 << 30, Y: -1 << 30}, {X: most, Y: least}} {
			expectApply(t, m, p, api.Point{}, 1)
			expectGrid(t, m, p, api.Point{}, 1)
			expectBack(t, m, p, api.Point{}, false)
		}
		if got := affine.Scale(m); got != 0 {
			t.Errorf("Scale(%+v) = %d", m, got)
		}
	}
}

// P14.1: the nearest place of the grid, of two the greater one, in both parts, above 0 and below.
func TestGridAtHalves(t *testing.T) {
	// 20480 times 1 is a half of the way between two places of the grid.
	for _, c := range []struct{ twips, least, want int }{
		{0, 0, 0},
		{1, 0, 2}, {1, -1, 0}, {1, 1, 2},
		{2, 0, 2}, {2, -1, 2}, {2, 1, 2},
		{3, 0, 4}, {3, -1, 2}, {3, 1, 4},
		{-1, 0, 0}, {-1, -1, -2}, {-1, 1, 0},
		{-2, 0, -2}, {-2, -1, -2}, {-2, 1, -2},
		{-3, 0, -2}, {-3, -1, -4}, {-3, 1, -2},
		{-1001, 0, -1000}, {-1001, -1, -1002},
		{1001, 0, 1002}, {1001, -1, 1000},
	} {
		expectGrid(t, api.Matrix{A: 20480, C: 1, D: 65536}, api.Point{X: c.twips, Y: c.least}, api.Point{X: c.want, Y: wordsUnits(ratio(c.least, 1))}, 0)
		expectGrid(t, api.Matrix{B: 1, C: 65536, D: 20480}, api.Point{X: c.least, Y: c.twips}, api.Point{X: wordsUnits(ratio(c.twips, 1)), Y: c.want}, 0)
	}
}

// P14.1: whole twips on the grid: five of them are sixteen units, and places between go to the nearest even one.
func TestGridOfTwips(t *testing.T) {
	within := []int{0, 4, 6, 10, 12}
	for v := -1000; v <= 1000; v++ {
		five := (v + 1000) / 5
		want := 16*five + within[(v+1000)%5] - 3200
		expectGrid(t, field.Same(), api.Point{X: v, Y: -7}, api.Point{X: want, Y: -22}, 0)
		expectGrid(t, field.Same(), api.Point{X: 8, Y: v}, api.Point{X: 26, Y: want}, 0)
	}
}

// P14.1: units at the ends, and beyond; a half beyond the greater end is beyond, one beyond the lesser is not.
func TestGridAtTheBounds(t *testing.T) {
	const far, twips = 1 << 24, 5 << 20
	for _, c := range []struct {
		p     int // twips
		least int // in 16 bits behind the point
		want  int
		wantE api.Errno
	}{
		{twips, 0, far, 0},
		{twips, 20479, far, 0},
		{twips, 20480, 0, 8},
		{twips, -20480, far, 0},
		{twips, -20481, far - 2, 0},
		{twips + 1, 0, 0, 8},
		{twips - 1, 0, far - 4, 0},
		{-twips, 0, -far, 0},
		{-twips, -20480, -far, 0},
		{-twips, -20481, 0, 8},
		{-twips, 20479, -far, 0},
		{-twips, 20480, 2 - far, 0},
		{-twips - 1, 0, 0, 8},
		{1 << 30, 0, 0, 8},
		{-1 << 30, 0, 0, 8},
	} {
		expectGrid(t, api.Matrix{A: 65536, C: c.least}, api.Point{X: c.p, Y: 1}, api.Point{X: c.want}, c.wantE)
		expectGrid(t, api.Matrix{B: c.least, D: 65536}, api.Point{X: 1, Y: c.p}, api.Point{Y: c.want}, c.wantE)
	}
}

// P14.1: as the words say, at the ends of what is right, beyond them and anywhere.
func TestApplyAndGridAsTheWordsSay(t *testing.T) {
	check := func(m api.Matrix, p api.Point) {
		want, e := wordsApply(m, p)
		expectApply(t, m, p, want, e)
		want, e = wordsGrid(m, p)
		expectGrid(t, m, p, want, e)
	}
	for _, m := range append(edges(), wrong()...) {
		for _, p := range append(sides(1<<30), sides(5<<20)...) {
			check(m, p)
		}
	}
	d := dice(16)
	for range 3000 {
		check(d.matrix(), d.point(1<<30))
		check(d.matrix(), d.point(1<<16))
		check(d.mild(), d.point(1<<20))
	}
}

// P14.3: by hand.
func TestScaleByHand(t *testing.T) {
	const far = 1 << 22
	for _, c := range []struct {
		m    api.Matrix
		want int
	}{
		{api.Matrix{}, 0},
		{api.Matrix{A: 65536, X: 5}, 0},
		{api.Matrix{A: 6, B: 3, C: 4, D: 2}, 0},
		{api.Matrix{A: 1, D: 1}, 1},
		{api.Matrix{A: 1, D: -1}, 1},
		{api.Matrix{B: 1, C: 1}, 1},
		{api.Matrix{A: 1, D: 3}, 1},
		{api.Matrix{A: 2, D: 2}, 2},
		{api.Matrix{A: -3, D: 5}, 3},
		{api.Matrix{A: 4, D: 4, B: 1, C: 1}, 3},
		{api.Matrix{A: 4, D: 4, B: -1, C: 1}, 4},
		{api.Matrix{A: 4, D: 6, B: -1, C: 1}, 5},
		{field.Same(), 65536},
		{api.Matrix{A: -65536, D: 65536}, 65536},
		{api.Matrix{B: 65536, C: -65536}, 65536},
		{api.Matrix{A: 131072, D: 32768, X: 1 << 20, Y: -1 << 20}, 65536},
		{api.Matrix{A: far, D: far}, far},
		{api.Matrix{B: -far, C: far}, far},
		{api.Matrix{A: far, B: far, C: -far, D: far}, 5931641},
		{api.Matrix{A: far, B: far, C: far, D: -far}, 5931641},
		{api.Matrix{A: far + 1, D: 1}, 0},
		{api.Matrix{A: 1, D: 1, X: 1<<20 + 1}, 0},
	} {
		if got := affine.Scale(c.m); got != c.want {
			t.Errorf("Scale(%+v) = %d, want %d", c.m, got, c.want)
		}
	}
}

// P14.3: as the words say.
func TestScaleAsTheWordsSay(t *testing.T) {
	l := slices.Concat(edges(), wrong())
	d := dice(17)
	for range 5000 {
		l = append(l, d.matrix(), d.mild())
	}
	for _, m := range l {
		if got, want := affine.Scale(m), wordsScale(m); got != want {
			t.Errorf("Scale(%+v) = %d, want %d", m, got, want)
		}
	}
}

// P14.4: Same turns nothing.
func TestSameTurnsNothing(t *testing.T) {
	l := edges()
	d := dice(18)
	for range 2000 {
		l = append(l, d.matrix())
	}
	for _, m := range l {
		expectCompose(t, field.Same(), m, m, 0)
		expectCompose(t, m, field.Same(), m, 0)
	}
	for range 2000 {
		p := d.point(1 << 30)
		expectApply(t, field.Same(), p, api.Point{X: p.X << 16, Y: p.Y << 16}, 0)
	}
	for v := -1 << 17; v <= 1<<17; v += 1 + d.roll(7) {
		expectBack(t, field.Same(), api.Point{X: 64 * v, Y: -64 * v}, api.Point{X: 20 * v, Y: -20 * v}, true)
		expectGrid(t, field.Same(), api.Point{X: 20 * v, Y: -20 * v}, api.Point{X: 64 * v, Y: -64 * v}, 0)
	}
}

// P5, P14.1, P14.2: what is placed whole pixels further is on the grid so many further, and comes from the same.
func TestWholePixelsFurther(t *testing.T) {
	d := dice(19)
	for range 3000 {
		m, p := d.mild(), d.point(1<<15)
		x, y := d.roll(2001)-1000, d.roll(2001)-1000
		further := m
		further.X, further.Y = m.X+20*x, m.Y+20*y
		q, e := affine.Grid(m, p)
		if e != api.OK {
			t.Fatalf("Grid(%+v, %+v): error %d", m, p, e)
		}
		expectGrid(t, further, p, api.Point{X: q.X + 64*x, Y: q.Y + 64*y}, 0)
		from, ok := affine.Back(m, q)
		expectBack(t, further, api.Point{X: q.X + 64*x, Y: q.Y + 64*y}, from, ok)
	}
}

// P1, R4: every call ends at any numbers, the greatest and the least among them, and answers the same again.
func TestAnyNumbers(t *testing.T) {
	numbers := []int{0, 1, -1, 1 << 16, 1 << 20, 1 << 22, -1 << 22, 1<<22 + 1, 1 << 31, -1 << 32, 1 << 62, most, least, least + 1}
	d := dice(20)
	pick := func() int { return numbers[d.roll(len(numbers))] }
	tell := func(m api.Matrix, n api.Matrix, p api.Point) string {
		a, e := affine.Compose(m, n)
		b, f := affine.Apply(m, p)
		c, g := affine.Grid(m, p)
		x, ok := affine.Back(m, p)
		return fmt.Sprint(a, e, b, f, c, g, x, ok, affine.Scale(m))
	}
	words := func(m api.Matrix, n api.Matrix, p api.Point) string {
		a, e := wordsCompose(m, n)
		b, f := wordsApply(m, p)
		c, g := wordsGrid(m, p)
		x, ok := wordsBack(m, p)
		return fmt.Sprint(a, e, b, f, c, g, x, ok, wordsScale(m))
	}
	for range 5000 {
		m := api.Matrix{A: pick(), B: pick(), C: pick(), D: pick(), X: pick(), Y: pick()}
		n := api.Matrix{A: pick(), D: pick(), Y: pick()}
		p := api.Point{X: pick(), Y: pick()}
		if got, want := tell(m, n, p), words(m, n, p); got != want || got != tell(m, n, p) {
			t.Errorf("of %+v, %+v, %+v: %s, want %s", m, n, p, got, want)
		}
		m = with(field.Same(), d.roll(6), pick())
		if got, want := tell(m, n, p), words(m, n, p); got != want {
			t.Errorf("of %+v, %+v, %+v: %s, want %s", m, n, p, got, want)
		}
	}
}
