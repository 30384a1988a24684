package curve_test

import (
	"slices"
	"testing"

	"celluloid/api"
	"celluloid/curve"
)

func expectFlat(t *testing.T, a api.Point, b api.Point, c api.Point, want []api.Point) {
	t.Helper()
	if got := curve.Flat(a, b, c); !slices.Equal(got, want) {
		t.Errorf("Flat(%v, %v, %v)\n= %v\nwant %v", a, b, c, got, want)
	}
}

func expectBend(t *testing.T, a api.Point, b api.Point, c api.Point, bend int, pieces int) {
	t.Helper()
	if got := curve.Bend(a, b, c); got != bend {
		t.Errorf("Bend(%v, %v, %v) = %d, want %d", a, b, c, got, bend)
	}
	if got := curve.Pieces(a, b, c); got != pieces {
		t.Errorf("Pieces(%v, %v, %v) = %d, want %d", a, b, c, got, pieces)
	}
}

// expectWords asks for all that the words tell of a curve.
func expectWords(t *testing.T, a api.Point, b api.Point, c api.Point) {
	t.Helper()
	expectBend(t, a, b, c, wordsBend(a, b, c), wordsPieces(a, b, c))
	expectFlat(t, a, b, c, wordsFlat(a, b, c))
}

// expectOneWay asks for a curve's points where both of its parts go alike, where one stands still, and where they are changed for one another.
func expectOneWay(t *testing.T, a int, b int, c int, want ...int) {
	t.Helper()
	var both, first, second []api.Point
	for _, n := range want {
		both = append(both, api.Point{X: n, Y: n})
		first = append(first, api.Point{X: n, Y: -6})
		second = append(second, api.Point{X: 8, Y: n})
	}
	expectFlat(t, api.Point{X: a, Y: a}, api.Point{X: b, Y: b}, api.Point{X: c, Y: c}, both)
	expectFlat(t, api.Point{X: a, Y: -6}, api.Point{X: b, Y: -6}, api.Point{X: c, Y: -6}, first)
	expectFlat(t, api.Point{X: 8, Y: a}, api.Point{X: 8, Y: b}, api.Point{X: 8, Y: c}, second)
}

// P16.1: the chapter's examples.
func TestExamples(t *testing.T) {
	o := api.Point{}
	expectBend(t, o, o, o, 0, 1)
	expectFlat(t, o, o, o, []api.Point{o})
	b, c := api.Point{X: 32}, api.Point{X: 64, Y: 64}
	expectBend(t, o, b, c, 64, 4)
	expectFlat(t, o, b, c, []api.Point{{X: 16, Y: 4}, {X: 32, Y: 16}, {X: 48, Y: 36}, {X: 64, Y: 64}})
}

// P16.1: even parts, not beyond the ends, in both parts.
func TestEven(t *testing.T) {
	even := []int{0, 2, -2, 4, -4, 98, -100, 65536, -65536, 1<<24 - 2, 2 - 1<<24, 1 << 24, -1 << 24}
	for _, x := range even {
		for _, y := range even {
			if p := (api.Point{X: x, Y: y}); !curve.Even(p) {
				t.Errorf("Even(%v) = false", p)
			}
		}
		for _, wrong := range wrongParts() {
			for _, p := range []api.Point{{X: x, Y: wrong}, {X: wrong, Y: x}} {
				if curve.Even(p) {
					t.Errorf("Even(%v) = true", p)
				}
			}
		}
	}
}

// P16.1: by hand, how far curves bend that do so in one part alone, or in both.
func TestBendByHand(t *testing.T) {
	for _, x := range []struct{ a, b, c, bend int }{
		{0, 0, 0, 0}, {6, 6, 6, 0}, {-4, -4, -4, 0}, {0, 2, 4, 0}, {10, 4, -2, 0}, {-1 << 24, 0, 1 << 24, 0},
		{2, 0, 0, 2}, {-2, 0, 0, 2}, {0, 0, 2, 2}, {0, 0, -2, 2}, {0, 2, 0, 4}, {0, -2, 0, 4},
		{2, 0, 2, 4}, {2, 2, 0, 2}, {0, 2, 2, 2}, {2, -2, 2, 8}, {-2, 2, -2, 8}, {10, 2, 30, 36}, {-10, -2, -30, 36},
		{1 << 24, 1 << 24, -1 << 24, 1 << 25}, {-1 << 24, -1 << 24, 1 << 24, 1 << 25}, {1 << 24, 0, 1 << 24, 1 << 25},
		{1 << 24, -1 << 24, 1 << 24, 1 << 26}, {-1 << 24, 1 << 24, -1 << 24, 1 << 26},
	} {
		want := wordsPieces(api.Point{}, api.Point{}, api.Point{X: min(x.bend, 1<<24)})
		for _, still := range []int{0, 4, -1 << 24, 1 << 24} {
			expectBend(t, api.Point{X: x.a, Y: still}, api.Point{X: x.b, Y: still}, api.Point{X: x.c, Y: still}, x.bend, want)
			expectBend(t, api.Point{X: still, Y: x.a}, api.Point{X: still, Y: x.b}, api.Point{X: still, Y: x.c}, x.bend, want)
		}
		expectBend(t, api.Point{X: x.a, Y: x.a}, api.Point{X: x.b, Y: x.b}, api.Point{X: x.c, Y: x.c}, x.bend, want)
		expectBend(t, api.Point{X: x.a, Y: -x.a}, api.Point{X: x.b, Y: -x.b}, api.Point{X: x.c, Y: -x.c}, x.bend, want)
	}
}

// P16.1: how many pieces there are at each bend where their number changes, below 0 and above, by each of the three points, in either part, beside any lesser bend of the other part.
func TestPiecesByHand(t *testing.T) {
	for _, x := range []struct{ bend, pieces int }{
		{0, 1}, {2, 1}, {6, 1}, {8, 1}, {10, 2}, {12, 2}, {30, 2}, {32, 2}, {34, 4}, {64, 4}, {126, 4}, {128, 4},
		{130, 8}, {510, 8}, {512, 8}, {514, 16}, {2046, 16}, {2048, 16}, {2050, 32}, {8190, 32}, {8192, 32}, {8194, 32},
		{32768, 32}, {32770, 32}, {1 << 20, 32}, {1 << 24, 32},
	} {
		for _, d := range []int{x.bend, -x.bend} {
			for _, other := range []int{0, 2, x.bend, -x.bend} {
				if other == 2 && x.bend < 2 {
					continue
				}
				expectBend(t, api.Point{}, api.Point{}, api.Point{X: d, Y: other}, x.bend, x.pieces)
				expectBend(t, api.Point{}, api.Point{}, api.Point{X: other, Y: d}, x.bend, x.pieces)
				expectBend(t, api.Point{X: d, Y: other}, api.Point{}, api.Point{}, x.bend, x.pieces)
				expectBend(t, api.Point{X: other, Y: d}, api.Point{}, api.Point{}, x.bend, x.pieces)
				expectBend(t, api.Point{X: d}, api.Point{}, api.Point{Y: other}, x.bend, x.pieces)
			}
			// With its control point there, a curve bends twice as far; what an end lacks of it makes up for the half.
			b := api.Point{X: d / 4 * 2, Y: 4}
			expectBend(t, api.Point{Y: 4}, b, api.Point{X: d/4*4 - d, Y: 4}, x.bend, x.pieces)
			b = api.Point{X: -6, Y: d / 4 * 2}
			expectBend(t, api.Point{X: -6, Y: d/4*4 - d}, b, api.Point{X: -6}, x.bend, x.pieces)
		}
	}
}

// P16.1: by hand, points in order, of two pieces and of four; halves go up, below 0 too.
func TestFlatByHand(t *testing.T) {
	// In one piece there is no point but c.
	expectOneWay(t, 0, 0, 8, 8)
	expectOneWay(t, -8, 0, 0, 0)
	expectOneWay(t, 6, 4, 10, 10)
	// In two pieces the first ends at a quarter of a, 2 b and c.
	expectOneWay(t, 0, 0, 10, 2, 10)
	expectOneWay(t, 0, 0, -10, -2, -10)
	expectOneWay(t, 0, 0, 12, 4, 12)
	expectOneWay(t, 0, 0, -12, -2, -12)
	expectOneWay(t, 12, 0, 0, 4, 0)
	expectOneWay(t, -12, 0, 0, -2, 0)
	expectOneWay(t, 0, 0, 20, 6, 20)
	expectOneWay(t, 0, 0, -20, -4, -20)
	expectOneWay(t, 0, 0, 14, 4, 14)
	expectOneWay(t, 0, 0, -14, -4, -14)
	expectOneWay(t, 0, 6, 0, 4, 0)
	expectOneWay(t, 0, -6, 0, -2, 0)
	expectOneWay(t, 0, 10, 0, 6, 0)
	expectOneWay(t, 0, -10, 0, -4, 0)
	expectOneWay(t, 100, 106, 100, 104, 100)
	expectOneWay(t, -100, -106, -100, -102, -100)
	// In four pieces they end at sixteenths: 9, 6 and 1, then 4, 8 and 4, then 1, 6 and 9.
	expectOneWay(t, 0, 0, 48, 4, 12, 28, 48)
	expectOneWay(t, 0, 0, -48, -2, -12, -26, -48)
	expectOneWay(t, 48, 0, 0, 28, 12, 4, 0)
	expectOneWay(t, -48, 0, 0, -26, -12, -2, 0)
	expectOneWay(t, 0, 0, 34, 2, 8, 20, 34)
	expectOneWay(t, 0, 0, -34, -2, -8, -20, -34)
	expectOneWay(t, 0, 40, 0, 16, 20, 16, 0)
	expectOneWay(t, 0, -40, 0, -14, -20, -14, 0)
	// In eight pieces they end at 64ths.
	expectOneWay(t, 0, 0, 512, 8, 32, 72, 128, 200, 288, 392, 512)
	expectOneWay(t, 256, 0, 0, 196, 144, 100, 64, 36, 16, 4, 0)
	expectOneWay(t, 0, -128, 0, -28, -48, -60, -64, -60, -48, -28, 0)
	expectOneWay(t, 0, -256, 0, -56, -96, -120, -128, -120, -96, -56, 0)
}

// P16.1: by hand, points of 16 and of 32 pieces: squares, times 4 and 8.
func TestFlatOfSquares(t *testing.T) {
	for _, n := range []int{16, 32} {
		// Each piece's end is as many times the square of its number.
		for _, times := range []int{4, -4, 8, -8} {
			var there, back []int
			for i := 1; i <= n; i++ {
				there = append(there, times*i*i)
				back = append(back, times*(n-i)*(n-i))
			}
			expectOneWay(t, 0, 0, times*n*n, there...)
			expectOneWay(t, times*n*n, 0, 0, back...)
		}
	}
}

// P16.1: curves of one point, straight ones that are not gone evenly, and those that turn back.
func TestFlatOfLines(t *testing.T) {
	for _, p := range corners() {
		expectFlat(t, p, p, p, []api.Point{p})
	}
	// Bent, but by too little for a second piece.
	expectFlat(t, api.Point{}, api.Point{X: 2}, api.Point{X: 2, Y: 2}, []api.Point{{X: 2, Y: 2}})
	// Straight, with b beside the middle.
	expectOneWay(t, 0, 60, 80, 28, 50, 68, 80)
	// There and back, wholly, and in part: the turn lies between.
	expectOneWay(t, 0, 64, 0, 24, 32, 24, 0)
	expectOneWay(t, 0, 48, 16, 20, 28, 28, 16)
	expectOneWay(t, 16, 64, 0, 34, 36, 26, 0)
	// As far as can be.
	const far = 1 << 24
	var there []int
	for i := 1; i <= 32; i++ {
		there = append(there, far-i*(32-i)*(far/256))
	}
	expectOneWay(t, far, -far, far, there...)
}

// P16.1: as the words tell, of all curves between nine points at the ends, and of the same a step inside.
func TestCorners(t *testing.T) {
	l := append(corners(), api.Point{X: 2, Y: -2}, api.Point{X: 1<<24 - 2, Y: 2 - 1<<24})
	for _, a := range l {
		for _, b := range l {
			for _, c := range l {
				expectWords(t, a, b, c)
			}
		}
	}
}

// P16.1: as the words tell, of all small curves in one part, and a straight one in the other.
func TestAllSmall(t *testing.T) {
	const far = 24
	for a := -far; a <= far; a += 2 {
		for b := -far; b <= far; b += 2 {
			for c := -far; c <= far; c += 2 {
				expectWords(t, api.Point{X: a, Y: c}, api.Point{X: b, Y: a}, api.Point{X: c, Y: b})
			}
		}
	}
}

// P16.1: as the words tell, of curves of any size.
func TestDice(t *testing.T) {
	d := dice(1601)
	var seen [33]int
	for range 4000 {
		l := d.curve(1 << (1 + d.roll(13)))
		seen[wordsPieces(l[0], l[1], l[2])]++
		expectWords(t, l[0], l[1], l[2])
		expectWords(t, d.point(), d.point(), d.point())
	}
	for _, n := range []int{1, 2, 4, 8, 16, 32} {
		if seen[n] < 100 {
			t.Errorf("%d curves of %d pieces", seen[n], n)
		}
	}
}

// corners are nine points: the ends, and the middles between them.
func corners() []api.Point {
	var l []api.Point
	for x := -1; x <= 1; x++ {
		for y := -1; y <= 1; y++ {
			l = append(l, api.Point{X: x << 24, Y: y << 24})
		}
	}
	return l
}
