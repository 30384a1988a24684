package stroke_test

import (
	"slices"
	"strings"
	"testing"

	"celluloid/api"
	"celluloid/field"
	"celluloid/stroke"
)

const far = 1 << 24

func at(x int, y int) api.Point { return api.Point{X: x, Y: y} }

// piece is one by its numbers.
func piece(ax int, ay int, bx int, by int, line int, width int) stroke.Piece {
	return stroke.Piece{A: at(ax, ay), B: at(bx, by), Line: line, Width: width}
}

// turned is a piece turned about.
func turned(p stroke.Piece) stroke.Piece {
	p.A, p.B = p.B, p.A
	return p
}

// wide is a piece of another width.
func wide(p stroke.Piece, width int) stroke.Piece {
	p.Width = width
	return p
}

func expectNear(t *testing.T, p stroke.Piece, x int, y int, want bool) {
	t.Helper()
	if got := stroke.Near(p, x, y); got != want {
		t.Errorf("Near(%v, %d, %d) = %v, want %v", p, x, y, got, want)
	}
}

// expectLeast asks that a sample is near a piece of a width, and of greater ones, and not of lesser ones; and the same of the piece turned about.
func expectLeast(t *testing.T, p stroke.Piece, x int, y int, width int) {
	t.Helper()
	for _, p := range []stroke.Piece{p, turned(p)} {
		for _, n := range []int{width, width + 1, 2*width + 1, 1 << 20} {
			if n <= 1<<20 {
				expectNear(t, wide(p, n), x, y, true)
			}
		}
		for _, n := range []int{width - 1, width / 2, 1} {
			if n >= 1 && n < width {
				expectNear(t, wide(p, n), x, y, false)
			}
		}
	}
}

func expectOwners(t *testing.T, l []stroke.Piece, w int, h int, want []int) {
	t.Helper()
	got, e := stroke.Owners(l, w, h)
	if e != api.OK || !slices.Equal(got, want) {
		t.Errorf("Owners(%v, %d, %d)\n= %v, %d\nwant %v", l, w, h, got, e, want)
	}
}

// expectPicture asks for lines as digits, row by row; a point is none.
func expectPicture(t *testing.T, l []stroke.Piece, w int, h int, rows ...string) {
	t.Helper()
	var want []int
	for _, c := range strings.Join(rows, "") {
		want = append(want, max(0, int(c)-'0'))
	}
	expectOwners(t, l, w, h, want)
}

func expectWidth(t *testing.T, twips int, m api.Matrix, want int) {
	t.Helper()
	if got := stroke.Width(twips, m); got != want {
		t.Errorf("Width(%d, %v) = %d, want %d", twips, m, got, want)
	}
}

// P18.1, P18.2: the chapter's example.
func TestExample(t *testing.T) {
	p := piece(0, 32, 128, 32, 1, 64)
	expectNear(t, p, 7, 7, true)
	expectNear(t, p, 7, 71, false)
	expectPicture(t, []stroke.Piece{p}, 2, 2,
		"11111111",
		"11111111",
		"11111111",
		"11111111",
		"........",
		"........",
		"........",
		"........")
}

// P18.1: even parts, not beyond the ends, lines from 1 to 255, widths from 1 to 2^20.
func TestRightPiece(t *testing.T) {
	evens := []int{0, 2, -2, 98, -100, 65536, -65536, far - 2, 2 - far, far, -far}
	lines := []int{1, 2, 3, 63, 64, 127, 128, 254, 255}
	widths := []int{1, 2, 3, 63, 64, 65535, 65536, 1<<20 - 1, 1 << 20}
	for i, x := range evens {
		for k, y := range evens {
			p := piece(x, y, evens[k], evens[i], lines[i%len(lines)], widths[k%len(widths)])
			for _, p := range []stroke.Piece{p, turned(p), {A: p.A, B: p.A, Line: p.Line, Width: p.Width}} {
				if !stroke.RightPiece(p) {
					t.Errorf("RightPiece(%v) = false", p)
				}
			}
		}
	}
	for _, line := range lines {
		for _, width := range widths {
			if p := piece(0, 0, 2, 2, line, width); !stroke.RightPiece(p) {
				t.Errorf("RightPiece(%v) = false", p)
			}
		}
	}
	for _, p := range wrongPieces() {
		if stroke.RightPiece(p) {
			t.Errorf("RightPiece(%v) = true", p)
		}
	}
}

// P18.1: by hand, the least width by which a sample is near a piece that is a point.
func TestNearPoint(t *testing.T) {
	p := piece(10, 20, 10, 20, 1, 1)
	expectNear(t, p, 10, 20, true)
	for _, x := range []struct{ x, y, width int }{
		{10, 21, 2}, {10, 19, 2}, {11, 20, 2}, {9, 20, 2}, {10, 25, 10}, {17, 20, 14}, {3, 20, 14}, {10, 13, 14},
		// By the squares of 2, 8, 50, 100 and 260.
		{11, 21, 3}, {9, 19, 3}, {15, 25, 15}, {5, 15, 15}, {13, 24, 10}, {7, 16, 10}, {14, 17, 10}, {16, 28, 20}, {3, 44, 50}, {34, 13, 50},
		{10, 20 + 1<<19, 1 << 20}, {10 - 1<<19, 20, 1 << 20},
	} {
		expectLeast(t, p, x.x, x.y, x.width)
	}
	for _, x := range [][2]int{{10, 21 + 1<<19}, {10, 19 - 1<<19}, {11 + 1<<19, 20}, {9 - 1<<19, 20}, {11, 20 + 1<<19}, {far, far}, {-far, 20}} {
		expectNear(t, wide(p, 1<<20), x[0], x[1], false)
	}
}

// P18.1: by hand, of a level piece and an upright one, between the ends and beside them.
func TestNearStraight(t *testing.T) {
	level, upright := piece(10, 4, 50, 4, 1, 1), piece(4, 10, 4, 50, 1, 1)
	for _, x := range []struct{ on, beside, width int }{
		{10, 7, 6}, {50, 7, 6}, {30, 7, 6}, {11, 7, 6}, {49, 1, 6}, {31, -1, 10}, {31, 9, 10}, {31, 5, 2}, {31, 3, 2},
		{9, 4, 2}, {7, 4, 6}, {53, 4, 6}, {51, 4, 2}, {51, 5, 3}, {51, 3, 3}, {9, 5, 3}, {9, 3, 3},
		{7, 8, 10}, {53, 8, 10}, {7, 0, 10}, {53, 0, 10}, {6, 7, 10}, {54, 1, 10}, {13, 104, 200}, {10, 104, 200}, {9, 104, 201}, {51, 104, 201},
		{-20, -36, 100}, {80, -36, 100}, {80, 44, 100}, {30, 4 + 1<<19, 1 << 20}, {30, 4 - 1<<19, 1 << 20}, {10 - 1<<19, 4, 1 << 20}, {50 + 1<<19, 4, 1 << 20},
	} {
		expectLeast(t, level, x.on, x.beside, x.width)
		expectLeast(t, upright, x.beside, x.on, x.width)
	}
	for _, x := range [][2]int{{30, 5 + 1<<19}, {30, 3 - 1<<19}, {9 - 1<<19, 4}, {51 + 1<<19, 4}, {9, 4 + 1<<19}, {far, 4}, {-far, 4}, {30, far}, {30, -far}} {
		expectNear(t, wide(level, 1<<20), x[0], x[1], false)
		expectNear(t, wide(upright, 1<<20), x[1], x[0], false)
	}
	for _, x := range [][2]int{{10, 4}, {11, 4}, {30, 4}, {49, 4}, {50, 4}} {
		expectNear(t, level, x[0], x[1], true)
		expectNear(t, upright, x[1], x[0], true)
	}
}

// P18.1: by hand, of slanting pieces: those whose sides are 3 and 4 are whole numbers of fifths off.
func TestNearSlanting(t *testing.T) {
	p := piece(100, 200, 140, 230, 1, 1)
	for _, x := range []struct{ x, y, width int }{
		// Across from (120, 215), from the ends, and from a quarter.
		{105, 235, 50}, {135, 195, 50}, {85, 220, 50}, {115, 180, 50}, {125, 250, 50}, {155, 210, 50}, {117, 219, 10}, {123, 211, 10},
		// A step beside those: the nearest point is between the ends, an end, or between them again.
		{106, 235, 49}, {104, 235, 52}, {105, 236, 52}, {105, 234, 49}, {84, 220, 52}, {86, 220, 49}, {85, 219, 49}, {85, 221, 52}, {116, 180, 52}, {115, 179, 52},
		// Ahead of one end, and behind the other.
		{92, 194, 20}, {148, 236, 20}, {93, 194, 19}, {147, 236, 19}, {100, 193, 14}, {140, 237, 14}, {97, 196, 10}, {143, 234, 10},
		// By fifths: 1, 2, 3 and 4 of them.
		{120, 214, 2}, {121, 216, 1}, {119, 214, 1}, {121, 215, 2}, {119, 215, 2}, {121, 217, 2}, {122, 218, 3}, {117, 211, 3}, {116, 211, 2},
	} {
		expectLeast(t, p, x.x, x.y, x.width)
		// As in a mirror, level or upright, and with x and y changed.
		expectLeast(t, piece(-100, 200, -140, 230, 1, 1), -x.x, x.y, x.width)
		expectLeast(t, piece(100, -200, 140, -230, 1, 1), x.x, -x.y, x.width)
		expectLeast(t, piece(200, 100, 230, 140, 1, 1), x.y, x.x, x.width)
	}
	for _, x := range [][2]int{{100, 200}, {140, 230}, {104, 203}, {120, 215}, {136, 227}} {
		expectNear(t, p, x[0], x[1], true)
	}
}

// P18.1: samples of even parts, and odd ones, from -2^24 to 2^24.
func TestNearFarthest(t *testing.T) {
	for _, x := range []int{-far, far} {
		for _, y := range []int{-far, far} {
			p := piece(x, y, x, y, 255, 1)
			expectNear(t, p, x, y, true)
			expectNear(t, p, x, -y, false)
			expectNear(t, p, -x, y, false)
			expectNear(t, p, -x, -y, false)
			expectLeast(t, p, x-x/far, y, 2)
			expectLeast(t, p, x, y-y/far, 2)
			expectLeast(t, p, x-x/32, y, 1<<20)
			// Beyond, even if it would be near.
			p.Width = 1 << 20
			expectNear(t, p, x+x/far, y, false)
			expectNear(t, p, x, y+y/far, false)
			expectNear(t, p, x+2*x/far, y+2*y/far, false)
		}
	}
}

// P18.1: squares and products beyond 64 bits, just near and just not.
func TestNearGreatest(t *testing.T) {
	cross := piece(-far, -far, far, far, 1, 1)
	for _, x := range []int{0, 1, -1, 1 << 23, -1 << 23, far - 1<<20, 1<<20 - far} {
		// A root of 2 times so much.
		for by, width := range map[int]int{1: 2, 5: 8, 70: 99, 71: 101, 524287: 741454, 741454: 1048575, 741455: 1 << 20} {
			expectLeast(t, cross, x, x+by, width)
			expectLeast(t, cross, x+by, x, width)
		}
		for _, by := range []int{741456, 1 << 20, 1 << 22} {
			expectNear(t, wide(cross, 1<<20), x, keep(x+by), false)
			expectNear(t, wide(cross, 1<<20), keep(x+by), x, false)
		}
	}
	for _, x := range [][2]int{{far, -far}, {-far, far}, {far, 0}, {0, far}, {-far, 0}, {0, -far}, {1 << 23, -1 << 23}} {
		for _, width := range []int{1, 64, 1 << 16, 1 << 20} {
			expectNear(t, wide(cross, width), x[0], x[1], false)
			expectNear(t, wide(turned(cross), width), x[0], x[1], false)
		}
	}
	level, upright := piece(-far, 0, far, 0, 1, 1), piece(0, -far, 0, far, 1, 1)
	for _, on := range []int{0, 1, far, -far, far - 1, 1 << 23} {
		// Where a square of 64 bits alone would be 0, on this side or that.
		for _, by := range []int{1 << 7, 1 << 12, 1 << 18, 1<<19 - 1, 1 << 19} {
			expectLeast(t, level, on, by, 2*by)
			expectLeast(t, upright, -by, on, 2*by)
		}
		for _, by := range []int{1<<19 + 1, 1 << 20, 1 << 22, far, -far} {
			for _, width := range []int{1, 1 << 10, 1 << 20} {
				expectNear(t, wide(level, width), on, by, false)
				expectNear(t, wide(upright, width), by, on, false)
			}
		}
	}
}

// P18.1: by hand, widths by matrices that make nothing greater, or some things.
func TestWidth(t *testing.T) {
	same := field.Same()
	for twips, want := range map[int]int{
		0: 64, 1: 64, 19: 64, 20: 64, 21: 67, 22: 70, 23: 74, 24: 77, 25: 80, 40: 128, 100: 320, 101: 323, 102: 326, 103: 330, 104: 333, 65534: 209709, 65535: 209712,
	} {
		expectWidth(t, twips, same, want)
		for _, m := range []api.Matrix{
			{A: -api.One, D: api.One}, {A: api.One, D: -api.One}, {B: api.One, C: api.One}, {B: -api.One, C: api.One}, {A: api.One, C: 1 << 22, D: api.One},
			{A: api.One, D: api.One, X: 1 << 20, Y: -1 << 20}, {A: 2 * api.One, D: api.One / 2}, {A: api.One, B: api.One, C: -api.One}, {A: 39322, B: 52429, C: -52429, D: 39322},
		} {
			expectWidth(t, twips, m, want)
		}
	}
	for _, x := range []struct {
		twips, scale, want int
	}{
		{100, 2 * api.One, 640}, {100, api.One / 2, 160}, {100, api.One / 5, 64}, {100, api.One/5 + 1, 64}, {100, 3 * api.One / 8, 120}, {65535, 1, 64}, {65535, 10, 64},
		{65535, 20, 64}, {65535, 21, 67}, {1, 1 << 22, 205}, {2, 1 << 22, 410}, {0, 1 << 22, 64}, {1, 20 * api.One, 64}, {1, 21 * api.One, 67},
		// A half is rounded up, and what is just below it down.
		{5, 264192, 65}, {5, 264191, 64}, {5, 264193, 65}, {5, 268288, 66}, {5, 268287, 65}, {15, 264192, 194}, {15, 264191, 193},
		// The greatest width, and just below it.
		{20480, 1 << 20, 1 << 20}, {20479, 1 << 20, 1048525}, {20481, 1 << 20, 1 << 20}, {20480, 1<<20 - 1, 1048575}, {5120, 1 << 22, 1 << 20}, {5119, 1 << 22, 1048371},
		{65535, 1 << 22, 1 << 20}, {65535, 327680, 1048560}, {65535, 327684, 1048573}, {65535, 327685, 1 << 20}, {65535, 327686, 1 << 20},
	} {
		expectWidth(t, x.twips, api.Matrix{A: x.scale, D: x.scale}, x.want)
		expectWidth(t, x.twips, api.Matrix{B: x.scale, C: x.scale, X: 7, Y: -7}, x.want)
		expectWidth(t, x.twips, api.Matrix{A: x.scale, D: -x.scale}, x.want)
	}
	// The root of 2, as a floor; and the greatest matrix that there is, whose Scale is no more than twice that of others.
	expectWidth(t, 100, api.Matrix{A: api.One, D: 2 * api.One}, 453)
	expectWidth(t, 65535, api.Matrix{A: 1 << 22, B: -1 << 22, C: 1 << 22, D: 1 << 22}, 1<<20)
	// What is flat has the least width.
	for _, m := range []api.Matrix{{}, {A: api.One}, {A: 4, B: 4, C: 4, D: 4}, {A: 1 << 22, B: 1 << 22, C: 1 << 22, D: 1 << 22}, {X: 1 << 20}} {
		expectWidth(t, 0, m, 64)
		expectWidth(t, 65535, m, 64)
	}
}
