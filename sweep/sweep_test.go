package sweep_test

import (
	"slices"
	"strings"
	"testing"

	"celluloid/api"
	"celluloid/sweep"
)

func at(x int, y int) api.Point { return api.Point{X: x, Y: y} }

// seg is a segment by its numbers.
func seg(ax int, ay int, bx int, by int, left int, right int) sweep.Seg {
	return sweep.Seg{A: at(ax, ay), B: at(bx, by), Left: left, Right: right}
}

// turned is a segment turned about, its sides changed.
func turned(s sweep.Seg) sweep.Seg {
	return sweep.Seg{A: s.B, B: s.A, Left: s.Right, Right: s.Left}
}

// around are segments from each point to the next one, and back to the first, with a style at the side on which one that goes down, as told first, has what is right of it.
func around(style int, l ...api.Point) []sweep.Seg {
	var segs []sweep.Seg
	for i, p := range l {
		segs = append(segs, sweep.Seg{A: p, B: l[(i+1)%len(l)], Left: style})
	}
	return segs
}

// box goes around a rectangle, down at its lesser x.
func box(style int, left int, top int, right int, bottom int) []sweep.Seg {
	return around(style, at(left, top), at(left, bottom), at(right, bottom), at(right, top))
}

func expectWound(t *testing.T, l []sweep.Seg, style int, x int, y int, want int) {
	t.Helper()
	if got := sweep.Wound(l, style, x, y); got != want {
		t.Errorf("Wound(%v, %d, %d, %d) = %d, want %d", l, style, x, y, got, want)
	}
}

func expectOwners(t *testing.T, l []sweep.Seg, w int, h int, want []int) {
	t.Helper()
	got, e := sweep.Owners(l, w, h)
	if e != api.OK || !slices.Equal(got, want) {
		t.Errorf("Owners(%v, %d, %d)\n= %v, %d\nwant %v", l, w, h, got, e, want)
	}
}

// expectPicture asks for styles as digits, row by row; a point is none.
func expectPicture(t *testing.T, l []sweep.Seg, w int, h int, rows ...string) {
	t.Helper()
	var want []int
	for _, c := range strings.Join(rows, "") {
		want = append(want, max(0, int(c)-'0'))
	}
	expectOwners(t, l, w, h, want)
}

func expectCover(t *testing.T, owners []int, w int, h int, x int, y int, style int, want int) {
	t.Helper()
	if got := sweep.Cover(owners, w, h, x, y, style); got != want {
		t.Errorf("Cover(%v, %d, %d, %d, %d, %d) = %d, want %d", owners, w, h, x, y, style, got, want)
	}
}

// P17.1, P17.2: the chapter's example.
func TestExample(t *testing.T) {
	l := box(1, 0, 0, 64, 64)
	expectPicture(t, l, 1, 1, "1111", "1111", "1111", "1111")
	owners, _ := sweep.Owners(l, 2, 2)
	for _, x := range []struct{ x, y, style, want int }{
		{0, 0, 1, 16}, {0, 0, 0, 0}, {1, 0, 1, 0}, {1, 0, 0, 16}, {0, 1, 1, 0}, {0, 1, 0, 16}, {1, 1, 1, 0}, {1, 1, 0, 16},
	} {
		expectCover(t, owners, 2, 2, x.x, x.y, x.style, x.want)
	}
	// Its left side, gone down, alone.
	expectPicture(t, l[:1], 1, 1, "1111", "1111", "1111", "1111")
}

// P17.1: even parts, not beyond the ends, and styles from 0 to 255.
func TestRightSeg(t *testing.T) {
	evens := []int{0, 2, -2, 98, -100, 65536, -65536, 1<<24 - 2, 2 - 1<<24, 1 << 24, -1 << 24}
	styles := []int{0, 1, 2, 63, 64, 127, 128, 254, 255}
	for i, x := range evens {
		for k, y := range evens {
			s := seg(x, y, evens[k], evens[i], styles[i%len(styles)], styles[k%len(styles)])
			for _, s := range []sweep.Seg{s, {A: s.A, B: s.A}, {A: s.A, B: s.A, Left: 9, Right: 9}} {
				if !sweep.RightSeg(s) {
					t.Errorf("RightSeg(%v) = false", s)
				}
			}
		}
	}
	for _, s := range wrongSegs() {
		if sweep.RightSeg(s) {
			t.Errorf("RightSeg(%v) = true", s)
		}
	}
}

// P17.1: by hand, what one segment gives and takes: going down, going up, and standing level.
func TestWoundByOne(t *testing.T) {
	for _, x := range []struct {
		s                       sweep.Seg
		zero, three, five, nine int
	}{
		{seg(0, 0, 0, 64, 3, 5), 0, 1, -1, 0},
		{seg(0, 64, 0, 0, 3, 5), 0, -1, 1, 0},
		{seg(0, 0, 0, 64, 5, 3), 0, -1, 1, 0},
		{seg(0, 64, 0, 0, 5, 3), 0, 1, -1, 0},
		{seg(0, 0, 0, 64, 3, 0), -1, 1, 0, 0},
		{seg(0, 64, 0, 0, 3, 0), 1, -1, 0, 0},
		{seg(0, 0, 0, 64, 0, 5), 1, 0, -1, 0},
		{seg(0, 64, 0, 0, 0, 5), -1, 0, 1, 0},
		{seg(0, 0, 0, 64, 3, 3), 0, 0, 0, 0},
		{seg(0, 64, 0, 0, 3, 3), 0, 0, 0, 0},
		{seg(0, 0, 0, 64, 0, 0), 0, 0, 0, 0},
		{seg(0, 32, 0, 32, 3, 5), 0, 0, 0, 0},
		{seg(-64, 32, 64, 32, 3, 5), 0, 0, 0, 0},
		{seg(64, 32, -64, 32, 3, 5), 0, 0, 0, 0},
		{seg(-64, 30, 64, 34, 3, 5), 0, 1, -1, 0},
		{seg(64, 34, -64, 30, 3, 5), 0, -1, 1, 0},
	} {
		l := []sweep.Seg{x.s}
		for style, want := range map[int]int{0: x.zero, 3: x.three, 5: x.five, 9: x.nine} {
			expectWound(t, l, style, 33, 33, want)
			expectWound(t, l, style, 1001, 33, want)
			expectWound(t, l, style, -65, 33, 0)
			expectWound(t, l, style, 33, -1, 0)
			expectWound(t, l, style, 33, 65, 0)
		}
	}
}

// P17.1: upright segments have an even x, samples an odd one: they are left of what is a step to the right, in each row between their ends, and of nothing in the rows of others.
func TestUpright(t *testing.T) {
	for _, x := range []int{0, 6, 8, -2, -100, 1 << 20, 2 - 1<<24, 1<<24 - 2} {
		l := []sweep.Seg{seg(x, -2, x, 10, 7, 0)}
		for _, s := range []struct{ x, y, want int }{
			{x + 1, 1, 1}, {x - 1, 1, 0}, {x + 1, -1, 1}, {x + 1, 9, 1}, {x + 1, -3, 0}, {x + 1, 11, 0},
			{x - 1, -1, 0}, {x - 1, 9, 0}, {1<<24 - 1, 5, 1}, {1 - 1<<24, 5, 0},
		} {
			expectWound(t, l, 7, s.x, s.y, s.want)
			expectWound(t, []sweep.Seg{turned(l[0])}, 7, s.x, s.y, s.want)
		}
	}
}

// P17.1: a segment that meets a row just at a sample is left of it; the next samples of its row tell it from others.
func TestMeetsSample(t *testing.T) {
	for _, s := range []sweep.Seg{
		seg(0, 0, 14, 14, 7, 0), seg(14, 0, 0, 14, 7, 0), seg(6, 6, 8, 8, 7, 0), seg(8, 6, 6, 8, 7, 0), seg(-8, 2, 52, 22, 7, 0), seg(4, -2, 10, 16, 7, 0),
		seg(6, 0, 8, 14, 7, 0), seg(0, 6, 14, 8, 7, 0), seg(14, 6, 0, 8, 7, 0), seg(7-(1<<20+1), 6, 7+1<<20+1, 8, 7, 0), seg(6, 7-(1<<20+1), 8, 7+1<<20+1, 7, 0),
	} {
		for _, s := range []sweep.Seg{s, turned(s)} {
			l := []sweep.Seg{s}
			expectWound(t, l, 7, 7, 7, 1)
			expectWound(t, l, 7, 9, 7, 1)
			expectWound(t, l, 7, 5, 7, 0)
		}
	}
}

// P17.1: a steep segment meets a row a 2^23rd of a unit beside a sample: left of it above the middle, right of it below, or the other way.
func TestSteep(t *testing.T) {
	const middle = 1 << 23
	there, back := []sweep.Seg{seg(6, 0, 8, 1<<24, 7, 0)}, []sweep.Seg{seg(8, 0, 6, 1<<24, 7, 0)}
	for _, x := range []struct{ y, there, back int }{
		{1, 1, 0}, {1001, 1, 0}, {middle - 3, 1, 0}, {middle - 1, 1, 0},
		{middle + 1, 0, 1}, {middle + 3, 0, 1}, {1<<24 - 1, 0, 1},
	} {
		expectWound(t, there, 7, 7, x.y, x.there)
		expectWound(t, back, 7, 7, x.y, x.back)
		for _, l := range [][]sweep.Seg{there, back} {
			expectWound(t, l, 7, 5, x.y, 0)
			expectWound(t, l, 7, 9, x.y, 1)
		}
	}
}

// P17.1: a flat segment goes by many samples of a row; those up to where it meets the row are not wound.
func TestFlat(t *testing.T) {
	for _, x := range []struct {
		s    sweep.Seg
		y    int
		last int
	}{
		// It meets the row at 0, so that -1 is the last sample not wound.
		{seg(-1<<24, 6, 1<<24, 8, 7, 0), 7, -1},
		{seg(1<<24, 6, -1<<24, 8, 7, 0), 7, -1},
		// At -1 itself.
		{seg(-1<<24, 6, 1<<24-2, 8, 7, 0), 7, -3},
		{seg(1<<24-2, 6, -1<<24, 8, 7, 0), 7, -3},
		// At -11184810 and two thirds, at 0, and at 11184810 and two thirds.
		{seg(-1<<24, 0, 1<<24, 6, 7, 0), 1, -11184811},
		{seg(-1<<24, 0, 1<<24, 6, 7, 0), 3, -1},
		{seg(-1<<24, 0, 1<<24, 6, 7, 0), 5, 11184809},
		{seg(1<<24, 0, -1<<24, 6, 7, 0), 1, 11184809},
		{seg(1<<24, 0, -1<<24, 6, 7, 0), 3, -1},
		{seg(1<<24, 0, -1<<24, 6, 7, 0), 5, -11184811},
		// At 3355443 and a fifth, and the same below 0.
		{seg(0, -4, 1<<24, 6, 7, 0), -3, 1677721},
		{seg(0, -4, 1<<24, 6, 7, 0), -1, 5033163},
		{seg(0, -4, -1<<24, 6, 7, 0), -3, -1677723},
		{seg(0, -4, -1<<24, 6, 7, 0), -1, -5033165},
	} {
		for _, s := range []sweep.Seg{x.s, turned(x.s)} {
			l := []sweep.Seg{s}
			expectWound(t, l, 7, x.last, x.y, 0)
			expectWound(t, l, 7, x.last+2, x.y, 1)
			expectWound(t, l, 7, 1-1<<24, x.y, 0)
			expectWound(t, l, 7, 1<<24-1, x.y, 1)
		}
	}
}

// P17.1: segments and samples as far as can be.
func TestGreatest(t *testing.T) {
	const far = 1 << 24
	for _, x := range []struct {
		s          sweep.Seg
		x, y, want int
	}{
		{seg(-far, -far, far, far, 7, 0), far - 1, far - 1, 1},
		{seg(-far, -far, far, far, 7, 0), far - 3, far - 1, 0},
		{seg(-far, -far, far, far, 7, 0), 1 - far, 1 - far, 1},
		{seg(-far, -far, far, far, 7, 0), 1 - far, 3 - far, 0},
		{seg(-far, -far, far, far, 7, 0), 1, 1, 1},
		{seg(-far, -far, far, far, 7, 0), -1, 1, 0},
		{seg(far, -far, -far, far, 7, 0), far - 1, 1 - far, 1},
		{seg(far, -far, -far, far, 7, 0), far - 3, 1 - far, 0},
		{seg(far, -far, -far, far, 7, 0), 1 - far, far - 1, 1},
		{seg(far, -far, -far, far, 7, 0), 1 - far, far - 3, 0},
		{seg(-far, -far, -far, far, 7, 0), 1 - far, 1 - far, 1},
		{seg(-far, -far, -far, far, 7, 0), 1 - far, far - 1, 1},
		{seg(far, -far, far, far, 7, 0), far - 1, far - 1, 0},
		{seg(far-2, -far, far-2, far, 7, 0), far - 1, far - 1, 1},
		{seg(far-2, -far, far, far, 7, 0), far - 1, -1, 1},
		{seg(far-2, -far, far, far, 7, 0), far - 1, 1, 0},
	} {
		expectWound(t, []sweep.Seg{x.s}, 7, x.x, x.y, x.want)
		expectWound(t, []sweep.Seg{turned(x.s)}, 7, x.x, x.y, x.want)
	}
}

// P17.1: each segment adds its part, in whatever order they stand, and styles far off no segment's have none.
func TestWoundByMany(t *testing.T) {
	l := []sweep.Seg{
		seg(0, 0, 0, 64, 1, 0), seg(2, 64, 2, 0, 2, 1), seg(4, 0, 4, 64, 255, 1), seg(6, -2, 6, 0, 1, 1),
		seg(6, 0, 6, 64, 1, 0), seg(8, 0, 8, 64, 1, 2), seg(10, 0, 200, 2, 1, 2), seg(64, 0, 64, 64, 1, 0),
	}
	for range 2 {
		for _, x := range []struct{ x, zero, one, two, last int }{
			{-1, 0, 0, 0, 0}, {1, -1, 1, 0, 0}, {3, -1, 2, -1, 0}, {5, -1, 1, -1, 1}, {7, -2, 2, -1, 1},
			{9, -2, 3, -2, 1}, {63, -2, 3, -2, 1}, {65, -3, 4, -2, 1}, {1<<24 - 1, -3, 4, -2, 1},
		} {
			expectWound(t, l, 0, x.x, 33, x.zero)
			expectWound(t, l, 1, x.x, 33, x.one)
			expectWound(t, l, 2, x.x, 33, x.two)
			expectWound(t, l, 255, x.x, 33, x.last)
			for _, style := range []int{3, 254, 256, 257, -1, most, least} {
				expectWound(t, l, style, x.x, 33, 0)
			}
		}
		slices.Reverse(l)
	}
	expectWound(t, nil, 0, 7, 7, 0)
	expectWound(t, []sweep.Seg{}, 1, 7, 7, 0)
}
