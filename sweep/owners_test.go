package sweep_test

import (
	"slices"
	"testing"

	"celluloid/api"
	"celluloid/sweep"
)

// P17.1: without segments, or with such as cross no row, no sample has a style.
func TestOwnersOfNothing(t *testing.T) {
	for _, l := range [][]sweep.Seg{
		nil, {}, {{}}, {seg(0, 0, 0, 0, 1, 2)}, {seg(0, 20, 64, 20, 1, 2)}, {seg(64, 20, 0, 20, 1, 2)},
		{seg(0, 8, 20, 22, 1, 0)}, {seg(0, -1<<24, 0, 6, 1, 0)}, {seg(0, 56, 0, 1<<24, 1, 0)}, {seg(56, 0, 56, 64, 1, 0)},
		{seg(0, 0, 0, 64, 0, 0)}, {seg(0, 0, 0, 64, 5, 5)}, {seg(0, 0, 0, 64, 0, 5)}, {seg(0, 64, 0, 0, 5, 0)},
	} {
		expectPicture(t, l, 1, 1, "....", "....", "....", "....")
	}
	for _, w := range []int{1, 2, 255, 256} {
		for _, h := range []int{1, 3, 256} {
			expectOwners(t, nil, w, h, make([]int, 16*w*h))
		}
	}
}

// P17.1: row by row, each from left to right, of frames that are wider, or higher.
func TestOwnersInRows(t *testing.T) {
	l := append(box(1, 16, 0, 80, 32), box(2, 0, 48, 32, 112)...)
	expectPicture(t, l, 2, 1,
		".1111...",
		".1111...",
		"........",
		"22......")
	expectPicture(t, l, 1, 2,
		".111",
		".111",
		"....",
		"22..",
		"22..",
		"22..",
		"22..",
		"....")
	expectPicture(t, l, 2, 2,
		".1111...",
		".1111...",
		"........",
		"22......",
		"22......",
		"22......",
		"22......",
		"........")
}

// P17.1: slanted sides, gone in both ways; a sample on one belongs to what is right of it.
func TestOwnersOfSlants(t *testing.T) {
	// Down at the left: each row's slant meets it just at a sample.
	wedge := []sweep.Seg{seg(0, 0, 64, 64, 1, 0)}
	expectPicture(t, wedge, 1, 1, "1111", ".111", "..11", "...1")
	expectPicture(t, []sweep.Seg{turned(wedge[0])}, 1, 1, "1111", ".111", "..11", "...1")
	// A step to the right, a step to the left.
	expectPicture(t, []sweep.Seg{seg(2, 0, 66, 64, 1, 0)}, 1, 1, ".111", "..11", "...1", "....")
	expectPicture(t, []sweep.Seg{seg(-2, 0, 62, 64, 1, 0)}, 1, 1, "1111", ".111", "..11", "...1")
	// The other way; it meets the rows at samples again.
	expectPicture(t, []sweep.Seg{seg(62, 0, -2, 64, 1, 0)}, 1, 1, "...1", "..11", ".111", "1111")
	expectPicture(t, []sweep.Seg{seg(64, 0, 0, 64, 1, 0)}, 1, 1, "....", "...1", "..11", ".111")
	// A rhomb, and one of two styles.
	expectPicture(t, around(3, at(64, 0), at(0, 64), at(64, 128), at(128, 64)), 2, 2,
		"........",
		"...33...",
		"..3333..",
		".333333.",
		"33333333",
		".333333.",
		"..3333..",
		"...33...")
	expectPicture(t, []sweep.Seg{seg(0, 0, 0, 64, 1, 0), seg(48, 64, 16, 0, 1, 2), seg(64, 0, 64, 64, 0, 2)}, 1, 1, "1222", "1122", "1122", "1112")
}

// P17.1: of samples that are wound by several styles, the greatest one has them.
func TestGreatestStyle(t *testing.T) {
	l := slices.Concat(box(1, 0, 0, 64, 64), box(3, 16, 16, 48, 64), box(2, 32, 0, 64, 48))
	picture := []string{"1122", "1332", "1332", "1331"}
	expectPicture(t, l, 1, 1, picture...)
	slices.Reverse(l)
	expectPicture(t, l, 1, 1, picture...)
	// Neighbours, and those far from one another, by pairs, in any order.
	styles := []int{1, 2, 31, 32, 33, 62, 63, 64, 65, 126, 127, 128, 129, 190, 191, 192, 193, 253, 254, 255}
	for _, low := range styles {
		for _, high := range styles {
			want := make([]int, 16)
			for i := range want {
				want[i] = low
				if i%4 == 1 || i%4 == 2 {
					want[i] = max(low, high)
				}
			}
			expectOwners(t, append(box(low, 0, 0, 64, 64), box(high, 16, 0, 48, 64)...), 1, 1, want)
		}
	}
}

// P17.1: a sample that is wound less than 0 times, or as often by what gives as by what takes, is not a style's.
func TestWoundTooLittle(t *testing.T) {
	right := box(4, 0, 0, 64, 64)
	// The same the other way around: wound once less than 0 times.
	wrong := around(4, at(0, 0), at(64, 0), at(64, 64), at(0, 64))
	expectWound(t, wrong, 4, 7, 7, -1)
	expectWound(t, wrong, 0, 7, 7, 1)
	expectPicture(t, wrong, 1, 1, "....", "....", "....", "....")
	expectPicture(t, slices.Concat(right, wrong), 1, 1, "....", "....", "....", "....")
	expectPicture(t, slices.Concat(wrong, right), 1, 1, "....", "....", "....", "....")
	expectPicture(t, slices.Concat(wrong, wrong, right), 1, 1, "....", "....", "....", "....")
	expectPicture(t, slices.Concat(wrong, right, right), 1, 1, "4444", "4444", "4444", "4444")
	// What lies beneath is not hidden by it.
	expectPicture(t, slices.Concat(wrong, box(1, 0, 0, 64, 64)), 1, 1, "1111", "1111", "1111", "1111")
	expectPicture(t, slices.Concat(box(1, 0, 0, 64, 64), around(4, at(16, 0), at(48, 0), at(48, 64), at(16, 64))), 1, 1, "1111", "1111", "1111", "1111")
}

// P17.1: a sample that is wound several times is its style's till all of them are taken.
func TestWoundSeveralTimes(t *testing.T) {
	l := slices.Concat(box(4, 0, 0, 64, 64), box(4, 0, 16, 48, 64), box(4, 0, 32, 32, 64))
	expectWound(t, l, 4, 7, 7, 1)
	expectWound(t, l, 4, 7, 23, 2)
	expectWound(t, l, 4, 7, 39, 3)
	expectWound(t, l, 4, 39, 39, 2)
	expectWound(t, l, 4, 55, 39, 1)
	expectPicture(t, l, 1, 1, "4444", "4444", "4444", "4444")
	hole := around(4, at(16, 16), at(48, 16), at(48, 48), at(16, 48))
	expectPicture(t, slices.Concat(hole, box(4, 0, 0, 64, 64)), 1, 1, "4444", "4..4", "4..4", "4444")
	expectPicture(t, slices.Concat(hole, l), 1, 1, "4444", "4444", "4444", "4444")
	expectPicture(t, slices.Concat(hole, l, hole), 1, 1, "4444", "4..4", "44.4", "4444")
	// In one column, and one by one.
	many := []sweep.Seg{seg(0, 0, 0, 64, 4, 0), seg(0, 0, 0, 64, 4, 0), seg(16, 0, 16, 64, 0, 4), seg(32, 0, 32, 64, 0, 4), seg(48, 0, 48, 64, 0, 4)}
	expectPicture(t, many, 1, 1, "44..", "44..", "44..", "44..")
	expectPicture(t, append(many, seg(48, 0, 48, 64, 4, 0), seg(48, 64, 48, 0, 0, 4)), 1, 1, "44.4", "44.4", "44.4", "44.4")
}

// P17.1, P3: faces that share a side leave no sample to none, and none to both.
func TestSharedSides(t *testing.T) {
	// One segment between them, with one style on each side.
	between := []sweep.Seg{seg(-20, -20, -20, 90, 1, 0), seg(22, -20, 38, 90, 2, 1), seg(90, -20, 90, 90, 0, 2)}
	// Each face has it for itself.
	apart := slices.Concat(around(1, at(-20, -20), at(-20, 90), at(38, 90), at(22, -20)), around(2, at(22, -20), at(38, 90), at(90, 90), at(90, -20)))
	for _, l := range [][]sweep.Seg{between, apart} {
		expectPicture(t, l, 1, 1, "1122", "1122", "1122", "1122")
	}
	// A side through samples, of two faces that are triangles.
	lower, upper := around(1, at(0, 0), at(0, 64), at(64, 64)), around(2, at(0, 0), at(64, 64), at(64, 0))
	expectPicture(t, append(lower, upper...), 1, 1, "2222", "1222", "1122", "1112")
}

// P17.1: what lies beside a frame is as if it were cut off: left of it segments wind whole rows, right of it, above and below none.
func TestBeside(t *testing.T) {
	const far = 1 << 24
	expectPicture(t, box(1, -far, -far, far, far), 1, 1, "1111", "1111", "1111", "1111")
	expectPicture(t, box(1, -far, -far, 32, 32), 1, 1, "11..", "11..", "....", "....")
	expectPicture(t, box(1, 32, 32, far, far), 1, 1, "....", "....", "..11", "..11")
	expectPicture(t, box(1, -64, 16, -2, 48), 1, 1, "....", "....", "....", "....")
	expectPicture(t, box(1, 64, 16, 128, 48), 1, 1, "....", "....", "....", "....")
	expectPicture(t, box(1, 16, -64, 48, 0), 1, 1, "....", "....", "....", "....")
	expectPicture(t, box(1, 16, 64, 48, 128), 1, 1, "....", "....", "....", "....")
	// Just as far as the first and the last samples, and a step further.
	expectPicture(t, box(1, 6, 6, 56, 56), 1, 1, "1111", "1111", "1111", "1111")
	expectPicture(t, box(1, 8, 8, 54, 54), 1, 1, "....", ".11.", ".11.", "....")
	expectPicture(t, []sweep.Seg{seg(54, 0, 54, 64, 1, 0)}, 1, 1, "...1", "...1", "...1", "...1")
	expectPicture(t, []sweep.Seg{seg(-far, 0, far, 64, 1, 0)}, 1, 1, "1111", "1111", "....", "....")
	expectPicture(t, []sweep.Seg{seg(far, 0, -far, 64, 1, 0)}, 1, 1, "....", "....", "1111", "1111")
}

// P17.1, P17.2: a frame as great as can be, half of which a slant cuts off.
func TestGreatestFrame(t *testing.T) {
	const side = 256
	l := around(1, at(0, 0), at(0, 64*side), at(64*side, 64*side))
	owners, e := sweep.Owners(l, side, side)
	if e != api.OK || len(owners) != 16*side*side {
		t.Fatalf("Owners: %d of them, %d", len(owners), e)
	}
	for k := range 4 * side {
		for i := range 4 * side {
			want := 1
			// The last side, gone up, takes what lies right of it, a sample on it too.
			if i >= k {
				want = 0
			}
			if got := owners[4*side*k+i]; got != want {
				t.Fatalf("the sample %d, %d: %d, want %d", i, k, got, want)
			}
		}
	}
	for _, x := range []struct{ x, y, want int }{
		{0, 0, 6}, {1, 0, 0}, {0, 1, 16}, {255, 255, 6}, {254, 255, 16}, {255, 254, 0}, {0, 255, 16}, {255, 0, 0}, {100, 100, 6}, {100, 101, 16}, {256, 255, 0}, {255, 256, 0},
	} {
		if got := sweep.Cover(owners, side, side, x.x, x.y, 1); got != x.want {
			t.Errorf("Cover at %d, %d = %d, want %d", x.x, x.y, got, x.want)
		}
	}
}

// P17.2: each pixel has its own samples, those at the frame's edges too; styles that are none have none.
func TestCover(t *testing.T) {
	// A number of samples for each pixel, by its first ones.
	counts := [][]int{{16, 0, 5}, {1, 9, 12}}
	owners := make([]int, 16*3*2)
	for y, row := range counts {
		for x, count := range row {
			for n := range count {
				owners[(4*y+n/4)*12+4*x+n%4] = 255
			}
		}
	}
	for y, row := range counts {
		for x, count := range row {
			expectCover(t, owners, 3, 2, x, y, 255, count)
			expectCover(t, owners, 3, 2, x, y, 0, 16-count)
			for _, style := range []int{1, 254, 256, -1, 511, -255, most, least} {
				expectCover(t, owners, 3, 2, x, y, style, 0)
			}
		}
	}
	for _, at := range [][2]int{{-1, 0}, {3, 0}, {0, -1}, {0, 2}, {3, 2}, {-1, -1}, {3, 1}, {2, 2}} {
		expectCover(t, owners, 3, 2, at[0], at[1], 255, 0)
		expectCover(t, owners, 3, 2, at[0], at[1], 0, 0)
	}
	// As many, but in other rows.
	expectCover(t, owners, 2, 3, 0, 0, 255, 12)
	expectCover(t, owners, 6, 1, 5, 0, 255, wordsCover(owners, 6, 1, 5, 0, 255))
	expectCover(t, owners, 1, 6, 0, 5, 255, wordsCover(owners, 1, 6, 0, 5, 255))
}

// P17.2: each sample alone is of one pixel.
func TestCoverOfOne(t *testing.T) {
	const w, h = 3, 2
	for n := range 16 * w * h {
		owners := make([]int, 16*w*h)
		owners[n] = 7
		for y := -1; y <= h; y++ {
			for x := -1; x <= w; x++ {
				expectCover(t, owners, w, h, x, y, 7, wordsCover(owners, w, h, x, y, 7))
				expectCover(t, owners, w, h, x, y, 0, wordsCover(owners, w, h, x, y, 0))
			}
		}
	}
}
