package stroke_test

import (
	"slices"
	"testing"

	"celluloid/stroke"
)

// P18.2: without pieces, or with such as no sample is near, no sample has a line.
func TestOwnersOfNothing(t *testing.T) {
	for _, l := range [][]stroke.Piece{
		nil, {}, {piece(0, 0, 0, 0, 1, 1)}, {piece(32, 32, 32, 32, 1, 19)}, {piece(0, 0, 0, 0, 1, 19)}, {piece(0, 16, 64, 16, 1, 13)}, {piece(16, 0, 16, 64, 1, 13)},
		{piece(-2, 0, -2, 64, 1, 17)}, {piece(64, 0, 64, 64, 1, 17)}, {piece(0, -2, 64, -2, 1, 17)}, {piece(0, 64, 64, 64, 1, 17)}, {piece(-far, far, far, far, 1, 1<<20)},
		{piece(-far, -far, -far, far, 1, 1<<20)}, {piece(far, -far, -far, -far, 1, 1<<20)}, {piece(far, -far, far, far, 1, 1<<20)}, {piece(8, 0, 72, 64, 1, 1)},
	} {
		expectPicture(t, l, 1, 1, "....", "....", "....", "....")
	}
	for _, w := range []int{1, 2, 255, 256} {
		for _, h := range []int{1, 3, 256} {
			expectOwners(t, nil, w, h, make([]int, 16*w*h))
		}
	}
}

// P18.2: pieces that are a point are near what is around them.
func TestOwnersOfPoints(t *testing.T) {
	p := piece(32, 32, 32, 32, 1, 1)
	// By the squares of 98, 130 and 162, 4 times each.
	expectPicture(t, []stroke.Piece{wide(p, 19)}, 1, 1, "....", "....", "....", "....")
	expectPicture(t, []stroke.Piece{wide(p, 20)}, 1, 1, "....", "....", "..1.", "....")
	expectPicture(t, []stroke.Piece{wide(p, 22)}, 1, 1, "....", "....", "..1.", "....")
	expectPicture(t, []stroke.Piece{wide(p, 23)}, 1, 1, "....", "..1.", ".11.", "....")
	expectPicture(t, []stroke.Piece{wide(p, 26)}, 1, 1, "....", ".11.", ".11.", "....")
	// Of 578, 610, 674 and 706.
	expectPicture(t, []stroke.Piece{wide(p, 48)}, 1, 1, "....", ".11.", ".11.", "....")
	expectPicture(t, []stroke.Piece{wide(p, 49)}, 1, 1, "....", ".11.", ".111", "..1.")
	expectPicture(t, []stroke.Piece{wide(p, 50)}, 1, 1, "....", ".111", ".111", ".11.")
	expectPicture(t, []stroke.Piece{wide(p, 52)}, 1, 1, "..1.", ".111", "1111", ".11.")
	expectPicture(t, []stroke.Piece{wide(p, 54)}, 1, 1, ".11.", "1111", "1111", ".11.")
	// Of 1058, 1154 and 1250.
	expectPicture(t, []stroke.Piece{wide(p, 66)}, 1, 1, ".11.", "1111", "1111", ".111")
	expectPicture(t, []stroke.Piece{wide(p, 68)}, 1, 1, ".111", "1111", "1111", "1111")
	expectPicture(t, []stroke.Piece{wide(p, 71)}, 1, 1, "1111", "1111", "1111", "1111")
	expectPicture(t, []stroke.Piece{wide(p, 1<<20)}, 1, 1, "1111", "1111", "1111", "1111")
	// Beside the frame.
	expectPicture(t, []stroke.Piece{piece(-32, 8, -32, 8, 1, 80)}, 1, 1, "1...", "....", "....", "....")
	expectPicture(t, []stroke.Piece{piece(8, -32, 8, -32, 1, 80)}, 1, 1, "1...", "....", "....", "....")
	expectPicture(t, []stroke.Piece{piece(96, 54, 96, 54, 1, 90)}, 1, 1, "....", "....", "...1", "...1")
	expectPicture(t, []stroke.Piece{piece(54, 96, 54, 96, 1, 90)}, 1, 1, "....", "....", "....", "..11")
}

// P18.2: row by row, each from left to right, of frames that are wider, or higher.
func TestOwnersInRows(t *testing.T) {
	l := []stroke.Piece{piece(24, 16, 72, 16, 1, 20), piece(0, 72, 0, 88, 2, 48)}
	expectPicture(t, l, 2, 1,
		".1111...",
		".1111...",
		"........",
		"2.......")
	expectPicture(t, l, 1, 2,
		".111",
		".111",
		"....",
		"2...",
		"22..",
		"22..",
		"2...",
		"....")
	expectPicture(t, l, 2, 2,
		".1111...",
		".1111...",
		"........",
		"2.......",
		"22......",
		"22......",
		"2.......",
		"........")
}

// P18.2: slanting pieces, gone in both ways.
func TestOwnersOfSlants(t *testing.T) {
	for _, x := range []struct {
		p    stroke.Piece
		rows []string
	}{
		// From sample to sample: none is aside of it, but those beside by a root of 128 or more.
		{piece(6, 6, 56, 56, 1, 2), []string{"1...", ".1..", "..1.", "...1"}},
		{piece(6, 6, 56, 56, 1, 22), []string{"1...", ".1..", "..1.", "...1"}},
		{piece(6, 6, 56, 56, 1, 23), []string{"11..", "111.", ".111", "..11"}},
		{piece(6, 6, 56, 56, 1, 45), []string{"11..", "111.", ".111", "..11"}},
		{piece(6, 6, 56, 56, 1, 46), []string{"111.", "1111", "1111", ".111"}},
		// The other way; it goes by samples a step aside.
		{piece(56, 6, 6, 56, 1, 2), []string{"...1", "..1.", ".1..", "1..."}},
		{piece(58, 8, 8, 58, 1, 2), []string{"....", "....", "....", "...."}},
		{piece(58, 8, 8, 58, 1, 6), []string{"...1", "..1.", ".1..", "1..."}},
		// Flat ones, and steep ones.
		{piece(0, 0, 64, 32, 1, 8), []string{"1...", "..1.", "....", "...."}},
		{piece(0, 0, 64, 32, 1, 9), []string{"11..", "..11", "....", "...."}},
		{piece(0, 0, 64, 32, 1, 20), []string{"11..", "..11", "....", "...."}},
		{piece(0, 0, 64, 32, 1, 22), []string{"11..", ".111", "...1", "...."}},
		{piece(0, 0, 64, 32, 1, 23), []string{"111.", ".111", "...1", "...."}},
		{piece(0, 0, 32, 64, 1, 8), []string{"1...", "....", ".1..", "...."}},
		{piece(0, 0, 32, 64, 1, 9), []string{"1...", "1...", ".1..", ".1.."}},
		{piece(0, 0, 32, 64, 1, 20), []string{"1...", "1...", ".1..", ".1.."}},
		{piece(0, 0, 32, 64, 1, 22), []string{"1...", "11..", ".1..", ".11."}},
		{piece(0, 0, 32, 64, 1, 23), []string{"1...", "11..", "11..", ".11."}},
	} {
		expectPicture(t, []stroke.Piece{x.p}, 1, 1, x.rows...)
		expectPicture(t, []stroke.Piece{turned(x.p)}, 1, 1, x.rows...)
	}
	ring := []stroke.Piece{piece(56, 6, 6, 56, 3, 4), piece(6, 70, 56, 120, 3, 4), piece(70, 120, 120, 70, 3, 4), piece(120, 56, 70, 6, 3, 4)}
	expectPicture(t, ring, 2, 2,
		"...33...",
		"..3..3..",
		".3....3.",
		"3......3",
		"3......3",
		".3....3.",
		"..3..3..",
		"...33...")
}

// P18.2: of samples that are near several pieces, the greatest Line has them.
func TestGreatestLine(t *testing.T) {
	l := []stroke.Piece{piece(32, 24, 32, 40, 3, 30), piece(0, 56, 64, 56, 1, 40), piece(56, 0, 56, 64, 2, 40)}
	picture := []string{"..22", ".332", "1332", "1122"}
	expectPicture(t, l, 1, 1, picture...)
	slices.Reverse(l)
	expectPicture(t, l, 1, 1, picture...)
	// Neighbours, and those far from one another, by pairs, in any order; the wider one is the lesser one, or the greater.
	lines := []int{1, 2, 31, 32, 63, 64, 65, 127, 128, 129, 191, 192, 193, 254, 255}
	for _, low := range lines {
		for _, high := range lines {
			want := make([]int, 16)
			for i := range want {
				want[i] = low
				if i%4 == 1 || i%4 == 2 {
					want[i] = max(low, high)
				}
			}
			expectOwners(t, []stroke.Piece{piece(32, 0, 32, 64, low, 64), piece(32, 0, 32, 64, high, 20)}, 1, 1, want)
			expectOwners(t, []stroke.Piece{piece(32, 64, 32, 0, high, 20), piece(32, 64, 32, 0, low, 64)}, 1, 1, want)
		}
	}
}

// P18.2: what several pieces of one line are near is the line's, once or more often.
func TestOneLine(t *testing.T) {
	l := []stroke.Piece{piece(0, 8, 64, 8, 4, 20), piece(8, 0, 8, 64, 4, 30), piece(0, 8, 64, 8, 4, 20), piece(56, 56, 56, 56, 4, 10), piece(0, 40, 64, 40, 1, 4)}
	expectPicture(t, l, 1, 1, "4444", "44..", "4411", "44.4")
	expectPicture(t, l[:4], 1, 1, "4444", "44..", "44..", "44.4")
	expectPicture(t, l[:2], 1, 1, "4444", "44..", "44..", "44..")
	expectPicture(t, l[4:], 1, 1, "....", "....", "1111", "....")
}

// P18.2: gaps between pieces, in one row, are filled by lesser ones, and by nothing twice.
func TestGaps(t *testing.T) {
	var l []stroke.Piece
	for i := range 8 {
		l = append(l, piece(32*i+8, 8, 32*i+8, 24, 9-i, 12))
	}
	l = append(l, piece(0, 8, 240, 8, 1, 20))
	for range 2 {
		expectPicture(t, l, 4, 1,
			"9181716151413121",
			"9.8.7.6.5.4.3.2.",
			"................",
			"................")
		slices.Reverse(l)
	}
}
