package stroke_test

import (
	"slices"
	"testing"

	"celluloid/api"
	"celluloid/field"
	"celluloid/stroke"
)

// wrongPieces are some whose ends, line or width are not as they must be, in one number; but for it, the samples at (7, 7) and (33, 33) are near them.
func wrongPieces() []stroke.Piece {
	var l []stroke.Piece
	for _, n := range []int{
		1, -1, 3, -3, 65535, far - 1, 1 - far, far + 1, -far - 1, far + 2, -far - 2,
		1 << 25, -1 << 25, 1 << 32, 1<<32 + 2, 1 << 62, -1 << 62, most, most - 1, least, least + 1,
	} {
		l = append(l, piece(n, 0, 64, 64, 1, 200), piece(0, n, 64, 64, 1, 200), piece(0, 0, n, 64, 1, 200), piece(0, 0, 64, n, 1, 200), piece(n, n, n, n, 1, 200))
	}
	for _, n := range []int{0, -1, -2, 256, 257, 512, -255, -256, 1 << 32, 1<<32 + 1, most, least} {
		l = append(l, piece(0, 0, 64, 64, n, 200), piece(64, 0, 0, 64, n, 1<<20))
	}
	for _, n := range []int{0, -1, -2, -64, -1 << 20, 1<<20 + 1, 1<<20 + 2, 1 << 21, 1 << 32, 1<<32 + 200, 1 << 62, most, least} {
		l = append(l, piece(0, 0, 64, 64, 1, n), piece(32, 32, 32, 32, 255, n))
	}
	return l
}

func expectArg(t *testing.T, l []stroke.Piece, w int, h int) {
	t.Helper()
	if got, e := stroke.Owners(l, w, h); e != api.ErrArg || len(got) != 0 {
		t.Errorf("Owners(%v, %d, %d): %d of them, %d, want none, ErrArg", l, w, h, len(got), e)
	}
}

// P18.1: nothing is near a piece that is not right, even at its ends.
func TestNearWrong(t *testing.T) {
	for _, p := range wrongPieces() {
		for _, x := range []api.Point{p.A, p.B, at(0, 0), at(7, 7), at(33, 33), at(64, 64), at(least, least), at(most, most)} {
			expectNear(t, p, x.X, x.Y, false)
		}
	}
}

// P18.1: no sample beyond 2^24 is near.
func TestNearTooFar(t *testing.T) {
	long := piece(-far, -far, far, far, 1, 1<<20)
	for _, p := range []stroke.Piece{long, turned(long), piece(far, far, far, far, 1, 1<<20), piece(-far, -far, -far, -far, 1, 1<<20), piece(0, 0, 0, 0, 1, 1<<20)} {
		for _, n := range []int{far + 1, -far - 1, far + 2, far + 3, -far - 3, 1 << 25, -1 << 25, 1 << 32, -1 << 32, 1<<32 + 1, 1 << 62, -1 << 62, most, most - 1, least, least + 1} {
			for _, m := range []int{0, 1, far, -far, n} {
				expectNear(t, p, n, m, false)
				expectNear(t, p, m, n, false)
			}
		}
	}
	for _, n := range []int{far, -far, far - 1, 1 - far, far - 2, 0, 1, -1} {
		expectNear(t, long, n, n, true)
		expectNear(t, turned(long), n, n, true)
	}
}

// P18.1: there is no width of a line of other twips, or by a matrix that is not right.
func TestWidthOfWrong(t *testing.T) {
	for _, n := range []int{-1, -2, -100, -65536, 65536, 65537, 1 << 17, 1 << 32, 1<<32 + 100, 1 << 48, 1 << 62, most, most - 1, least, least + 1} {
		for _, m := range []api.Matrix{field.Same(), {}, {A: 1 << 22, D: 1 << 22}, {A: 1, D: 1}, {A: most, D: most}} {
			expectWidth(t, n, m, 0)
		}
	}
	var wrong []api.Matrix
	for _, n := range []int{1<<22 + 1, -1<<22 - 1, 1 << 23, 1 << 32, 1 << 62, most, least} {
		wrong = append(wrong, api.Matrix{A: n, D: api.One}, api.Matrix{A: api.One, D: n}, api.Matrix{A: api.One, B: n, D: api.One}, api.Matrix{A: api.One, C: n, D: api.One}, api.Matrix{A: n, B: n, C: n, D: n})
	}
	for _, n := range []int{1<<20 + 1, -1<<20 - 1, 1 << 21, 1 << 32, most, least} {
		wrong = append(wrong, api.Matrix{A: api.One, D: api.One, X: n}, api.Matrix{A: api.One, D: api.One, Y: n}, api.Matrix{X: n, Y: n})
	}
	for _, m := range wrong {
		for _, twips := range []int{0, 1, 20, 100, 65535, 65536, -1, most, least} {
			expectWidth(t, twips, m, 0)
		}
	}
}

// P18.2: Owners has ErrArg, and nothing beside it, of a frame that is none, or a piece that is not right, wherever it stands.
func TestOwnersOfWrong(t *testing.T) {
	good := []stroke.Piece{piece(0, 0, 64, 0, 1, 64), piece(64, 0, 64, 64, 2, 64), piece(64, 64, 0, 0, 3, 64)}
	for _, n := range []int{0, -1, 257, 258, 512, -256, 1 << 32, 1<<32 + 1, 1 << 62, most, least} {
		for _, l := range [][]stroke.Piece{nil, {}, good, {piece(1, 0, 0, 0, 1, 1)}} {
			expectArg(t, l, n, 1)
			expectArg(t, l, 1, n)
			expectArg(t, l, n, n)
			expectArg(t, l, 256, n)
			expectArg(t, l, n, 256)
		}
	}
	for _, p := range wrongPieces() {
		for place := range len(good) + 1 {
			expectArg(t, slices.Insert(slices.Clone(good), place, p), 1, 1)
		}
		expectArg(t, []stroke.Piece{p}, 1, 1)
		expectArg(t, []stroke.Piece{p}, 256, 256)
		expectArg(t, []stroke.Piece{p}, 257, 1)
	}
	expectArg(t, []stroke.Piece{{}}, 1, 1)
}

// P1, P18.1, P18.2: of any numbers there is what the words tell, or nothing.
func TestMuddled(t *testing.T) {
	t.Parallel()
	d := dice(1803)
	right, wide := 0, 0
	for range 6000 {
		w, h := 1+d.roll(2), 1+d.roll(2)
		l := d.pieces(d.roll(4), w, h)
		for range d.roll(3) {
			if len(l) > 0 {
				d.muddle(&l[d.roll(len(l))])
			}
		}
		if d.roll(6) == 0 {
			*[]*int{&w, &h}[d.roll(2)] = d.any()
		}
		want, e := wordsOwners(l, w, h)
		if e == api.OK {
			right++
			expectOwners(t, l, w, h, want)
		} else {
			expectArg(t, l, w, h)
		}
		for _, p := range l {
			if got := stroke.RightPiece(p); got != wordsRight(p) {
				t.Errorf("RightPiece(%v) = %v", p, got)
			}
			x, y := d.any(), d.any()
			expectNear(t, p, x, y, wordsNear(p, x, y))
			expectNear(t, p, p.A.X, p.B.Y, wordsNear(p, p.A.X, p.B.Y))
			expectNear(t, p, p.A.X, p.A.Y, wordsNear(p, p.A.X, p.A.Y))
		}
		twips, m := d.roll(65536), d.matrix()
		if d.roll(2) == 0 {
			*[]*int{&twips, &m.A, &m.B, &m.C, &m.D, &m.X, &m.Y}[d.roll(7)] = d.any()
		}
		if wordsWidth(twips, m) > 0 {
			wide++
		}
		expectWidth(t, twips, m, wordsWidth(twips, m))
	}
	if min(right, wide) < 1500 || max(right, wide) > 4800 {
		t.Errorf("%d right ones, and %d widths, of 6000", right, wide)
	}
}

// R1, R4, R5: what is handed in stays, with the room behind it, and in its order; what is answered is new each time, and the same.
func TestNewEachTime(t *testing.T) {
	d := dice(1809)
	room := d.pieces(12, 2, 2)
	// The lesser Line stands first: where they are put in another order, that must not be seen. The first one goes up: so with its ends.
	room[0], room[1] = piece(0, 128, 64, 0, 1, 20), piece(0, 64, 128, 0, 9, 20)
	l, before := room[:9], slices.Clone(room)
	want, _ := wordsOwners(l, 2, 2)
	owners, e := stroke.Owners(l, 2, 2)
	if e != api.OK || !slices.Equal(owners, want) {
		t.Fatalf("Owners = %v, %d", owners, e)
	}
	stroke.Near(l[0], 7, 7)
	if !slices.Equal(room, before) {
		t.Error("an argument is another one")
	}
	clear(owners[:cap(owners)])
	expectOwners(t, l, 2, 2, want)
	expectOwners(t, l, 2, 2, want)
	if !slices.Equal(room, before) {
		t.Error("an argument is another one")
	}
}
