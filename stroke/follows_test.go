package stroke_test

import (
	"testing"

	"celluloid/api"
	"celluloid/stroke"
)

// P18.2: as the words tell, of pieces of any place by small frames.
func TestWords(t *testing.T) {
	t.Parallel()
	d := dice(1801)
	for range 1000 {
		w, h := 1+d.roll(3), 1+d.roll(3)
		l := d.pieces(d.roll(12), w, h)
		want, _ := wordsOwners(l, w, h)
		expectOwners(t, l, w, h, want)
	}
	for _, side := range [][2]int{{1, 256}, {256, 1}, {2, 255}, {255, 2}} {
		w, h := side[0], side[1]
		l := d.pieces(8, w, h)
		want, _ := wordsOwners(l, w, h)
		expectOwners(t, l, w, h, want)
	}
}

// P18.1: as the words tell, whether samples are near, where they are about as far as they may be.
func TestWordsOfNear(t *testing.T) {
	t.Parallel()
	d := dice(1802)
	nears := 0
	for range 40000 {
		p := d.piece(4, 4)
		x, y := d.beside(p)
		want := wordsNear(p, x, y)
		expectNear(t, p, x, y, want)
		if want {
			nears++
		}
	}
	if nears < 8000 || nears > 32000 {
		t.Errorf("%d of 40000 samples are near", nears)
	}
}

// P18.1: of each sample and piece there is a least width by which it is near, to one unit.
func TestLeastWidth(t *testing.T) {
	t.Parallel()
	d := dice(1804)
	near, never := 0, 0
	for range 20000 {
		p := d.piece(4, 4)
		x, y := d.beside(p)
		if d.roll(10) == 0 {
			x, y = d.far(far), d.far(far)
		}
		width := wordsLeast(p, x, y)
		if width > 1<<20 {
			never++
			expectNear(t, wide(p, 1<<20), x, y, false)
			continue
		}
		near++
		expectLeast(t, p, x, y, max(1, width))
	}
	if near < 5000 || never < 500 {
		t.Errorf("%d samples may be near, %d never", near, never)
	}
}

// P18.1: as the words tell, widths of all twips and matrices.
func TestWordsOfWidth(t *testing.T) {
	t.Parallel()
	d := dice(1805)
	seen := map[bool]int{}
	for range 40000 {
		twips, m := d.roll(1<<(1+d.roll(16))), d.matrix()
		want := wordsWidth(twips, m)
		seen[want == 64 || want == 1<<20]++
		expectWidth(t, twips, m, want)
	}
	if min(seen[true], seen[false]) < 10000 {
		t.Errorf("so many widths are at an end, or between: %v", seen)
	}
}

// P18.2: Owners tells of each sample the greatest Line of a piece to which Near tells that it is near.
func TestOwnersAsNear(t *testing.T) {
	t.Parallel()
	d := dice(1806)
	for range 200 {
		w, h := 1+d.roll(256), 1+d.roll(256)
		l := d.pieces(30, w, h)
		owners, e := stroke.Owners(l, w, h)
		if e != api.OK || len(owners) != 16*w*h {
			t.Fatalf("Owners: %d of them, %d", len(owners), e)
		}
		for range 300 {
			n, want := d.roll(len(owners)), 0
			for _, p := range l {
				if p.Line > want && stroke.Near(p, 16*(n%(4*w))+7, 16*(n/(4*w))+7) {
					want = p.Line
				}
			}
			if owners[n] != want {
				t.Errorf("the sample %d of %v: %d, want %d", n, l, owners[n], want)
			}
		}
	}
}

// P18.3: a piece that is turned about is near the same.
func TestTurnedAbout(t *testing.T) {
	t.Parallel()
	d := dice(1807)
	for range 20000 {
		p := d.piece(2, 2)
		x, y := d.beside(p)
		expectNear(t, turned(p), x, y, stroke.Near(p, x, y))
	}
	for range 1000 {
		l := d.pieces(1+d.roll(6), 2, 2)
		owners, _ := stroke.Owners(l, 2, 2)
		for i, p := range l {
			if d.roll(2) == 0 {
				l[i] = turned(p)
			}
		}
		expectOwners(t, l, 2, 2, owners)
	}
}

// P18.3: a piece that is wider is near all that it was, and more.
func TestWider(t *testing.T) {
	t.Parallel()
	d := dice(1808)
	more := 0
	for range 20000 {
		p := d.piece(2, 2)
		wider := wide(p, p.Width+d.roll(1<<20-p.Width+1)/(1+d.roll(1000)))
		x, y := d.beside(p)
		switch {
		case stroke.Near(p, x, y):
			expectNear(t, wider, x, y, true)
		case stroke.Near(wider, x, y):
			more++
		}
	}
	if more < 1000 {
		t.Errorf("the wider ones are near %d more", more)
	}
	for range 1000 {
		p := d.piece(2, 2)
		before, _ := stroke.Owners([]stroke.Piece{p}, 2, 2)
		after, _ := stroke.Owners([]stroke.Piece{wide(p, p.Width+d.roll(min(64, 1<<20-p.Width+1)))}, 2, 2)
		for n, owner := range before {
			if owner != 0 && after[n] != owner {
				t.Errorf("the sample %d is near %v, and not if it is wider", n, p)
			}
		}
	}
}

// P18.3: a piece is near what one of its parts is near; and all that it is near, one of two parts that make it up is near.
func TestParts(t *testing.T) {
	t.Parallel()
	d := dice(1810)
	nears := 0
	for range 10000 {
		// As many steps from one end on as a cut needs to lie on even parts.
		steps := 2 + d.roll(9)
		from, by := d.near(2, 2), at(d.even(1<<(1+d.roll(16))), d.even(1<<(1+d.roll(16))))
		p := stroke.Piece{A: from, B: at(from.X+steps*by.X, from.Y+steps*by.Y), Line: d.line(), Width: d.width()}
		cut := d.roll(steps + 1)
		first, second := p, p
		first.B = at(from.X+cut*by.X, from.Y+cut*by.Y)
		second.A = first.B
		for range 4 {
			x, y := d.beside([]stroke.Piece{p, first, second}[d.roll(3)])
			want := stroke.Near(first, x, y) || stroke.Near(second, x, y)
			expectNear(t, p, x, y, want)
			if want {
				nears++
			}
		}
		if d.roll(8) == 0 {
			owners, _ := stroke.Owners([]stroke.Piece{p}, 2, 2)
			expectOwners(t, []stroke.Piece{first, second}, 2, 2, owners)
		}
	}
	if nears < 8000 || nears > 32000 {
		t.Errorf("%d of 40000 samples are near", nears)
	}
}

// P18.2, R4: in whatever order pieces stand, and twice or once, the owners are the same: of each sample the greatest one of theirs.
func TestAnyOrder(t *testing.T) {
	t.Parallel()
	d := dice(1811)
	for range 500 {
		l := d.pieces(1+d.roll(8), 3, 2)
		want := make([]int, 16*3*2)
		for _, p := range l {
			owners, _ := stroke.Owners([]stroke.Piece{p}, 3, 2)
			for n, owner := range owners {
				want[n] = max(want[n], owner)
			}
		}
		for i := range l {
			k := d.roll(len(l))
			l[i], l[k] = l[k], l[i]
		}
		expectOwners(t, l, 3, 2, want)
		expectOwners(t, append(l, l[d.roll(len(l))]), 3, 2, want)
	}
}

// P18.2: very many pieces, and a frame as great as can be.
func TestMany(t *testing.T) {
	t.Parallel()
	d := dice(1812)
	for _, width := range []int{1, 4, 300, 1 << 20} {
		l := d.pieces(4096, 256, 256)
		for i := range l {
			l[i].Width = min(l[i].Width, width)
		}
		owners, e := stroke.Owners(l, 256, 256)
		if e != api.OK || len(owners) != 1024*1024 {
			t.Fatalf("Owners: %d of them, %d", len(owners), e)
		}
		for range 3 {
			i, k := d.roll(1024), d.roll(1024)
			want := 0
			for _, p := range l {
				if p.Line > want && wordsNear(p, 16*i+7, 16*k+7) {
					want = p.Line
				}
			}
			if got := owners[1024*k+i]; got != want {
				t.Errorf("the sample %d, %d: %d, want %d", i, k, got, want)
			}
		}
	}
}
