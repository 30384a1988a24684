package sweep_test

import (
	"testing"

	"celluloid/api"
	"celluloid/sweep"
)

// P17.1: as the words tell, of segments of any place by small frames.
func TestWords(t *testing.T) {
	t.Parallel()
	d := dice(1701)
	for range 3000 {
		w, h := 1+d.roll(3), 1+d.roll(3)
		l := d.segs(d.roll(12), w, h)
		want, _ := wordsOwners(l, w, h)
		expectOwners(t, l, w, h, want)
	}
}

// P17.1: as the words tell, of faces that lie over one another, in frames of all kinds.
func TestWordsOfFaces(t *testing.T) {
	t.Parallel()
	d := dice(1702)
	for range 300 {
		w, h := 1+d.roll(8), 1+d.roll(8)
		var l []sweep.Seg
		for range 1 + d.roll(5) {
			l = append(l, d.face(3+d.roll(6), d.style(), w, h)...)
		}
		want, _ := wordsOwners(l, w, h)
		expectOwners(t, l, w, h, want)
	}
	for _, side := range [][2]int{{1, 256}, {256, 1}, {2, 255}, {255, 2}} {
		w, h := side[0], side[1]
		l := append(d.segs(20, w, h), d.face(12, 200, w, h)...)
		want, _ := wordsOwners(l, w, h)
		expectOwners(t, l, w, h, want)
	}
}

// P17.1: as the words tell, how often samples are wound, near and far.
func TestWordsOfWound(t *testing.T) {
	t.Parallel()
	d := dice(1704)
	seen := map[int]int{}
	for range 20000 {
		l := d.segs(1+d.roll(12), 4, 4)
		far := 256
		if d.roll(2) == 0 {
			far = 2 << d.roll(24)
		}
		x, y, style := d.odd(far), d.odd(far), d.style()
		want := wordsWound(l, style, x, y)
		seen[want]++
		expectWound(t, l, style, x, y, want)
	}
	for n := -2; n <= 2; n++ {
		if seen[n] < 20 {
			t.Errorf("%d samples are wound %d times", seen[n], n)
		}
	}
}

// P17.1: Owners tells of each sample the greatest style by which Wound tells more than 0 times.
func TestOwnersAsWound(t *testing.T) {
	t.Parallel()
	d := dice(1705)
	for range 200 {
		w, h := 1+d.roll(256), 1+d.roll(256)
		l := d.segs(30, w, h)
		owners, e := sweep.Owners(l, w, h)
		if e != api.OK || len(owners) != 16*w*h {
			t.Fatalf("Owners: %d of them, %d", len(owners), e)
		}
		for range 60 {
			i, k := d.roll(4*w), d.roll(4*h)
			want := 0
			for _, style := range stylesOf(l) {
				if sweep.Wound(l, style, 16*i+7, 16*k+7) > 0 {
					want = style
				}
			}
			if got := owners[4*w*k+i]; got != want {
				t.Errorf("the sample %d, %d of %v: %d, want %d", i, k, l, got, want)
			}
		}
	}
}

// P17.3, P3: over all styles, 0 among them, a sample is wound 0 times in all.
func TestNothingInAll(t *testing.T) {
	t.Parallel()
	d := dice(1706)
	for range 500 {
		l := d.segs(1+d.roll(12), 2, 2)
		x, y := d.odd(256), d.odd(256)
		all := 0
		for style := range 256 {
			all += sweep.Wound(l, style, x, y)
		}
		if all != 0 {
			t.Errorf("the sample %d, %d is wound %d times by %v", x, y, all, l)
		}
	}
}

// P17.3: a segment that is turned about, its sides changed, winds the same.
func TestTurnedAbout(t *testing.T) {
	t.Parallel()
	d := dice(1707)
	for range 5000 {
		l := d.segs(1+d.roll(4), 2, 2)
		about := make([]sweep.Seg, len(l))
		for i, s := range l {
			about[i] = s
			if d.roll(2) == 0 {
				about[i] = turned(s)
			}
		}
		x, y := d.odd(256), d.odd(256)
		for _, style := range stylesOf(l) {
			expectWound(t, about, style, x, y, sweep.Wound(l, style, x, y))
		}
		if d.roll(10) == 0 {
			owners, _ := sweep.Owners(l, 2, 2)
			expectOwners(t, about, 2, 2, owners)
		}
	}
}

// P17.3: the covers of a pixel are 16 in all, over 0 and all styles.
func TestCoversInAll(t *testing.T) {
	t.Parallel()
	d := dice(1708)
	for range 60 {
		w, h := 1+d.roll(3), 1+d.roll(3)
		owners, _ := sweep.Owners(d.segs(20, w, h), w, h)
		for y := range h {
			for x := range w {
				all := 0
				for style := range 256 {
					count := sweep.Cover(owners, w, h, x, y, style)
					if count < 0 || count > 16 {
						t.Errorf("Cover(.., %d, %d, %d) = %d", x, y, style, count)
					}
					all += count
				}
				if all != 16 {
					t.Errorf("the pixel %d, %d has %d samples: %v", x, y, all, owners)
				}
			}
		}
	}
}

// P17.3: a segment that is cut at a point of it winds as both parts.
func TestCut(t *testing.T) {
	t.Parallel()
	d := dice(1710)
	for range 6000 {
		// As many steps from one end on as a cut needs to lie on even parts.
		steps := 2 + d.roll(9)
		from, by := d.near(2, 2), api.Point{X: d.even(1 << d.roll(8)), Y: d.even(1 << d.roll(8))}
		whole := sweep.Seg{A: from, B: at(from.X+steps*by.X, from.Y+steps*by.Y), Left: d.style(), Right: d.style()}
		cut := 1 + d.roll(steps-1)
		first, second := whole, whole
		first.B = at(from.X+cut*by.X, from.Y+cut*by.Y)
		second.A = first.B
		owners, e := sweep.Owners([]sweep.Seg{whole}, 2, 2)
		if e != api.OK {
			t.Fatalf("Owners of %v: %d", whole, e)
		}
		expectOwners(t, []sweep.Seg{first, second}, 2, 2, owners)
		for range 4 {
			x, y := d.odd(256), d.odd(256)
			for _, style := range []int{0, whole.Left, whole.Right} {
				expectWound(t, []sweep.Seg{second, first}, style, x, y, sweep.Wound([]sweep.Seg{whole}, style, x, y))
			}
		}
	}
}

// mesh lays faces with sides in common over a frame and beyond it: points near those of a grid, and between each two neighbours one segment with a style on each side, none beyond the outermost ones.
func (d *dice) mesh(columns int, rows int, styleOf func(int, int) int) []sweep.Seg {
	var points [][]api.Point
	for k := range rows + 1 {
		var l []api.Point
		for i := range columns + 1 {
			l = append(l, at(64*i-32+d.even(20), 64*k-32+d.even(20)))
		}
		points = append(points, l)
	}
	var l []sweep.Seg
	for k := range rows + 1 {
		for i := range columns + 1 {
			if k < rows {
				l = append(l, sweep.Seg{A: points[k][i], B: points[k+1][i], Left: styleOf(i, k), Right: styleOf(i-1, k)})
			}
			if i < columns {
				l = append(l, sweep.Seg{A: points[k][i], B: points[k][i+1], Left: styleOf(i, k-1), Right: styleOf(i, k)})
			}
		}
	}
	for i, s := range l {
		if d.roll(2) == 0 {
			l[i] = turned(s)
		}
	}
	return l
}

// P3, P17.3: where faces meet, each sample is wound once, by one of them, and by no other; its style is that one's.
func TestNoSeams(t *testing.T) {
	t.Parallel()
	d := dice(1711)
	const w, h = 3, 3
	const columns, rows = w + 1, h + 1
	styleOf := func(i int, k int) int {
		if i < 0 || i >= columns || k < 0 || k >= rows {
			return 0
		}
		return 1 + k*columns + i
	}
	for range 30 {
		l := d.mesh(columns, rows, styleOf)
		owners, e := sweep.Owners(l, w, h)
		if e != api.OK {
			t.Fatalf("Owners: %d", e)
		}
		for n, owner := range owners {
			x, y := 16*(n%(4*w))+7, 16*(n/(4*w))+7
			expectWound(t, l, 0, x, y, -1)
			for style := 1; style <= columns*rows; style++ {
				times := 0
				if style == owner {
					times = 1
				}
				expectWound(t, l, style, x, y, times)
			}
		}
	}
}

// P17.1: very many segments, and a frame as great as can be.
func TestMany(t *testing.T) {
	t.Parallel()
	d := dice(1712)
	l := d.segs(4096, 256, 256)
	owners, e := sweep.Owners(l, 256, 256)
	if e != api.OK || len(owners) != 1024*1024 {
		t.Fatalf("Owners: %d of them, %d", len(owners), e)
	}
	for range 3 {
		i, k := d.roll(1024), d.roll(1024)
		want := 0
		for style := range 256 {
			if wordsWound(l, style, 16*i+7, 16*k+7) > 0 {
				want = style
			}
		}
		if got := owners[1024*k+i]; got != want {
			t.Errorf("the sample %d, %d: %d, want %d", i, k, got, want)
		}
	}
}
