package sweep_test

import (
	"slices"
	"testing"

	"celluloid/api"
	"celluloid/sweep"
)

// wrongSegs are some whose ends or styles are not as they must be, in one number.
func wrongSegs() []sweep.Seg {
	var l []sweep.Seg
	for _, n := range []int{
		1, -1, 3, -3, 65535, 1<<24 - 1, 1 - 1<<24, 1<<24 + 1, -1<<24 - 1, 1<<24 + 2, -1<<24 - 2,
		1 << 25, -1 << 25, 1 << 32, 1<<32 + 2, 1 << 62, -1 << 62, most, most - 1, least, least + 1,
	} {
		l = append(l, seg(n, 0, 0, 64, 1, 0), seg(0, n, 0, 64, 1, 0), seg(0, 0, n, 64, 1, 0), seg(0, 0, 64, n, 1, 0))
	}
	for _, n := range []int{-1, -2, 256, 257, 512, -256, 1 << 32, 1<<32 + 1, most, least} {
		l = append(l, seg(0, 0, 0, 64, n, 0), seg(0, 0, 0, 64, 0, n), seg(0, 0, 0, 64, n, n), seg(0, 64, 0, 0, n, 1), seg(0, 64, 0, 0, 1, n))
	}
	return l
}

func expectArg(t *testing.T, l []sweep.Seg, w int, h int) {
	t.Helper()
	if got, e := sweep.Owners(l, w, h); e != api.ErrArg || len(got) != 0 {
		t.Errorf("Owners(%v, %d, %d): %d of them, %d, want none, ErrArg", l, w, h, len(got), e)
	}
}

// P17.1: Wound of no sample is 0: of an x or a y that is even, or beyond.
func TestWoundOfNoSample(t *testing.T) {
	const far = 1 << 24
	l := []sweep.Seg{seg(-far, -far, -far, far, 7, 0)}
	expectWound(t, l, 7, 1, 1, 1)
	expectWound(t, l, 7, -1, -1, 1)
	expectWound(t, l, 0, -1, -1, -1)
	for _, n := range []int{
		0, 2, -2, 8, -8, far, -far, far - 2, 2 - far, far + 1, -far - 1, far + 2, far + 3, -far - 3,
		1<<32 + 1, -1<<32 - 1, 1 << 62, 1<<62 + 1, most, most - 1, least, least + 1,
	} {
		for _, style := range []int{7, 0} {
			expectWound(t, l, style, n, 1, 0)
			expectWound(t, l, style, 1, n, 0)
			expectWound(t, l, style, n, n, 0)
		}
	}
}

// P17.1: segments that are not right are left out of Wound, the others are not.
func TestWoundOfWrong(t *testing.T) {
	for _, s := range wrongSegs() {
		for _, style := range []int{0, 1, s.Left, s.Right} {
			expectWound(t, []sweep.Seg{s}, style, 33, 33, 0)
			right := []sweep.Seg{s, seg(0, 0, 0, 64, 9, 0), s, seg(2, 0, 2, 64, 9, 1), s}
			expectWound(t, right, style, 33, 33, sweep.Wound([]sweep.Seg{right[1], right[3]}, style, 33, 33))
			expectWound(t, right, 9, 33, 33, 2)
		}
	}
}

// P17.1: Owners has ErrArg, and nothing beside it, of a frame that is none, or a segment that is not right, wherever it stands.
func TestOwnersOfWrong(t *testing.T) {
	good := box(1, 0, 0, 64, 64)
	for _, n := range []int{0, -1, 257, 258, 512, -256, 1 << 32, 1<<32 + 1, 1 << 62, most, least} {
		for _, l := range [][]sweep.Seg{nil, {}, good, {seg(1, 0, 0, 0, 0, 0)}} {
			expectArg(t, l, n, 1)
			expectArg(t, l, 1, n)
			expectArg(t, l, n, n)
			expectArg(t, l, 256, n)
			expectArg(t, l, n, 256)
		}
	}
	for _, s := range wrongSegs() {
		for place := range len(good) + 1 {
			expectArg(t, slices.Insert(slices.Clone(good), place, s), 1, 1)
		}
		expectArg(t, []sweep.Seg{s}, 1, 1)
		expectArg(t, []sweep.Seg{s}, 256, 256)
		expectArg(t, []sweep.Seg{s}, 257, 1)
	}
}

// P17.2: Cover of no pixel, and of owners that are not the frame's, is 0.
func TestCoverOfWrong(t *testing.T) {
	owners, _ := sweep.Owners(box(1, 0, 0, 128, 192), 2, 3)
	for style := range 2 {
		for _, n := range []int{-1, -2, -4, 3, 4, 6, 8, 1 << 32, 1 << 60, 1 << 62, most, least} {
			expectCover(t, owners, 2, 3, n, 0, style, 0)
			expectCover(t, owners, 2, 3, 0, n, style, 0)
			expectCover(t, owners, 2, 3, n, n, style, 0)
			expectCover(t, owners, 2, 3, 1, n, style, 0)
			expectCover(t, owners, 2, 3, n, 2, style, 0)
		}
		expectCover(t, owners, 2, 3, 2, 0, style, 0)
		expectCover(t, owners, 2, 3, 0, 3, style, 0)
		for _, l := range [][]int{
			nil, {}, owners[:1], owners[:95], owners[1:], owners[:80], owners[:64], append(slices.Clone(owners), 1), append(slices.Clone(owners), owners...),
		} {
			expectCover(t, l, 2, 3, 0, 0, style, 0)
			expectCover(t, l, 2, 3, 1, 2, style, 0)
		}
	}
	expectCover(t, owners, 2, 3, 1, 2, 1, 16)
	expectCover(t, owners, 3, 2, 2, 1, 1, 16)
}

// P17.2, P1: Cover of what is no frame is 0, even if as many owners would seem to be those of so many pixels.
func TestCoverOfNoFrame(t *testing.T) {
	none, one := []int{}, make([]int, 16)
	for _, x := range [][2]int{
		{0, 0}, {0, 1}, {1, 0}, {-1, -1}, {1 << 60, 16}, {1 << 60, 1}, {1 << 30, 1 << 30}, {1 << 62, 4}, {1 << 63 / 16, 2},
		{most, most}, {least, least}, {least, 1}, {1, least}, {-1, 1}, {1, -1}, {1<<60 + 1, 1}, {1, 1<<60 + 1}, {most, -1},
	} {
		for _, at := range []int{0, 1, -1, 15, 1 << 20, most, least} {
			for _, l := range [][]int{nil, none, one} {
				expectCover(t, l, x[0], x[1], at, 0, 0, 0)
				expectCover(t, l, x[0], x[1], 0, at, 0, 0)
				expectCover(t, l, x[0], x[1], at, at, 0, 0)
			}
		}
	}
	for n, want := range map[int]int{255: 16, 256: 16, 257: 0, 258: 0, 300: 0} {
		long := make([]int, 16*n)
		expectCover(t, long, n, 1, 0, 0, 0, want)
		expectCover(t, long, 1, n, 0, 0, 0, want)
	}
}

// P1, P17.1: of any numbers there is what the words tell, or nothing.
func TestMuddled(t *testing.T) {
	d := dice(1703)
	right := 0
	for range 6000 {
		w, h := 1+d.roll(2), 1+d.roll(2)
		l := d.segs(d.roll(4), w, h)
		for range d.roll(3) {
			if len(l) > 0 {
				d.muddle(&l[d.roll(len(l))])
			}
		}
		if d.roll(6) == 0 {
			*[]*int{&w, &h}[d.roll(2)] = d.any()
		}
		want, e := wordsOwners(l, w, h)
		if e == api.OK {
			right++
			expectOwners(t, l, w, h, want)
		} else {
			expectArg(t, l, w, h)
		}
		for range 4 {
			x, y, style := d.any(), d.any(), d.style()
			if d.roll(4) > 0 {
				x, y = d.odd(256), d.odd(256)
			}
			if d.roll(8) == 0 {
				style = d.any()
			}
			expectWound(t, l, style, x, y, wordsWound(l, style, x, y))
			x, y = d.any()%4, d.any()%4
			expectCover(t, want, w, h, x, y, style, wordsCover(want, w, h, x, y, style))
		}
		for _, s := range l {
			if got := sweep.RightSeg(s); got != wordsRight(s) {
				t.Errorf("RightSeg(%v) = %v", s, got)
			}
		}
	}
	if right < 1500 || right > 4500 {
		t.Errorf("%d right ones of 6000", right)
	}
}

// R1, R4: what is handed in stays, with the room behind it; what is answered is new each time, and the same.
func TestNewEachTime(t *testing.T) {
	d := dice(1709)
	room := d.segs(12, 2, 2)
	// The first one goes up: where it is turned about, that must not be seen.
	room[0] = seg(0, 128, 0, 0, 0, 5)
	l, before := room[:9], slices.Clone(room)
	want, _ := wordsOwners(l, 2, 2)
	owners, e := sweep.Owners(l, 2, 2)
	if e != api.OK || !slices.Equal(owners, want) {
		t.Fatalf("Owners = %v, %d", owners, e)
	}
	sweep.Wound(l, 5, 7, 7)
	sweep.Cover(owners, 2, 2, 0, 0, 1)
	if !slices.Equal(room, before) || !slices.Equal(owners, want) {
		t.Error("an argument is another one")
	}
	clear(owners[:cap(owners)])
	expectOwners(t, l, 2, 2, want)
	expectOwners(t, l, 2, 2, want)
	if !slices.Equal(room, before) {
		t.Error("an argument is another one")
	}
}
