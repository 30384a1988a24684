package curve_test

import (
	"testing"

	"celluloid/api"
	"celluloid/curve"
)

// wrongParts are numbers that are odd, or beyond an end.
func wrongParts() []int {
	return []int{
		1, -1, 3, -3, 65535, -65535, 1<<24 - 1, 1 - 1<<24,
		1<<24 + 1, -1<<24 - 1, 1<<24 + 2, -1<<24 - 2, 1 << 25, -1 << 25, 1 << 32, -1 << 32, 1<<32 + 4, 1 << 62, -1 << 62,
		most, most - 1, least, least + 1,
	}
}

func expectNothing(t *testing.T, a api.Point, b api.Point, c api.Point) {
	t.Helper()
	expectBend(t, a, b, c, 0, 0)
	if l := curve.Flat(a, b, c); len(l) != 0 {
		t.Errorf("Flat(%v, %v, %v) = %v, want nothing", a, b, c, l)
	}
}

// P16.1: of points of which one is not even, or too far, in one part, there is nothing.
func TestWrong(t *testing.T) {
	for _, wrong := range wrongParts() {
		for place := range 3 {
			for _, p := range []api.Point{{X: wrong, Y: 2}, {X: 2, Y: wrong}, {X: wrong, Y: wrong}} {
				l := []api.Point{{X: 2, Y: 2}, {X: 2, Y: 100}, {X: -4, Y: 6}}
				l[place] = p
				expectNothing(t, l[0], l[1], l[2])
			}
		}
		p := api.Point{X: wrong, Y: wrong}
		expectNothing(t, p, p, p)
	}
}

// P16.1: what is a step inside has its points.
func TestRightAtTheEnds(t *testing.T) {
	for _, n := range []int{1 << 24, -1 << 24, 1<<24 - 2, 2 - 1<<24} {
		o, p, q := api.Point{}, api.Point{X: n}, api.Point{Y: n}
		expectBend(t, p, o, o, max(n, -n), 32)
		expectBend(t, o, p, o, max(2*n, -2*n), 32)
		expectBend(t, o, o, q, max(n, -n), 32)
		for _, l := range [][3]api.Point{{p, o, o}, {o, q, o}, {o, o, p}, {p, q, o}} {
			if count := len(curve.Flat(l[0], l[1], l[2])); count != 32 {
				t.Errorf("%v: %d points", l, count)
			}
		}
	}
}

// P1, P16.1: of any numbers there is what the words tell, or nothing.
func TestMuddled(t *testing.T) {
	d := dice(1603)
	right := 0
	for range 20000 {
		l := d.curve(1 << (1 + d.roll(24)))
		for range d.roll(3) {
			p := &l[d.roll(3)]
			*[]*int{&p.X, &p.Y}[d.roll(2)] = d.any()
		}
		if wordsEven(l[:]...) {
			right++
			expectBend(t, l[0], l[1], l[2], wordsBend(l[0], l[1], l[2]), wordsPieces(l[0], l[1], l[2]))
			continue
		}
		expectNothing(t, l[0], l[1], l[2])
	}
	if right < 5000 || right > 15000 {
		t.Errorf("%d right ones of 20000", right)
	}
}

// R1, R4: what is answered is new each time, and the same.
func TestNewEachTime(t *testing.T) {
	a, b, c := api.Point{X: 2}, api.Point{X: 32}, api.Point{X: 64, Y: 64}
	want := wordsFlat(a, b, c)
	l := curve.Flat(a, b, c)
	clear(l[:cap(l)])
	expectFlat(t, a, b, c, want)
	expectFlat(t, a, b, c, want)
}
