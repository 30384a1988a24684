package morph_test

import (
	"slices"
	"testing"

	"celluloid/api"
	"celluloid/bits"
	"celluloid/morph"
	"celluloid/shape"
)

// expectAt holds At to a shape that is right, and that shares nothing with the morph.
func expectAt(t *testing.T, m morph.Morph, ratio int, want shape.Shape) {
	t.Helper()
	was := text(m)
	got, e := morph.At(m, ratio)
	if e != api.OK || !sameAs(got, want) {
		t.Errorf("At(%+v, %d) = %+v, error %d, want %+v", m, ratio, got, e, want)
		return
	}
	if !shape.Right(got) {
		t.Errorf("At(%+v, %d) = %+v, which is not right", m, ratio, got)
	}
	if text(m) != was {
		t.Errorf("At has changed %.300s", was)
	}
}

// expectNotAt holds At to an error, with nothing beside it.
func expectNotAt(t *testing.T, m morph.Morph, ratio int, want api.Errno) {
	t.Helper()
	if got, e := morph.At(m, ratio); e != want || !sameAs(got, shape.Shape{}) {
		t.Errorf("At(%.300s, %d) = %+v, error %d, want error %d alone", text(m), ratio, got, e, want)
	}
}

// expectRecords holds At to records alone.
func expectRecords(t *testing.T, from []api.Record, to []api.Record, ratio int, want []api.Record) {
	t.Helper()
	expectAt(t, morph.Morph{Records: from, Target: to}, ratio, shape.Shape{Records: want})
}

func expectBetween(t *testing.T, a int, b int, ratio int, want int) {
	t.Helper()
	if got := morph.Between(a, b, ratio); got != want {
		t.Errorf("Between(%d, %d, %d) = %d, want %d", a, b, ratio, got, want)
	}
}

// Ratios at their bounds, and beyond.
var (
	ratios  = []int{0, 1, 2, 100, 32767, 32768, 65533, 65534, 65535}
	beyonds = []int{-1, -2, -65535, -65536, 65536, 65537, 131071, 1 << 32, -1 << 32, 1<<32 + 5, least, most}
)

// P10.3: the examples, and more by hand.
func TestBetweenByHand(t *testing.T) {
	const far = 1 << 40
	for _, c := range [][4]int{
		{0, 100, 65535, 100}, {10, 0, 32768, 4},
		{0, 100, 0, 0}, {10, 0, 0, 10}, {10, 0, 65535, 0}, {7, 7, 12345, 7}, {0, 0, 1, 0},
		// Rising, the floor cuts off; falling, one comes the nearer to the other number at once.
		{0, 1, 65534, 0}, {0, 1, 1, 0}, {1, 0, 1, 0}, {1, 0, 65534, 0}, {0, -1, 1, -1}, {0, -1, 65534, -1},
		{-1, 0, 1, -1}, {-1, 0, 65534, -1}, {-1, 0, 65535, 0}, {-10, 0, 32768, -5}, {0, -10, 32767, -5}, {0, -10, 32768, -6},
		{0, 65535, 1, 1}, {0, 65535, 17, 17}, {65535, 0, 17, 65518}, {0, 65536, 65534, 65534}, {0, 65536, 32768, 32768},
		{-5, 5, 32767, -1}, {-5, 5, 32768, 0}, {5, -5, 32767, 0}, {5, -5, 32768, -1}, {20, 40, 32768, 30}, {255, 0, 32768, 127},
		// The bounds, and one beyond each.
		{-far, far, 0, -far}, {-far, far, 65535, far}, {far, -far, 65535, -far}, {far, far, 5, far}, {-far, -far, 5, -far},
		{0, far, 65535, far}, {0, -far, 65535, -far},
		{far + 1, 0, 0, 0}, {-far - 1, 0, 0, 0}, {5, far + 1, 0, 0}, {5, -far - 1, 0, 0}, {5, far + 1, 65535, 0}, {far + 1, 5, 65535, 0},
		{far + 1, far + 1, 9, 0}, {least, 5, 65535, 0}, {5, least, 0, 0}, {most, 5, 65535, 0}, {5, most, 0, 0}, {least, most, 5, 0}, {most, least, 5, 0},
		// t beyond its bounds is as the nearest of these.
		{3, 9, -1, 3}, {3, 9, least, 3}, {3, 9, 65536, 9}, {3, 9, 131070, 9}, {3, 9, most, 9}, {9, -3, -65535, 9}, {9, -3, 65537, -3},
	} {
		expectBetween(t, c[0], c[1], c[2], c[3])
		if got := wordsBetween(c[0], c[1], c[2]); got != c[3] {
			t.Errorf("the words say %d between %d and %d at %d, want %d", got, c[0], c[1], c[2], c[3])
		}
	}
}

// P10.3: numbers of any size, by the words.
func TestBetweenAsTheWordsSay(t *testing.T) {
	numbers := []int{0, 1, -1, 2, -2, 3, 255, -255, 65534, 65535, 65536, -65535, -65536, 1 << 20, -1 << 20, 1<<22 - 1, 1 << 31, -1 << 32, 1<<40 - 1, 1 << 40, 1<<40 + 1, -1<<40 + 1, -1 << 40, -1<<40 - 1, 1 << 41, 1 << 47, 1 << 48, -1 << 62, least, least + 1, most, most - 1}
	for _, a := range numbers {
		for _, b := range numbers {
			for _, x := range append(ratios, beyonds...) {
				expectBetween(t, a, b, x, wordsBetween(a, b, x))
			}
		}
	}
	d := dice(3)
	for range 20000 {
		a, b, x := d.about(1<<40), d.about(1<<40), d.roll(65536)
		if d.roll(2) > 0 {
			a, b = d.roll(1<<41)-1<<40, d.roll(1<<41)-1<<40
		}
		expectBetween(t, a, b, x, wordsBetween(a, b, x))
	}
}

// P10.3: by hand, at both ends and between.
func TestAtByHand(t *testing.T) {
	m := morph.Morph{
		ID: 77, From: api.Rect{Left: -10, Right: 0, Top: 0, Bottom: 100}, To: api.Rect{Left: 10, Right: 20, Top: -1, Bottom: 0},
		Fills: []api.Fill{
			{Color: api.RGBA{R: 255, G: 0, B: 100, A: 7}},
			{Kind: 18, Matrix: api.Matrix{A: 10, B: 20, C: 30, D: 40, X: 50, Y: 60}, Spread: 2, Stops: []api.Stop{{Ratio: 0, Color: red}, {Ratio: 200}}},
			{Kind: 65, Matrix: api.Matrix{A: -3}, ID: 9},
		},
		ToFills: []api.Fill{
			{Color: api.RGBA{R: 0, G: 255, B: 200, A: 7}},
			{Kind: 18, Matrix: api.Matrix{A: 0, B: 10, C: 20, D: 60, X: -50, Y: 61}, Spread: 2, Stops: []api.Stop{{Ratio: 100, Color: blue}, {Ratio: 200, Color: red}}},
			{Kind: 65, Matrix: api.Matrix{Y: 3}, ID: 9},
		},
		Strokes: []api.Stroke{{Width: 20, Color: red}}, ToStrokes: []api.Stroke{{Width: 40, Color: blue}},
		Records: []api.Record{moves(0, 10), sets(-1, 1, 1), lines(10, 0), curves(0, 2, 4, 6), sets(3, 0, -1)},
		Target:  []api.Record{moves(10, 0), lines(0, 10), curves(2, 4, 6, 8)},
	}
	expectAt(t, m, 0, shape.Shape{ID: 77, Bounds: m.From, Fills: m.Fills, Strokes: m.Strokes, Records: m.Records})
	expectAt(t, m, 65535, shape.Shape{ID: 77, Bounds: m.To, Fills: m.ToFills, Strokes: m.ToStrokes, Records: []api.Record{moves(10, 0), sets(-1, 1, 1), lines(0, 10), curves(2, 4, 6, 8), sets(3, 0, -1)}})
	expectAt(t, m, 32768, shape.Shape{
		ID: 77, Bounds: api.Rect{Left: 0, Right: 10, Top: -1, Bottom: 49},
		Fills: []api.Fill{
			{Color: api.RGBA{R: 127, G: 127, B: 150, A: 7}},
			{Kind: 18, Matrix: api.Matrix{A: 4, B: 14, C: 24, D: 50, X: -1, Y: 60}, Spread: 2, Stops: []api.Stop{{Ratio: 50, Color: api.RGBA{R: 127, B: 127, A: 255}}, {Ratio: 200, Color: api.RGBA{R: 127, A: 127}}}},
			{Kind: 65, Matrix: api.Matrix{A: -2, Y: 1}, ID: 9},
		},
		Strokes: []api.Stroke{{Width: 30, Color: api.RGBA{R: 127, B: 127, A: 255}}},
		Records: []api.Record{moves(5, 4), sets(-1, 1, 1), lines(4, 5), curves(1, 3, 5, 7), sets(3, 0, -1)},
	})
	expectAt(t, morph.Morph{}, 0, shape.Shape{})
	expectAt(t, morph.Morph{ID: 65535}, 65535, shape.Shape{ID: 65535})
}

// P10.3: a Line beside a Curve, on either side, goes by way of the floor of its half, and on from there.
func TestLinesBesideCurves(t *testing.T) {
	for _, c := range []struct{ line, curve api.Record }{
		{lines(0, 0), curves(0, 0, 0, 0)},
		{lines(10, 4), curves(5, 2, 5, 2)},
		{lines(7, -3), curves(3, -2, 4, -1)},
		{lines(-7, 3), curves(-4, 1, -3, 2)},
		{lines(1, -1), curves(0, -1, 1, 0)},
		{lines(-1, 0), curves(-1, 0, 0, 0)},
		{lines(0, -5), curves(0, -3, 0, -2)},
		{lines(65535, -65536), curves(32767, -32768, 32768, -32768)},
		{lines(-65535, 65534), curves(-32768, 32767, -32767, 32767)},
	} {
		other := curves(100, -100, 2000, -2001)
		expectRecords(t, []api.Record{c.line}, []api.Record{other}, 0, []api.Record{c.curve})
		expectRecords(t, []api.Record{c.line}, []api.Record{other}, 65535, []api.Record{other})
		expectRecords(t, []api.Record{other}, []api.Record{c.line}, 0, []api.Record{other})
		expectRecords(t, []api.Record{other}, []api.Record{c.line}, 65535, []api.Record{c.curve})
		for _, x := range []int{0, 1, 32768, 65534, 65535} {
			// Beside just what it is taken as, it is that all the way; beside another Line it stays a Line.
			expectRecords(t, []api.Record{c.line}, []api.Record{c.curve}, x, []api.Record{c.curve})
			expectRecords(t, []api.Record{c.curve}, []api.Record{c.line}, x, []api.Record{c.curve})
			expectRecords(t, []api.Record{c.line}, []api.Record{c.line}, x, []api.Record{c.line})
		}
	}
	expectRecords(t, []api.Record{lines(7, -3), curves(0, 0, 10, 10), lines(4, 4)}, []api.Record{curves(5, 0, 0, 1), lines(-7, 9), lines(0, 0)}, 32768,
		[]api.Record{curves(4, -1, 1, 0), curves(-3, 2, 3, 7), lines(1, 1)})
}

// P10.3: Sets stand between, wherever they are, as they are, and have nothing beside them.
func TestSetsBetween(t *testing.T) {
	from := []api.Record{sets(0, -1, -1), sets(-1, 0, 0), moves(0, 0), sets(-1, -1, 0), lines(0, 0), sets(0, 0, 0), curves(0, 0, 0, 0), sets(-1, 0, -1)}
	to := []api.Record{moves(2, 4), lines(6, 8), curves(10, 12, 14, 16)}
	for _, x := range ratios {
		half := func(v int) int { return wordsBetween(0, v, x) }
		expectRecords(t, from, to, x, []api.Record{from[0], from[1], moves(half(2), half(4)), from[3], lines(half(6), half(8)), from[5], curves(half(10), half(12), half(14), half(16)), from[7]})
	}
	expectRecords(t, []api.Record{sets(0, 0, 0)}, nil, 5, []api.Record{sets(0, 0, 0)})
	expectNotAt(t, morph.Morph{Records: []api.Record{sets(0, 0, 0)}, Target: []api.Record{moves(0, 0)}}, 5, api.ErrField)
	expectNotAt(t, morph.Morph{Records: []api.Record{sets(0, 0, 0), lines(0, 0)}}, 5, api.ErrField)
	expectNotAt(t, morph.Morph{Records: []api.Record{lines(0, 0), sets(0, 0, 0)}}, 5, api.ErrField)
	expectNotAt(t, morph.Morph{Records: []api.Record{sets(0, 0, 0), lines(0, 0), sets(0, 0, 0)}, Target: []api.Record{lines(0, 0), lines(0, 0)}}, 5, api.ErrField)
}

// P10.3: Records without Sets and Target have the same kinds, in their order, but for a Line beside a Curve.
func TestKindsThatDoNotGoTogether(t *testing.T) {
	kinds := []api.Record{moves(1, 2), lines(3, 4), curves(5, 6, 7, 8)}
	for i, a := range kinds {
		for k, b := range kinds {
			together := i == k || i > 0 && k > 0
			for _, m := range []morph.Morph{
				{Records: []api.Record{a}, Target: []api.Record{b}},
				{Records: []api.Record{a, a, b}, Target: []api.Record{b, a, b}},
				{Records: []api.Record{b, sets(0, 0, 0), a}, Target: []api.Record{b, b}},
			} {
				for _, x := range []int{0, 9, 65535} {
					if want, e := wordsAt(m, x); together && e == api.OK {
						expectAt(t, m, x, want)
					} else if !together && e == api.ErrField {
						expectNotAt(t, m, x, api.ErrField)
					} else {
						t.Errorf("the words say %d of %+v", e, m)
					}
				}
			}
		}
	}
	// Unlike lengths, whichever is the longer.
	long := []api.Record{moves(1, 2), lines(3, 4), curves(5, 6, 7, 8), lines(9, 10)}
	for n := range len(long) + 1 {
		for k := range len(long) + 1 {
			m := morph.Morph{Records: long[:n], Target: long[:k]}
			if n != k {
				expectNotAt(t, m, 0, api.ErrField)
				expectNotAt(t, m, 65535, api.ErrField)
			} else {
				expectAt(t, m, 100, shape.Shape{Records: long[:n]})
			}
		}
	}
	// The same kinds, but not in one order.
	expectNotAt(t, morph.Morph{Records: []api.Record{moves(0, 0), lines(0, 0)}, Target: []api.Record{lines(0, 0), moves(0, 0)}}, 0, api.ErrField)
	// What does not go together is right, all the same.
	m := morph.Morph{Records: long, Target: long[2:]}
	expectBoth(t, m, wordsPut(m).bytes())
}

// P10.3: t from 0 to 65,535; else ErrArg, ahead of ErrField.
func TestAtBeyond(t *testing.T) {
	apart := whole()
	apart.Target = apart.Target[1:]
	wrong := apart
	wrong.ID = -1
	for _, x := range beyonds {
		expectNotAt(t, whole(), x, api.ErrArg)
		expectNotAt(t, morph.Morph{}, x, api.ErrArg)
		expectNotAt(t, apart, x, api.ErrArg)
		expectNotAt(t, wrong, x, api.ErrArg)
	}
	for _, x := range ratios {
		expectNotAt(t, apart, x, api.ErrField)
		expectNotAt(t, wrong, x, api.ErrArg)
		want, _ := wordsAt(whole(), x)
		expectAt(t, whole(), x, want)
	}
}

// P10.3: each number of a morph turns on its own, and so as the words say.
func TestAtAsTheWordsSay(t *testing.T) {
	d := dice(7)
	for i := range 400 {
		m := d.morph(1+i%5, i%9)
		if i%8 == 7 && len(m.Target) > 0 {
			m.Target[d.roll(len(m.Target))] = d.pen([]int{1, 4, 5}[d.roll(3)])
		}
		for _, x := range append(ratios, d.roll(65536), d.roll(65536)) {
			want, e := wordsAt(m, x)
			if e == api.OK {
				expectAt(t, m, x, want)
			} else {
				expectNotAt(t, m, x, e)
			}
		}
	}
	// 512 records on each side, and 15 styles.
	m := d.morph(0, 0)
	m.Fills, m.ToFills = make([]api.Fill, 15), slices.Repeat([]api.Fill{{Color: red}}, 15)
	m.Records = slices.Repeat([]api.Record{lines(5, 5), sets(15, 0, -1)}, 256)
	m.Target = slices.Repeat([]api.Record{curves(1, 2, 3, 4)}, 256)
	want, _ := wordsAt(m, 12345)
	expectAt(t, m, 12345, want)
}

// P10.3, R1: what At answers is its own: the morph's lists may be written into behind it.
func TestAtIsNewMemory(t *testing.T) {
	m := whole()
	for _, x := range []int{0, 300, 65535} {
		m = whole()
		got, _ := morph.At(m, x)
		was := text(got)
		for _, p := range morphNumbers(&m) {
			*p = 99
		}
		if text(got) != was {
			t.Errorf("At %d hangs on what was handed in", x)
		}
	}
}

// P10.4: at 0 a shape is the first one, at 65,535 the other one, but for Lines that are taken as Curves.
func TestBothEnds(t *testing.T) {
	d := dice(11)
	for i := range 300 {
		m := d.morph(1+i%5, i%12)
		first, last := slices.Clone(m.Records), slices.Clone(m.Records)
		next := 0
		for k, v := range m.Records {
			if v.Kind == 2 {
				continue
			}
			to := m.Target[next]
			next++
			last[k] = to
			if v.Kind == 4 && to.Kind == 5 {
				first[k] = wordsCurve(v)
			}
			if v.Kind == 5 && to.Kind == 4 {
				last[k] = wordsCurve(to)
			}
		}
		expectAt(t, m, 0, shape.Shape{ID: m.ID, Bounds: m.From, Fills: m.Fills, Strokes: m.Strokes, Records: first})
		expectAt(t, m, 65535, shape.Shape{ID: m.ID, Bounds: m.To, Fills: m.ToFills, Strokes: m.ToStrokes, Records: last})
	}
}

// P10.4: what is written is taken back, one behind the other, and is drawn the same.
func TestWrittenIsTakenBack(t *testing.T) {
	d := dice(13)
	var l []morph.Morph
	var w bits.Writer
	for i := range 100 {
		m := d.morph(1+i%15, i)
		var e api.Errno
		if w, e = morph.Put(w, m); e != api.OK {
			t.Fatalf("Put of %d: error %d", i, e)
		}
		l = append(l, m)
	}
	r := bits.Reader{S: w.S}
	for i, want := range l {
		got, next, e := morph.Take(r)
		if e != api.OK || !sameAs(got, want) {
			t.Fatalf("Take of %d: %+v, error %d, want %+v", i, got, e, want)
		}
		a, e := morph.At(want, 600*i)
		b, f := morph.At(got, 600*i)
		if e != f || !sameAs(a, b) {
			t.Errorf("At of %d: %+v, error %d, and of what was taken back %+v, error %d", i, a, e, b, f)
		}
		r = next
	}
	if r.At != 8*len(w.S) {
		t.Errorf("%d bits were taken of %d", r.At, 8*len(w.S))
	}
}
