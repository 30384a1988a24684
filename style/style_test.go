package style

import (
	"fmt"
	"slices"
	"strings"
	"testing"

	"celluloid/api"
	"celluloid/bits"
)

// dice are numbers that are always the same ones.
type dice uint64

func (d *dice) roll(count int) int {
	x := uint64(*d)
	x ^= x << 13
	x ^= x >> 7
	x ^= x << 17
	*d = dice(x)
	return int(x>>11) % count
}

// upTo is a number from 0 to most, often one of these.
func (d *dice) upTo(most int) int {
	switch d.roll(6) {
	case 0:
		return 0
	case 1:
		return most
	}
	return d.roll(most + 1)
}

// about is a number from -most to most, of any size.
func (d *dice) about(most int) int {
	return (d.roll(2)*2 - 1) * min(d.upTo(most), 1<<d.roll(24))
}

func (d *dice) color() api.RGBA {
	return api.RGBA{R: d.upTo(255), G: d.upTo(255), B: d.upTo(255), A: d.upTo(255)}
}

func (d *dice) matrix() api.Matrix {
	m := same
	if d.roll(2) > 0 {
		m.A, m.D = d.about(1<<22), d.about(1<<22)
	}
	if d.roll(2) > 0 {
		m.B, m.C = d.about(1<<22), d.about(1<<22)
	}
	if d.roll(2) > 0 {
		m.X, m.Y = d.about(1<<20), d.about(1<<20)
	}
	return m
}

// fill is one that is right.
func (d *dice) fill() api.Fill {
	f := api.Fill{Kind: kinds[d.roll(len(kinds))]}
	switch f.Kind {
	case 0:
		f.Color = d.color()
	case 16, 18:
		f.Matrix, f.Spread = d.matrix(), d.roll(3)
		for range 1 + d.roll(8) {
			f.Stops = append(f.Stops, api.Stop{Ratio: d.upTo(255), Color: d.color()})
		}
		slices.SortStableFunc(f.Stops, func(a, b api.Stop) int { return a.Ratio - b.Ratio })
	default:
		f.Matrix, f.ID = d.matrix(), d.upTo(65535)
	}
	return f
}

func (d *dice) stroke() api.Stroke {
	return api.Stroke{Width: d.upTo(65535), Color: d.color()}
}

// lists are right ones, of up to so many.
func (d *dice) lists(count int) ([]api.Fill, []api.Stroke) {
	var fills []api.Fill
	for range d.roll(count + 1) {
		fills = append(fills, d.fill())
	}
	var strokes []api.Stroke
	for range d.roll(count + 1) {
		strokes = append(strokes, d.stroke())
	}
	return fills, strokes
}

var (
	kinds = []int{0, 16, 18, 64, 65}
	same  = api.Matrix{A: 65536, D: 65536}
	red   = api.RGBA{R: 255, A: 255}
	sea   = api.RGBA{R: 1, G: 2, B: 3, A: 4}
)

// stops are so many, of Ratios that do not fall.
func stops(ratios ...int) []api.Stop {
	var l []api.Stop
	for i, r := range ratios {
		l = append(l, api.Stop{Ratio: r, Color: api.RGBA{R: i, G: 100, B: 200, A: 255 - i}})
	}
	return l
}

// plain is a fill of each Kind, that is right.
func plain(kind int) api.Fill {
	switch kind {
	case 0:
		return api.Fill{Color: red}
	case 16, 18:
		return api.Fill{Kind: kind, Matrix: same, Spread: 1, Stops: stops(0, 7, 7, 255)}
	}
	return api.Fill{Kind: kind, Matrix: same, ID: 258}
}

// changedColors are those of a colour with each of its numbers set to v, one by one; changedMatrices likewise.
func changedColors(c api.RGBA, v int) []api.RGBA {
	l := []api.RGBA{c, c, c, c}
	l[0].R, l[1].G, l[2].B, l[3].A = v, v, v, v
	return l
}

func changedMatrices(m api.Matrix, v int) []api.Matrix {
	l := []api.Matrix{m, m, m, m, m, m}
	l[0].A, l[1].B, l[2].C, l[3].D, l[4].X, l[5].Y = v, v, v, v, v, v
	return l
}

// altered are fills that have one field, or one number of one, set otherwise than f has it (or as it is, by chance).
func altered(f api.Fill) []api.Fill {
	var l []api.Fill
	add := func(change func(*api.Fill)) {
		g := f
		g.Stops = slices.Clone(f.Stops)
		change(&g)
		l = append(l, g)
	}
	for _, v := range []int{least, -1 << 32, -65536, -4194305, -4194304, -1048577, -1048576, -256, -2, -1, 0, 1, 2, 3, 4, 9, 15, 16, 17, 18, 19, 63, 64, 65, 66, 80, 82, 128, 192, 255, 256, 257, 272, 274, 320, 321, 512, 32767, 32768, 65535, 65536, 65537, 131071, 1048576, 1048577, 4194304, 4194305, 1 << 32, 1<<32 + 16, most} {
		add(func(g *api.Fill) { g.Kind = v })
		add(func(g *api.Fill) { g.Spread = v })
		add(func(g *api.Fill) { g.ID = v })
		for _, c := range changedColors(f.Color, v) {
			add(func(g *api.Fill) { g.Color = c })
		}
		for _, m := range changedMatrices(f.Matrix, v) {
			add(func(g *api.Fill) { g.Matrix = m })
		}
		for i := range f.Stops {
			add(func(g *api.Fill) { g.Stops[i].Ratio = v })
			for _, c := range changedColors(f.Stops[i].Color, v) {
				add(func(g *api.Fill) { g.Stops[i].Color = c })
			}
		}
	}
	for n := range 12 {
		add(func(g *api.Fill) { g.Stops = stops(make([]int, n)...) })
		add(func(g *api.Fill) { g.Stops = make([]api.Stop, n) })
	}
	for n := range len(f.Stops) {
		add(func(g *api.Fill) { g.Stops = g.Stops[:n] })
		add(func(g *api.Fill) { g.Stops = slices.Insert(g.Stops, n, g.Stops[n]) })
		add(func(g *api.Fill) { g.Stops = slices.Delete(g.Stops, n, n+1) })
	}
	// As many as a byte, or its lowest four bits, would tell as few.
	for _, n := range []int{17, 24, 256, 257, 264} {
		add(func(g *api.Fill) { g.Stops = make([]api.Stop, n) })
	}
	return l
}

// writers are empty, at the end of a byte, in its midst, and not right.
func writers() []bits.Writer {
	l := []bits.Writer{
		{}, {S: "a"}, {S: "ab"}, {S: "\x00\x00"}, {S: "\xff"},
		{S: "", Free: 1}, {S: "", Free: -1}, {S: "", Free: 7}, {S: "", Free: 8},
		{S: "\xff", Free: 1}, {S: "\xff", Free: 7}, {S: "a\x81", Free: 3},
		{S: "a", Free: -1}, {S: "\x00", Free: 8}, {S: "\x00", Free: 9}, {S: "ab", Free: least}, {S: "ab", Free: most},
	}
	for free := range 8 {
		l = append(l, bits.Writer{S: "\x80", Free: free}, bits.Writer{S: "x\x00", Free: free})
	}
	return l
}

// sameAs: are they told alike in every number? It is asked of the texts, so that it hangs on nothing of the layer.
func sameAs(a any, b any) bool {
	return strings.ReplaceAll(fmt.Sprintf("%#v", a), "(nil)", "{}") == strings.ReplaceAll(fmt.Sprintf("%#v", b), "(nil)", "{}")
}

func expectPut(t *testing.T, w bits.Writer, fills []api.Fill, strokes []api.Stroke, want string) {
	t.Helper()
	got, e := Put(w, fills, strokes)
	if e != api.OK || got != (bits.Writer{S: want}) {
		t.Errorf("Put(%#v, %+v, %+v) = %x, %d, error %d, want %x", w, fills, strokes, got.S, got.Free, e, want)
	}
}

func expectNotPut(t *testing.T, w bits.Writer, fills []api.Fill, strokes []api.Stroke) {
	t.Helper()
	if Right(fills, strokes) {
		t.Errorf("Right(%+v, %+v)", fills, strokes)
	}
	if got, e := Put(w, fills, strokes); e != api.ErrArg || got != (bits.Writer{}) {
		t.Errorf("Put(%#v, %+v, %+v) = %#v, error %d", w, fills, strokes, got, e)
	}
}

func expectTaken(t *testing.T, r bits.Reader, fills []api.Fill, strokes []api.Stroke, at int) {
	t.Helper()
	a, b, next, e := Take(r)
	if e != api.OK || !sameAs(a, fills) || !sameAs(b, strokes) || next != (bits.Reader{S: r.S, At: at}) {
		t.Errorf("Take(%x, %d) = %+v, %+v, %x, %d, error %d, want %+v, %+v, at %d", r.S, r.At, a, b, next.S, next.At, e, fills, strokes, at)
	}
}

// expectNot holds Take to an error, with nothing beside it.
func expectNot(t *testing.T, r bits.Reader, want api.Errno) {
	t.Helper()
	a, b, next, e := Take(r)
	if e != want || len(a) != 0 || len(b) != 0 || next != (bits.Reader{}) {
		t.Errorf("Take(%x, %d) = %+v, %+v, %#v, error %d, want error %d alone", r.S, r.At, a, b, next, e, want)
	}
}

// expectAsTheWordsSay holds Take at r to the words, and what it takes to being written and taken as the same; it tells the error.
func expectAsTheWordsSay(t *testing.T, r bits.Reader) api.Errno {
	t.Helper()
	fills, strokes, at, e := wordsTake(r.S, r.At)
	if e != api.OK {
		expectNot(t, r, e)
		return e
	}
	expectTaken(t, r, fills, strokes, at)
	if !Right(fills, strokes) {
		t.Errorf("Take(%x, %d) took what is not right", r.S, r.At)
	}
	s := wordsPut(fills, strokes)
	if len(s) > at/8-(r.At+7)/8 {
		t.Errorf("%x is longer than what was taken, %x from %d on", s, r.S, r.At)
	}
	expectPut(t, bits.Writer{S: "q"}, fills, strokes, "q"+s)
	expectTaken(t, bits.Reader{S: "q" + s, At: 8}, fills, strokes, 8+8*len(s))
	return api.OK
}

// P8.1, P8.2: by hand, both ways, the chapter's example first.
func TestByHand(t *testing.T) {
	for _, c := range []struct {
		fills   []api.Fill
		strokes []api.Stroke
		s       string
	}{
		{[]api.Fill{{Kind: api.Solid, Color: red}}, nil, "\x01\x00\xff\x00\x00\xff\x00"},
		{nil, nil, "\x00\x00"},
		{[]api.Fill{}, []api.Stroke{}, "\x00\x00"},
		{nil, []api.Stroke{{}}, "\x00\x01\x00\x00\x00\x00\x00\x00"},
		{nil, []api.Stroke{{Width: 65535, Color: sea}, {Width: 256, Color: red}, {Width: 255}}, "\x00\x03\xff\xff\x01\x02\x03\x04\x00\x01\xff\x00\x00\xff\xff\x00\x00\x00\x00\x00"},
		{[]api.Fill{{}, {Color: sea}}, nil, "\x02\x00\x00\x00\x00\x00\x00\x01\x02\x03\x04\x00"},
		{[]api.Fill{{Kind: api.Linear, Matrix: same, Stops: []api.Stop{{Ratio: 9, Color: sea}}}}, nil, "\x01\x10\x00\x01\x09\x01\x02\x03\x04\x00"},
		{[]api.Fill{{Kind: api.Linear, Matrix: same, Spread: api.Reflect, Stops: []api.Stop{{Color: sea}, {}}}}, nil, "\x01\x10\x00\x42\x00\x01\x02\x03\x04\x00\x00\x00\x00\x00\x00"},
		{[]api.Fill{{Kind: api.Radial, Matrix: same, Spread: api.Repeat, Stops: []api.Stop{{Color: sea}, {Ratio: 255, Color: red}}}}, []api.Stroke{{Width: 20}}, "\x01\x12\x00\x82\x00\x01\x02\x03\x04\xff\xff\x00\x00\xff\x01\x14\x00\x00\x00\x00\x00"},
		{[]api.Fill{{Kind: api.Tiled, Matrix: same}, {Kind: api.Cut, Matrix: same, ID: 65535}}, nil, "\x02\x40\x00\x00\x00\x41\xff\xff\x00\x00"},
		// The matrix of noughts: 1 00000 0 00000; and one of 1 to the right, 1 up: 0 0 00010 01 11.
		{[]api.Fill{{Kind: api.Cut, ID: 1}, {Kind: api.Tiled, ID: 772, Matrix: api.Matrix{A: 65536, D: 65536, X: 1, Y: -1}}}, nil, "\x02\x41\x01\x00\x80\x00\x40\x04\x03\x04\xe0\x00"},
	} {
		expectPut(t, bits.Writer{}, c.fills, c.strokes, c.s)
		expectTaken(t, bits.Reader{S: c.s}, c.fills, c.strokes, 8*len(c.s))
		expectTaken(t, bits.Reader{S: c.s + "\x00behind"}, c.fills, c.strokes, 8*len(c.s))
	}
}

// P8.1: the kinds that are one, and no other.
func TestRightKinds(t *testing.T) {
	for _, kind := range kinds {
		if !RightFill(plain(kind)) {
			t.Errorf("RightFill(%+v) = false", plain(kind))
		}
		for _, other := range []int{-1, 1, 2, 15, 17, 19, 20, 32, 63, 66, 67, 80, 82, 128, 254, 255, 256, 272, 274, 320, 321, -16, -64, least, most, 1<<32 + 64} {
			f := plain(kind)
			f.Kind = other
			if RightFill(f) || RightFill(api.Fill{Kind: other}) || RightFill(api.Fill{Kind: other, Color: red}) {
				t.Errorf("RightFill of the kind %d", other)
			}
		}
	}
}

// P8.1: each field that a Kind has not must be 0 or none, each for itself.
func TestRightOfFieldsThatAreNotTheKinds(t *testing.T) {
	for _, kind := range kinds {
		var wrong []api.Fill
		add := func(change func(*api.Fill)) {
			f := plain(kind)
			change(&f)
			wrong = append(wrong, f)
		}
		for _, v := range []int{1, -1, 255, 256, 65536} {
			if kind != 0 {
				for _, c := range changedColors(api.RGBA{}, v) {
					add(func(f *api.Fill) { f.Color = c })
				}
			}
			if kind == 0 {
				for _, m := range changedMatrices(api.Matrix{}, v) {
					add(func(f *api.Fill) { f.Matrix = m })
				}
			}
			if kind < 64 {
				add(func(f *api.Fill) { f.ID = v })
			}
			if kind == 0 || kind > 18 {
				add(func(f *api.Fill) { f.Spread = v })
			}
		}
		if kind == 0 {
			add(func(f *api.Fill) { f.Matrix = same })
		}
		if kind == 0 || kind > 18 {
			add(func(f *api.Fill) { f.Stops = make([]api.Stop, 1) })
			add(func(f *api.Fill) { f.Stops = stops(3, 4) })
			f := plain(kind)
			f.Stops = []api.Stop{}
			if !RightFill(f) {
				t.Errorf("RightFill(%+v) = false: an empty list is none", f)
			}
		}
		for _, f := range wrong {
			if RightFill(f) {
				t.Errorf("RightFill(%+v)", f)
			}
			expectNotPut(t, bits.Writer{}, []api.Fill{f}, nil)
		}
	}
}

// P8.1: Spread, and how many Stops there are, at their bounds and beyond them.
func TestRightGradients(t *testing.T) {
	for _, kind := range []int{16, 18} {
		for spread, want := range map[int]bool{-1: false, 0: true, 1: true, 2: true, 3: false, 4: false, 256: false, least: false, most: false} {
			f := plain(kind)
			if f.Spread = spread; RightFill(f) != want {
				t.Errorf("Spread %d: %v", spread, !want)
			}
		}
		for n := range 20 {
			f := plain(kind)
			f.Stops = stops(make([]int, n)...)
			if want := n >= 1 && n <= 8; RightFill(f) != want {
				t.Errorf("%d stops: %v", n, !want)
			}
		}
		for _, c := range []struct {
			ratios []int
			want   bool
		}{
			{[]int{0}, true}, {[]int{255}, true}, {[]int{-1}, false}, {[]int{256}, false}, {[]int{least}, false}, {[]int{most}, false},
			{[]int{0, 255}, true}, {[]int{255, 0}, false}, {[]int{5, 5, 5}, true}, {[]int{255, 255}, true}, {[]int{0, 0}, true},
			{[]int{5, 4}, false}, {[]int{5, 6, 5}, false}, {[]int{5, 6, 6, 7}, true}, {[]int{9, 1, 9}, false}, {[]int{0, 256}, false},
			{[]int{-1, 0}, false}, {[]int{0, 1, 2, 3, 4, 5, 6, 7}, true}, {[]int{0, 1, 2, 3, 4, 5, 6, 5}, false}, {[]int{0, 0, 0, 0, 0, 0, 0, 255}, true},
			{[]int{7, 6, 5, 4, 3, 2, 1, 0}, false}, {[]int{0, 1, 2, 3, 4, 5, 6, 256}, false},
		} {
			f := plain(kind)
			if f.Stops = stops(c.ratios...); RightFill(f) != c.want {
				t.Errorf("Ratios %d: %v", c.ratios, !c.want)
			}
		}
	}
}

// P8.1: ID and Width at their bounds and beyond them.
func TestRightIDsAndWidths(t *testing.T) {
	for v, want := range map[int]bool{-1: false, 0: true, 1: true, 255: true, 256: true, 65535: true, 65536: false, 1 << 32: false, least: false, most: false, -65536: false} {
		for _, kind := range []int{64, 65} {
			f := plain(kind)
			if f.ID = v; RightFill(f) != want {
				t.Errorf("ID %d of the kind %d: %v", v, kind, !want)
			}
		}
		if RightStroke(api.Stroke{Width: v, Color: sea}) != want || Right(nil, []api.Stroke{{Width: v}}) != want {
			t.Errorf("Width %d: %v", v, !want)
		}
	}
}

// P8.1: each number of a colour and of a matrix for itself, beyond its bounds.
func TestRightColorsAndMatrices(t *testing.T) {
	for _, v := range []int{-1, 256, least, most} {
		for _, c := range changedColors(sea, v) {
			if RightFill(api.Fill{Color: c}) || RightStroke(api.Stroke{Width: 3, Color: c}) {
				t.Errorf("right with the colour %+v", c)
			}
			for _, kind := range []int{16, 18} {
				for i := range 4 {
					f := plain(kind)
					if f.Stops[i].Color = c; RightFill(f) {
						t.Errorf("RightFill(%+v)", f)
					}
				}
			}
		}
	}
	for _, kind := range kinds[1:] {
		for _, v := range []int{-1<<22 - 1, 1<<22 + 1, least, most} {
			for _, m := range changedMatrices(same, v) {
				f := plain(kind)
				if f.Matrix = m; RightFill(f) {
					t.Errorf("RightFill(%+v)", f)
				}
			}
		}
		for _, m := range []api.Matrix{{X: 1<<20 + 1}, {Y: 1<<20 + 1}, {X: -1<<20 - 1}, {Y: -1<<20 - 1}} {
			f := plain(kind)
			if f.Matrix = m; RightFill(f) {
				t.Errorf("RightFill(%+v)", f)
			}
		}
		for _, m := range []api.Matrix{{}, {A: 1 << 22, B: -1 << 22, C: 1 << 22, D: -1 << 22, X: 1 << 20, Y: -1 << 20}} {
			f := plain(kind)
			if f.Matrix = m; !RightFill(f) {
				t.Errorf("RightFill(%+v) = false", f)
			}
		}
	}
}

// P8.1: whatever is changed in a fill, the layer says of it what the words say, and so does Put.
func TestRightOfAlteredFills(t *testing.T) {
	for _, kind := range kinds {
		right := 0
		for _, f := range append(altered(plain(kind)), plain(kind)) {
			want := wordsFill(f)
			if got := RightFill(f); got != want {
				t.Errorf("RightFill(%+v) = %v", f, got)
			}
			if !want {
				expectNotPut(t, bits.Writer{S: "z"}, []api.Fill{f}, nil)
				continue
			}
			right++
			s := wordsPut([]api.Fill{f}, nil)
			expectPut(t, bits.Writer{S: "z"}, []api.Fill{f}, nil, "z"+s)
			expectTaken(t, bits.Reader{S: s}, []api.Fill{f}, nil, 8*len(s))
		}
		if right < 20 {
			t.Errorf("of the kind %d just %d are right", kind, right)
		}
	}
}

// P8.1: likewise of lines.
func TestRightOfAlteredStrokes(t *testing.T) {
	for _, v := range []int{least, -65536, -256, -1, 0, 1, 128, 255, 256, 257, 65535, 65536, most} {
		l := []api.Stroke{{Width: v, Color: sea}}
		for _, c := range changedColors(sea, v) {
			l = append(l, api.Stroke{Width: 300, Color: c})
		}
		for _, s := range l {
			want := wordsStroke(s)
			if RightStroke(s) != want {
				t.Errorf("RightStroke(%+v) = %v", s, !want)
			}
			if !want {
				expectNotPut(t, bits.Writer{}, nil, []api.Stroke{s})
				continue
			}
			expectPut(t, bits.Writer{}, nil, []api.Stroke{s}, wordsPut(nil, []api.Stroke{s}))
		}
	}
}

// P8.1, P8.2: lists of 0 to 15 are right, written and taken back; longer ones are not right.
func TestLengthsOfLists(t *testing.T) {
	d := dice(3)
	for _, fills := range []int{0, 1, 2, 14, 15, 16, 17, 255, 256, 257, 272, 1 << 16} {
		for _, strokes := range []int{0, 1, 2, 14, 15, 16, 17, 255, 256, 257, 272, 1 << 16} {
			a, b := make([]api.Fill, fills), make([]api.Stroke, strokes)
			for i := range min(fills, 20) {
				a[i] = d.fill()
			}
			for i := range min(strokes, 20) {
				b[i] = d.stroke()
			}
			want := fills <= 15 && strokes <= 15
			if Right(a, b) != want {
				t.Errorf("Right of %d, %d: %v", fills, strokes, !want)
			}
			if got, e := Put(bits.Writer{S: "z"}, a, b); !want && (e != api.ErrArg || got != (bits.Writer{})) {
				t.Errorf("Put of %d, %d: %d", fills, strokes, e)
			}
			if want {
				s := wordsPut(a, b)
				expectPut(t, bits.Writer{}, a, b, s)
				expectTaken(t, bits.Reader{S: s}, a, b, 8*len(s))
			}
		}
	}
}

// P8.1: lists in which only one is not right, wherever it stands.
func TestListsWithOneThatIsNotRight(t *testing.T) {
	d := dice(4)
	for n := 1; n <= 15; n++ {
		for i := range n {
			fills, strokes := make([]api.Fill, n), make([]api.Stroke, n)
			for j := range n {
				fills[j], strokes[j] = d.fill(), d.stroke()
			}
			if !Right(fills, strokes) {
				t.Errorf("Right(%+v, %+v) = false", fills, strokes)
			}
			bad := slices.Clone(fills)
			bad[i].Kind = 1
			expectNotPut(t, bits.Writer{}, bad, strokes)
			expectNotPut(t, bits.Writer{}, bad, nil)
			worse := slices.Clone(strokes)
			worse[i].Width = -1
			expectNotPut(t, bits.Writer{}, fills, worse)
			expectNotPut(t, bits.Writer{}, nil, worse)
			expectNotPut(t, bits.Writer{}, bad, worse)
		}
	}
}

// P8.1: every writer gets the whole of it from a whole byte on; of lists that are not right none gets anything.
func TestPutBehindEveryWriter(t *testing.T) {
	d := dice(77)
	for _, w := range writers() {
		for range 20 {
			fills, strokes := d.lists(3)
			expectPut(t, w, fills, strokes, w.S+wordsPut(fills, strokes))
		}
		expectPut(t, w, nil, nil, w.S+"\x00\x00")
		expectNotPut(t, w, []api.Fill{{Kind: 17}}, nil)
		expectNotPut(t, w, nil, []api.Stroke{{Width: 65536}})
		expectNotPut(t, w, make([]api.Fill, 16), nil)
		expectNotPut(t, w, nil, make([]api.Stroke, 16))
	}
}

// P8.1, P8.3: what is right is written as the words say, and taken back.
func TestPutAsTheWordsSay(t *testing.T) {
	d := dice(0x9E3779B97F4A7C15)
	all := writers()
	for i := range 4000 {
		fills, strokes := d.lists([]int{1, 2, 4, 15}[i%4])
		w := all[i%len(all)]
		s := w.S + wordsPut(fills, strokes)
		expectPut(t, w, fills, strokes, s)
		expectTaken(t, bits.Reader{S: s + "behind", At: 8 * len(w.S)}, fills, strokes, 8*len(s))
	}
}

// P8.1: fills that differ in one field, in one number of one, in one stop alone, or in how many stops there are, are not the same; whether they are right is not asked.
func TestSameFill(t *testing.T) {
	d := dice(8)
	l := []api.Fill{{}, {Kind: least, Color: api.RGBA{R: -1}, Spread: 9, ID: -1, Stops: stops(9, 3, -5)}}
	for _, kind := range kinds {
		l = append(l, plain(kind))
		for range 3 {
			l = append(l, d.fill())
		}
	}
	for _, f := range l {
		twin := f
		twin.Stops = slices.Clone(f.Stops)
		if !SameFill(f, twin) || !SameFill(f, f) {
			t.Errorf("SameFill of %+v twice is false", f)
		}
		for _, g := range altered(f) {
			want := sameAs(f, g)
			if SameFill(f, g) != want || SameFill(g, f) != want {
				t.Errorf("SameFill(%+v, %+v) = %v", f, g, !want)
			}
		}
		for _, g := range l {
			if want := sameAs(f, g); SameFill(f, g) != want {
				t.Errorf("SameFill(%+v, %+v) = %v", f, g, !want)
			}
		}
	}
	if !SameFill(api.Fill{Stops: []api.Stop{}}, api.Fill{}) || !SameFill(api.Fill{}, api.Fill{Stops: []api.Stop{}}) {
		t.Error("SameFill: no stops and an empty list of them are not the same")
	}
}

// P8.1: by hand, one field after another.
func TestSameFillByHand(t *testing.T) {
	f := api.Fill{Kind: 16, Color: sea, Matrix: same, Spread: 1, Stops: stops(1, 2, 3), ID: 5}
	for i, change := range []func(g *api.Fill){
		func(g *api.Fill) { g.Kind = 18 },
		func(g *api.Fill) { g.Color.R++ },
		func(g *api.Fill) { g.Color.G++ },
		func(g *api.Fill) { g.Color.B++ },
		func(g *api.Fill) { g.Color.A++ },
		func(g *api.Fill) { g.Matrix.A++ },
		func(g *api.Fill) { g.Matrix.B++ },
		func(g *api.Fill) { g.Matrix.C++ },
		func(g *api.Fill) { g.Matrix.D++ },
		func(g *api.Fill) { g.Matrix.X++ },
		func(g *api.Fill) { g.Matrix.Y++ },
		func(g *api.Fill) { g.Spread = 2 },
		func(g *api.Fill) { g.ID = 6 },
		func(g *api.Fill) { g.Stops = nil },
		func(g *api.Fill) { g.Stops = stops(1, 2) },
		func(g *api.Fill) { g.Stops = stops(1, 2, 3, 3) },
		func(g *api.Fill) { g.Stops[0].Ratio = 0 },
		func(g *api.Fill) { g.Stops[1].Ratio = 3 },
		func(g *api.Fill) { g.Stops[2].Ratio = 4 },
		func(g *api.Fill) { g.Stops[0].Color.R = 99 },
		func(g *api.Fill) { g.Stops[1].Color.G = 99 },
		func(g *api.Fill) { g.Stops[2].Color.B = 99 },
		func(g *api.Fill) { g.Stops[2].Color.A = 99 },
		func(g *api.Fill) { g.Stops[0], g.Stops[1] = g.Stops[1], g.Stops[0] },
	} {
		g := f
		g.Stops = stops(1, 2, 3)
		if !SameFill(f, g) {
			t.Errorf("%d: not the same ahead of the change", i)
		}
		if change(&g); SameFill(f, g) || SameFill(g, f) {
			t.Errorf("%d: SameFill(%+v, %+v)", i, f, g)
		}
	}
}

// P8.2, R2: readers that are not right are ErrArg, ahead of all else, whatever their bytes say.
func TestTakeFromReadersThatAreNotRight(t *testing.T) {
	for _, s := range []string{"", "\x00", "\x00\x00", "\x10", "\x01\x01", "\x01\x00\xff\x00\x00\xff\x00", strings.Repeat("\xff", 40), strings.Repeat("\x00", 40)} {
		for _, at := range []int{-1, -2, -7, -8, -9, -8 * len(s), least, least + 1, most, most - 7, 1 << 32, -1 << 32, 8*len(s) + 1, 8*len(s) + 7, 8*len(s) + 8} {
			if at < 0 || at > 8*len(s) {
				expectNot(t, bits.Reader{S: s, At: at}, api.ErrArg)
			}
		}
	}
}

// P8.2: bytes that end at each place ahead of the end are ErrShort, from every bit of the byte ahead.
func TestTakeOfBytesThatEnd(t *testing.T) {
	d := dice(5)
	for i := range 200 {
		fills, strokes := d.lists(i % 16)
		s := wordsPut(fills, strokes)
		for n := range len(s) {
			expectNot(t, bits.Reader{S: s[:n]}, api.ErrShort)
			expectNot(t, bits.Reader{S: "q" + s[:n], At: 1 + n%8}, api.ErrShort)
		}
		expectTaken(t, bits.Reader{S: s}, fills, strokes, 8*len(s))
	}
	for _, kind := range kinds {
		s := wordsPut([]api.Fill{plain(kind)}, []api.Stroke{{Width: 1, Color: sea}})
		for n := range len(s) {
			for at := range 9 {
				expectNot(t, bits.Reader{S: "\x00" + s[:n], At: max(at, 1)}, api.ErrShort)
			}
		}
	}
	expectNot(t, bits.Reader{}, api.ErrShort)
	expectNot(t, bits.Reader{S: "\x00\x00", At: 16}, api.ErrShort)
	expectNot(t, bits.Reader{S: "\x00\x00", At: 1}, api.ErrShort)
	expectNot(t, bits.Reader{S: "\x00"}, api.ErrShort)
	expectNot(t, bits.Reader{S: "\x0f"}, api.ErrShort)
	expectNot(t, bits.Reader{S: "\x00\x0f"}, api.ErrShort)
}

// P8.2: a list of more than 15 is ErrLimit as soon as its number is read, whatever stands behind; errors ahead of the number go ahead of it.
func TestTakeOfListsThatAreTooLong(t *testing.T) {
	d := dice(6)
	for n := 16; n <= 255; n++ {
		for _, behind := range []string{"", "\x00", "\x01", strings.Repeat("\xff", 9), strings.Repeat("\x00", 2000)} {
			expectNot(t, bits.Reader{S: string([]byte{byte(n)}) + behind}, api.ErrLimit)
			fills, _ := d.lists(4)
			s := wordsPut(fills, nil)
			s = s[:len(s)-1]
			expectNot(t, bits.Reader{S: s + string([]byte{byte(n)}) + behind}, api.ErrLimit)
			expectNot(t, bits.Reader{S: "\x01\x01" + string([]byte{byte(n)}) + behind}, api.ErrField)
		}
	}
	// Of 15 the number is taken, whatever becomes of the rest.
	expectTaken(t, bits.Reader{S: "\x0f" + strings.Repeat("\x00", 75) + "\x0f" + strings.Repeat("\x00", 90)}, make([]api.Fill, 15), make([]api.Stroke, 15), 8*167)
	expectNot(t, bits.Reader{S: "\x0f\x01"}, api.ErrField)
	expectNot(t, bits.Reader{S: "\x00\x0f\x01"}, api.ErrShort)
}

// P8.2: a Kind that is none is told as soon as it is read, in every fill.
func TestTakeOfKindsThatAreNone(t *testing.T) {
	d := dice(7)
	for kind := range 256 {
		want := api.ErrField
		if slices.Contains(kinds, kind) {
			want = api.ErrShort
		}
		for n := range 15 {
			s := []byte{15}
			for range n {
				one := wordsPut([]api.Fill{d.fill()}, nil)
				s = append(s, one[1:len(one)-1]...)
			}
			s = append(s, byte(kind))
			expectNot(t, bits.Reader{S: string(s)}, want)
			if want == api.ErrField {
				expectNot(t, bits.Reader{S: string(s) + strings.Repeat("\x00", 50)}, want)
				expectNot(t, bits.Reader{S: string(s) + strings.Repeat("\xff", 50)}, want)
			}
		}
	}
}

// P8.2: all bytes of Spread and Stops; one that is not right is told as soon as it is read.
func TestTakeOfSpreadAndStops(t *testing.T) {
	for told := range 256 {
		spread, count := told>>6, told&15
		right := spread < 3 && told>>4&3 == 0 && count > 0 && count <= 8
		for _, kind := range []int{16, 18} {
			s := "\x01" + string([]byte{byte(kind)}) + "\x00" + string([]byte{byte(told)})
			whole := s + strings.Repeat("\x07\x01\x02\x03\x04", count) + "\x00"
			if !right {
				for n := len(s); n <= len(whole); n++ {
					expectNot(t, bits.Reader{S: whole[:n]}, api.ErrField)
				}
				continue
			}
			f := api.Fill{Kind: kind, Matrix: same, Spread: spread, Stops: slices.Repeat([]api.Stop{{Ratio: 7, Color: sea}}, count)}
			expectTaken(t, bits.Reader{S: whole}, []api.Fill{f}, nil, 8*len(whole))
			for n := range len(whole) {
				expectNot(t, bits.Reader{S: whole[:n]}, api.ErrShort)
			}
		}
	}
}

// P8.2: Ratios that fall are told at the Ratio, be the colour there or not; those that are equal, or rise, are not; the next fill begins anew.
func TestTakeOfRatiosThatFall(t *testing.T) {
	for _, ratios := range [][]int{{0, 255}, {255, 0}, {1, 0}, {5, 5}, {255, 254}, {0, 0, 0}, {3, 4, 3}, {3, 3, 4, 3}, {9, 1, 9}, {255, 255}, {128, 127}, {127, 128}, {0, 1, 2, 3, 4, 5, 6, 7}, {0, 1, 2, 3, 4, 5, 6, 5}, {0, 9, 9, 9, 9, 9, 9, 8}} {
		for _, kind := range []int{16, 18} {
			s := "\x01" + string([]byte{byte(kind)}) + "\x00" + string([]byte{byte(len(ratios))})
			fall := false
			for i, r := range ratios {
				s += string([]byte{byte(r)})
				if fall = i > 0 && r < ratios[i-1]; fall {
					break
				}
				expectNot(t, bits.Reader{S: s}, api.ErrShort)
				s += "\x01\x02\x03\x04"
				if i < len(ratios)-1 {
					expectNot(t, bits.Reader{S: s}, api.ErrShort)
				}
			}
			if !fall {
				expectAsTheWordsSay(t, bits.Reader{S: s + "\x00"})
				continue
			}
			for n := range 7 {
				expectNot(t, bits.Reader{S: s + strings.Repeat("\x00", n)}, api.ErrField)
			}
		}
	}
	two := []api.Fill{{Kind: 16, Matrix: same, Stops: stops(200, 255)}, {Kind: 18, Matrix: same, Stops: stops(0, 100)}}
	s := wordsPut(two, nil)
	expectTaken(t, bits.Reader{S: s}, two, nil, 8*len(s))
}

// P8.2: matrices that are not right are layer 7's ErrField, ahead of what stands behind them; their widths may be greater than they must be.
func TestTakeOfMatrices(t *testing.T) {
	far := []api.Matrix{{A: 1<<22 + 1}, {D: -1<<22 - 1}, {B: 1<<22 + 1}, {C: -1<<22 - 1}, {X: 1<<20 + 1}, {Y: -1<<20 - 1}}
	for _, m := range far {
		for _, head := range []string{"\x01\x10", "\x01\x12", "\x01\x40\x00\x00", "\x01\x41\xff\xff"} {
			s := head + matrixBytes(m)
			for n := len(head); n < len(s); n++ {
				expectNot(t, bits.Reader{S: s[:n]}, api.ErrShort)
			}
			for _, behind := range []string{"", "\x00", "\x01\x00\x00\x00\x00\x00\x00", "\xff\xff\xff", "\x10"} {
				expectNot(t, bits.Reader{S: s + behind}, api.ErrField)
			}
		}
	}
	m := api.Matrix{A: -5, B: 6, C: 7, D: 8, X: -9, Y: 10}
	for n := 5; n <= 31; n++ {
		s := "\x02\x12" + wideMatrixBytes(m, n) + "\x81\x05\x01\x02\x03\x04\x40\x02\x01" + wideMatrixBytes(m, n) + "\x00"
		want := []api.Fill{{Kind: 18, Matrix: m, Spread: 2, Stops: []api.Stop{{Ratio: 5, Color: sea}}}, {Kind: 64, ID: 258, Matrix: m}}
		expectTaken(t, bits.Reader{S: s}, want, nil, 8*len(s))
		expectAsTheWordsSay(t, bits.Reader{S: s})
	}
}

// P8.2: where two errors would do, the first in the order of the bytes is told.
func TestTakeTellsTheFirstError(t *testing.T) {
	far := matrixBytes(api.Matrix{X: 1<<20 + 1})
	for _, c := range []struct {
		s    string
		want api.Errno
	}{
		{"\x02\x01\x00\x10", api.ErrField},                                   // the kind, then a list that is too long
		{"\x00\x10\x00", api.ErrLimit},                                       // too many lines
		{"\x10\x01", api.ErrLimit},                                           // too many fills, then the kind
		{"\x01\x10" + far + "\xff", api.ErrField},                            // the matrix, then the byte behind
		{"\x01\x10" + far, api.ErrField},                                     // the matrix, then the end
		{"\x01\x10" + far[:len(far)-1], api.ErrShort},                        // the end, within the matrix
		{"\x01\x10\x00\xc1\x00\x00\x00\x00\x00\x10", api.ErrField},           // the spread, then too many lines
		{"\x01\x10\x00\x01\x00\x00\x00\x00\x00\x10", api.ErrLimit},           // too many lines, behind a fill that is right
		{"\x01\x10\x00\x02\x05\x00\x00\x00\x00\x04", api.ErrField},           // a Ratio that falls, then the end
		{"\x01\x10\x00\x02\x05\x00\x00\x00", api.ErrShort},                   // the end, ahead of the Ratio
		{"\x02\x10\x00\x02\x05\x00\x00\x00\x00\x04", api.ErrField},           // a Ratio that falls, then a fill that is not there
		{"\x02\x00\x00\x00\x00\x00\x11", api.ErrField},                       // the second one's kind, then the end
		{"\x02\x00\x00\x00\x00\x00", api.ErrShort},                           // the end, ahead of the second one's kind
		{"\x01\x00\x00\x00\x00\x00", api.ErrShort},                           // the end, ahead of the lines
		{"\x01\x00\x00\x00\x00\x00\x10", api.ErrLimit},                       // too many lines, then the end
		{"\x01\x00\x00\x00\x00\x00\xff\xff\xff\xff\xff\xff", api.ErrLimit},   // too many lines, whatever is behind
		{"\x01\x40\x00", api.ErrShort},                                       // the end, within the ID
		{"\x01\x40\x00\x00", api.ErrShort},                                   // the end, ahead of the matrix
		{"\x01\x40\x00\x00" + far + "\x10", api.ErrField},                    // the matrix, then too many lines
		{"\x01\x40\x00\x00\x00\x01\x00\x00\x00\x00\x00", api.ErrShort},       // the end, within a line
		{"\x01\x40\x00\x00\x00\x02\x00\x00\x00\x00\x00\x00", api.ErrShort},   // the end, ahead of the second line
		{"\x01\x12\x00\x09\xff\xff\xff\xff\xff\x00\x00\x00", api.ErrField},   // too many stops, then a Ratio that falls
		{"\x01\x12\x00\x30\x00\x00\x00\x00\x00\x00\x00\x00", api.ErrField},   // bits that are not 0
		{"\x01\x12\x00\x08\x00\x00\x00\x00\x00\x00\x00\x00", api.ErrShort},   // the end, within the stops
		{"\x01\x12\x00\x80\x00\x00\x00\x00\x00\x00\x00\x00", api.ErrField},   // no stops
		{"\x01\x12\x00\x41\xff\xff\xff\xff\xff\x00\x00\x00\x00\x00", api.OK}, // none
	} {
		if got := expectAsTheWordsSay(t, bits.Reader{S: c.s}); got != c.want {
			t.Errorf("the words say %d of %x, want %d", got, c.s, c.want)
		}
		_, _, _, e := Take(bits.Reader{S: c.s})
		if e != c.want {
			t.Errorf("Take(%x): error %d, want %d", c.s, e, c.want)
		}
		if _, _, _, e := Take(bits.Reader{S: c.s, At: -1}); e != api.ErrArg {
			t.Errorf("Take(%x, -1): error %d", c.s, e)
		}
	}
}

// P8.2: readers in the midst of a byte go on at the next one; behind, the reader stands just behind the lines.
func TestTakeFromTheMidstOfAByte(t *testing.T) {
	d := dice(41)
	for range 100 {
		fills, strokes := d.lists(4)
		s := wordsPut(fills, strokes)
		for _, beside := range []string{"\x00", "\xff", "\x55"} {
			expectTaken(t, bits.Reader{S: s + beside}, fills, strokes, 8*len(s))
			for at := 1; at <= 8; at++ {
				expectTaken(t, bits.Reader{S: beside + s, At: at}, fills, strokes, 8+8*len(s))
				expectTaken(t, bits.Reader{S: "ab" + beside + s + beside, At: 16 + at}, fills, strokes, 24+8*len(s))
			}
		}
	}
}

// muddled are right lists as bytes, with some bytes set otherwise, left out, or put in.
func (d *dice) muddled() string {
	fills, strokes := d.lists(1 + d.roll(4))
	s := []byte(wordsPut(fills, strokes))
	for range d.roll(4) {
		i := d.roll(len(s))
		switch d.roll(5) {
		case 0:
			s[i] = byte(d.roll(256))
		case 1:
			s[i] ^= 1 << d.roll(8)
		case 2:
			s = append(slices.Delete(s, i, i+1), 0)
		case 3:
			s = slices.Insert(s, i, byte(d.roll(256)))
		case 4:
			s = s[:max(i, 1)]
		}
	}
	return string(s)
}

// anyBytes begin as lists may, and go on anyhow.
func (d *dice) anyBytes() string {
	s := make([]byte, d.roll(40))
	for i := range s {
		s[i] = byte(d.roll(256))
		if d.roll(2) > 0 {
			s[i] = []byte{0, 1, 2, 16, 18, 64, 65, 0}[d.roll(8)]
		}
	}
	return string(s)
}

// P8.2, P8.3, P1, P2: any bytes, from any bit on, are taken as the words say, or refused as they say; what is taken is written as bytes that are taken as the same.
func TestTakeOfAnyBytes(t *testing.T) {
	d := dice(0xABCDEF)
	seen := map[api.Errno]int{}
	for i := range 60000 {
		s := d.muddled()
		if i%3 == 0 {
			s = d.anyBytes()
		}
		at := 0
		if i%5 == 0 {
			at = d.roll(8*len(s)+16) - 8
		}
		seen[expectAsTheWordsSay(t, bits.Reader{S: s, At: at})]++
	}
	for _, e := range []api.Errno{api.OK, api.ErrArg, api.ErrShort, api.ErrField, api.ErrLimit} {
		if seen[e] < 100 {
			t.Errorf("just %d answered %d", seen[e], e)
		}
	}
}

// P8.2, P8.3: all bytes there are, one and two of them, alone and ahead of others.
func TestTakeOfAllShortBytes(t *testing.T) {
	for a := range 256 {
		expectAsTheWordsSay(t, bits.Reader{S: string([]byte{byte(a)})})
		for b := range 256 {
			s := string([]byte{byte(a), byte(b)})
			expectAsTheWordsSay(t, bits.Reader{S: s})
			expectAsTheWordsSay(t, bits.Reader{S: s + "\x00\x01\x00\x00\x00\x00\x00\x00\x01\x01\x02\x03\x04\x05\x06"})
			expectAsTheWordsSay(t, bits.Reader{S: "\x01" + s + "\x01\x02\x03\x04\x05\x06\x07\x08\x00"})
		}
	}
}

// P8.3: many, one behind another, are taken back in their order, and nothing is left.
func TestWrittenAndTakenBack(t *testing.T) {
	d := dice(99)
	w := bits.Writer{S: "\xf0", Free: 4}
	type entry struct {
		fills   []api.Fill
		strokes []api.Stroke
	}
	var all []entry
	for range 100 {
		fills, strokes := d.lists(15)
		next, e := Put(w, fills, strokes)
		if e != api.OK || !strings.HasPrefix(next.S, w.S) || next.Free != 0 {
			t.Fatalf("Put(%+v, %+v): %d, %d", fills, strokes, next.Free, e)
		}
		w = next
		all = append(all, entry{fills, strokes})
	}
	r := bits.Reader{S: w.S, At: 4}
	for _, x := range all {
		fills, strokes, next, e := Take(r)
		if e != api.OK || !sameAs(fills, x.fills) || !sameAs(strokes, x.strokes) || next.At <= r.At {
			t.Fatalf("Take = %+v, %+v, %d, want %+v, %+v", fills, strokes, e, x.fills, x.strokes)
		}
		for i := range fills {
			if !SameFill(fills[i], x.fills[i]) {
				t.Errorf("SameFill(%+v, %+v) = false", fills[i], x.fills[i])
			}
		}
		r = next
	}
	if r.At != 8*len(w.S) {
		t.Errorf("%d bits are left", 8*len(w.S)-r.At)
	}
}

// R1: lists that are handed in stay as they were, behind their end, too.
func TestListsStay(t *testing.T) {
	d := dice(12)
	for range 100 {
		fills, strokes := make([]api.Fill, 6), make([]api.Stroke, 6)
		for i := range fills {
			fills[i], strokes[i] = d.fill(), d.stroke()
		}
		before := fmt.Sprintf("%#v %#v", fills, strokes)
		Put(bits.Writer{}, fills[:3], strokes[:3])
		Right(fills[:3], strokes[:3])
		SameFill(fills[0], fills[1])
		RightFill(fills[2])
		bad := append(slices.Clone(fills), api.Fill{Kind: 1})
		Put(bits.Writer{}, bad, strokes)
		if fmt.Sprintf("%#v %#v", fills, strokes) != before {
			t.Fatalf("%s was changed", before)
		}
	}
}

// R1, R4: what is taken is new memory: whoever writes into one list changes no other one, and no later answer.
func TestTakenListsAreTheirOwn(t *testing.T) {
	fills := []api.Fill{plain(16), plain(18), plain(16), plain(65)}
	strokes := []api.Stroke{{Width: 1}, {Width: 2, Color: red}}
	s := wordsPut(fills, strokes)
	a, b, _, _ := Take(bits.Reader{S: s})
	for i := range a[0].Stops {
		a[0].Stops[i] = api.Stop{Ratio: -1}
	}
	_ = append(a[0].Stops, api.Stop{Ratio: -2})
	if !sameAs(a[1:], fills[1:]) || !sameAs(b, strokes) {
		t.Errorf("lists of one answer share: %+v", a)
	}
	clear(a)
	clear(b)
	expectTaken(t, bits.Reader{S: s}, fills, strokes, 8*len(s))
}

// R3, R4: a call that was refused, or went well, leaves nothing that the next one could tell.
func TestCallsLeaveNothing(t *testing.T) {
	fills := []api.Fill{plain(0), plain(16), plain(64)}
	strokes := []api.Stroke{{Width: 20, Color: sea}}
	s := wordsPut(fills, strokes)
	for _, r := range []bits.Reader{{}, {S: "\x10"}, {S: "\x01\x01"}, {S: s, At: -1}, {S: s[:9]}, {S: "\x01\x12\x00\xff"}, {S: s}} {
		Take(r)
		Put(bits.Writer{S: "z", Free: 9}, []api.Fill{{Kind: 9}}, strokes)
		Put(bits.Writer{S: "y"}, fills, nil)
		expectPut(t, bits.Writer{}, fills, strokes, s)
		expectTaken(t, bits.Reader{S: s}, fills, strokes, 8*len(s))
	}
}
