package affine_test

import (
	"testing"

	"celluloid/affine"
	"celluloid/api"
	"celluloid/field"
)

// change is one that is right.
func (d *dice) change() api.Cx {
	var c api.Cx
	for i := range 4 {
		c.Mul[i], c.Add[i] = d.about(512), d.about(255)
		if d.roll(5) == 0 {
			c.Mul[i], c.Add[i] = 256, 0
		}
	}
	return c
}

func (d *dice) color() api.RGBA {
	part := func() int { return max(d.about(255), -d.about(255), 0) }
	return api.RGBA{R: part(), G: part(), B: part(), A: part()}
}

// wrongChanges are those with one number beyond, each in turn, and with all of them.
func wrongChanges() []api.Cx {
	var l []api.Cx
	for i := range 4 {
		for _, c := range []api.Cx{{}, field.Plain()} {
			for _, v := range []int{513, -513, most, least, 1 << 32} {
				c.Mul[i] = v
				l = append(l, c)
			}
		}
		for _, c := range []api.Cx{{}, field.Plain()} {
			for _, v := range []int{256, -256, most, least, 1 << 32} {
				c.Add[i] = v
				l = append(l, c)
			}
		}
	}
	return append(l, api.Cx{Mul: [4]int{least, least, least, least}, Add: [4]int{most, most, most, most}})
}

func wrongColors() []api.RGBA {
	var l []api.RGBA
	for _, v := range []int{-1, 256, most, least, 1 << 32, -1 << 32} {
		l = append(l, api.RGBA{R: v}, api.RGBA{G: v}, api.RGBA{B: v}, api.RGBA{A: v}, api.RGBA{R: v, G: v, B: v, A: v})
		l = append(l, api.RGBA{R: v, G: 255, B: 255, A: 255}, api.RGBA{R: 1, G: 2, B: 3, A: v})
	}
	return l
}

func expectComposeCx(t *testing.T, outer api.Cx, inner api.Cx, want api.Cx) {
	t.Helper()
	if got := affine.ComposeCx(outer, inner); got != want {
		t.Errorf("ComposeCx(%+v, %+v) = %+v, want %+v", outer, inner, got, want)
	}
}

func expectColor(t *testing.T, c api.Cx, k api.RGBA, want api.RGBA) {
	t.Helper()
	if got := affine.Color(c, k); got != want {
		t.Errorf("Color(%+v, %+v) = %+v, want %+v", c, k, got, want)
	}
}

// P14.3: by hand: each part by its own numbers, by inner first, by outer then.
func TestComposeCxByHand(t *testing.T) {
	outer := api.Cx{Mul: [4]int{128, 256, 512, -64}, Add: [4]int{1, -2, 3, -4}}
	inner := api.Cx{Mul: [4]int{100, 101, 102, 104}, Add: [4]int{10, 20, 30, 40}}
	expectComposeCx(t, outer, inner, api.Cx{Mul: [4]int{50, 101, 204, -26}, Add: [4]int{6, 18, 63, -14}})
	expectComposeCx(t, inner, outer, api.Cx{Mul: [4]int{50, 101, 204, -26}, Add: [4]int{10, 19, 31, 38}})
	expectComposeCx(t, api.Cx{}, outer, api.Cx{})
	expectComposeCx(t, outer, api.Cx{}, api.Cx{Add: outer.Add})
}

// P14.3: floors of Muls and of Adds that are not whole, above 0 and below, and how they are brought to their ends.
func TestComposeCxFloorsAndEnds(t *testing.T) {
	for _, c := range []struct{ mul, add, inMul, inAdd, wantMul, wantAdd int }{
		{1, 0, 255, 255, 0, 0},
		{1, 0, 256, -1, 1, -1},
		{-1, 0, 1, 1, -1, -1},
		{-1, 0, -1, -1, 0, 0},
		{-1, 0, 256, -255, -1, 0},
		{-1, 0, 257, 255, -2, -1},
		{255, 0, 255, 255, 254, 254},
		{255, 0, -255, -255, -255, -255},
		{128, 5, 3, 3, 1, 6},
		{128, -5, -3, -3, -2, -7},
		{-128, 5, 3, 3, -2, 3},
		{512, 0, 256, 127, 512, 254},
		{512, 0, 256, 128, 512, 255},
		{512, 0, 257, 255, 512, 255},
		{512, 0, 512, 255, 512, 255},
		{512, 0, -256, -127, -512, -254},
		{512, 0, -257, -128, -512, -255},
		{-512, 0, 512, 255, -512, -255},
		{-512, 0, -512, -255, 512, 255},
		{512, 0, 255, 127, 510, 254},
		{256, 1, 0, 254, 0, 255},
		{256, 1, 0, 255, 0, 255},
		{256, 255, 0, 255, 0, 255},
		{256, -1, 0, -254, 0, -255},
		{256, -1, 0, -255, 0, -255},
		{256, -255, 0, -255, 0, -255},
		{512, -255, 0, 255, 0, 255},
		{512, -255, 0, 254, 0, 253},
		{512, 255, 0, -255, 0, -255},
		{512, 255, 0, -254, 0, -253},
		{-512, 255, 0, 254, 0, -253},
		{511, 0, 257, 1, 512, 1},
		{-1, -254, 0, 1, 0, -255},
		{-1, -255, 0, 1, 0, -255},
	} {
		for i := range 4 {
			outer, inner, want := field.Plain(), field.Plain(), field.Plain()
			outer.Mul[i], outer.Add[i] = c.mul, c.add
			inner.Mul[i], inner.Add[i] = c.inMul, c.inAdd
			want.Mul[i], want.Add[i] = c.wantMul, c.wantAdd
			expectComposeCx(t, outer, inner, want)
		}
	}
}

// P14.3: nothing, if one is not right.
func TestComposeCxOfWhatIsNotRight(t *testing.T) {
	for _, c := range wrongChanges() {
		for _, other := range []api.Cx{{}, field.Plain(), {Mul: [4]int{512, 512, 512, 512}, Add: [4]int{255, 255, 255, 255}}, c} {
			expectComposeCx(t, c, other, api.Cx{})
			expectComposeCx(t, other, c, api.Cx{})
		}
	}
}

// P14.3: as the words say.
func TestComposeCxAsTheWordsSay(t *testing.T) {
	d := dice(24)
	for range 10000 {
		outer, inner := d.change(), d.change()
		expectComposeCx(t, outer, inner, wordsComposeCx(outer, inner))
	}
	for _, mul := range []int{-512, -511, -256, -1, 0, 1, 255, 256, 257, 511, 512} {
		for _, add := range []int{-255, -254, -1, 0, 1, 254, 255} {
			outer := api.Cx{Mul: [4]int{mul, 0, 256, mul}, Add: [4]int{add, 0, add, add}}
			for range 100 {
				inner := d.change()
				expectComposeCx(t, outer, inner, wordsComposeCx(outer, inner))
				expectComposeCx(t, inner, outer, wordsComposeCx(inner, outer))
			}
		}
	}
}

// P14.3: by hand: each part by its own numbers.
func TestColorByHand(t *testing.T) {
	for _, c := range []struct {
		c       api.Cx
		k, want api.RGBA
	}{
		{api.Cx{}, api.RGBA{R: 1, G: 2, B: 3, A: 4}, api.RGBA{}},
		{api.Cx{Add: [4]int{5, 6, 7, 8}}, api.RGBA{R: 1, G: 2, B: 3, A: 4}, api.RGBA{R: 5, G: 6, B: 7, A: 8}},
		{api.Cx{Mul: [4]int{512, 256, 128, 64}, Add: [4]int{1, 2, -3, -4}}, api.RGBA{R: 100, G: 101, B: 101, A: 103}, api.RGBA{R: 201, G: 103, B: 47, A: 21}},
		{api.Cx{Mul: [4]int{-256, -128, -1, 512}, Add: [4]int{255, 255, 1, -255}}, api.RGBA{R: 100, G: 101, B: 1, A: 255}, api.RGBA{R: 155, G: 204, A: 255}},
	} {
		expectColor(t, c.c, c.k, c.want)
	}
}

// P14.3: floors that are not whole, above 0 and below, and how parts are brought to their ends.
func TestColorFloorsAndEnds(t *testing.T) {
	for _, c := range []struct{ mul, add, part, want int }{
		{256, 0, 0, 0}, {256, 0, 255, 255}, {255, 0, 255, 254}, {257, 0, 255, 255},
		{128, 0, 1, 0}, {128, 0, 3, 1}, {1, 0, 255, 0}, {2, 0, 255, 1},
		{512, 0, 127, 254}, {512, 0, 128, 255}, {512, 0, 255, 255}, {512, 255, 255, 255},
		{512, -255, 255, 255}, {512, -255, 254, 253}, {512, -255, 128, 1}, {512, -255, 127, 0},
		{256, 1, 254, 255}, {256, 1, 255, 255}, {256, -1, 0, 0}, {256, -1, 1, 0}, {256, -255, 255, 0},
		{-1, 0, 1, 0}, {-1, 1, 1, 0}, {-1, 2, 1, 1}, {-1, 255, 1, 254}, {-1, 255, 255, 254}, {-1, 255, 0, 255},
		{-256, 255, 255, 0}, {-256, 255, 254, 1}, {-512, 255, 127, 1}, {-512, 255, 128, 0}, {-512, -255, 255, 0},
		{0, 255, 255, 255}, {0, -255, 255, 0}, {-257, 255, 1, 253}, {-128, 3, 3, 1},
	} {
		for i := range 4 {
			change := field.Plain()
			change.Mul[i], change.Add[i] = c.mul, c.add
			k, want := [4]int{11, 22, 33, 44}, [4]int{11, 22, 33, 44}
			k[i], want[i] = c.part, c.want
			expectColor(t, change, api.RGBA{R: k[0], G: k[1], B: k[2], A: k[3]}, api.RGBA{R: want[0], G: want[1], B: want[2], A: want[3]})
		}
	}
}

// P14.3: nothing, if c or k is not right.
func TestColorOfWhatIsNotRight(t *testing.T) {
	for _, c := range wrongChanges() {
		expectColor(t, c, api.RGBA{R: 10, G: 20, B: 30, A: 40}, api.RGBA{})
		expectColor(t, c, api.RGBA{R: 255, G: 255, B: 255, A: 255}, api.RGBA{})
		expectColor(t, c, api.RGBA{}, api.RGBA{})
	}
	for _, k := range wrongColors() {
		expectColor(t, field.Plain(), k, api.RGBA{})
		expectColor(t, api.Cx{Add: [4]int{1, 2, 3, 4}}, k, api.RGBA{})
		for _, c := range wrongChanges()[:4] {
			expectColor(t, c, k, api.RGBA{})
		}
	}
}

// P14.3: each part by each Mul: what is told is a floor of it, brought to its end.
func TestColorOfEachPart(t *testing.T) {
	for mul := -512; mul <= 512; mul++ {
		for v := range 256 {
			floor := (v*mul+512*256)/256 - 512
			c := api.Cx{Mul: [4]int{mul, mul, mul, mul}, Add: [4]int{0, 255, -255, 17}}
			want := api.RGBA{R: ends(0, 255, floor), G: ends(0, 255, floor+255), B: ends(0, 255, floor-255), A: ends(0, 255, floor+17)}
			expectColor(t, c, api.RGBA{R: v, G: v, B: v, A: v}, want)
		}
	}
}

// P14.3: as the words say.
func TestColorAsTheWordsSay(t *testing.T) {
	d := dice(25)
	for range 20000 {
		c, k := d.change(), d.color()
		expectColor(t, c, k, wordsColor(c, k))
	}
}

// P14.4: Plain turns nothing, be it inner, outer or a colour's.
func TestPlainTurnsNothing(t *testing.T) {
	d := dice(26)
	for range 5000 {
		c, k := d.change(), d.color()
		expectComposeCx(t, field.Plain(), c, c)
		expectComposeCx(t, c, field.Plain(), c)
		expectColor(t, field.Plain(), k, k)
	}
}

// P14.3: a change that is composed is as both in turn, where nothing is left over or brought to an end.
func TestComposeCxIsAsBothInTurn(t *testing.T) {
	d := dice(27)
	for range 5000 {
		var outer, inner api.Cx
		for i := range 4 {
			outer.Mul[i], inner.Mul[i] = 256*d.roll(2), 256*d.roll(2)
			outer.Add[i], inner.Add[i] = d.roll(41), d.roll(41)
		}
		k := api.RGBA{R: d.roll(100), G: d.roll(100), B: d.roll(100), A: d.roll(100)}
		expectColor(t, affine.ComposeCx(outer, inner), k, affine.Color(outer, affine.Color(inner, k)))
	}
}

// P1: changes and colours of any numbers.
func TestAnyChanges(t *testing.T) {
	numbers := []int{0, 1, -1, 255, 256, -255, -256, 512, 513, -512, -513, 1 << 31, 1 << 62, most, least, least + 1}
	d := dice(28)
	for range 5000 {
		outer, inner, k := d.change(), d.change(), d.color()
		pick := func() int { return numbers[d.roll(len(numbers))] }
		switch d.roll(4) {
		case 0:
			outer.Mul[d.roll(4)] = pick()
		case 1:
			inner.Mul[d.roll(4)] = pick()
		case 2:
			inner.Add[d.roll(4)] = pick()
		default:
			outer.Add[d.roll(4)], k.B = pick(), pick()
		}
		expectComposeCx(t, outer, inner, wordsComposeCx(outer, inner))
		expectColor(t, outer, k, wordsColor(outer, k))
		expectColor(t, inner, k, wordsColor(inner, k))
	}
}
