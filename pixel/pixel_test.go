package pixel_test

import (
	"bytes"
	"compress/zlib"
	"io"
	"slices"
	"testing"

	"celluloid/api"
	"celluloid/pixel"
)

// dice are numbers that are always the same ones.
type dice uint64

func (d *dice) roll(count int) int {
	x := uint64(*d)
	x ^= x << 13
	x ^= x >> 7
	x ^= x << 17
	*d = dice(x)
	return int(x>>11) % count
}

// upTo is a number from 0 to highest, often one of these.
func (d *dice) upTo(highest int) int {
	switch d.roll(6) {
	case 0:
		return 0
	case 1:
		return highest
	}
	return d.roll(highest + 1)
}

// faint is a colour whose R, G and B are not above A.
func (d *dice) faint() api.RGBA {
	a := d.upTo(255)
	return api.RGBA{R: d.upTo(a), G: d.upTo(a), B: d.upTo(a), A: a}
}

// bytes are count of them, of so many kinds.
func (d *dice) bytes(count int, kinds int) string {
	s := make([]byte, count)
	for i := range s {
		s[i] = byte(d.roll(kinds))
	}
	return string(s)
}

// side is a right one, mostly small.
func (d *dice) side() int {
	switch d.roll(20) {
	case 0:
		return 64
	case 1:
		return 1 + d.roll(64)
	}
	return 1 + d.roll(7)
}

// bitmap is a right one, of many colours or of few.
func (d *dice) bitmap(w int, h int) pixel.Bitmap {
	b := pixel.Bitmap{ID: d.upTo(65535), W: w, H: h}
	few := []api.RGBA{d.faint(), d.faint()}
	kinds := d.roll(3)
	for range w * h {
		if kinds > 0 {
			b.Pixels = append(b.Pixels, few[d.roll(kinds)])
		} else {
			b.Pixels = append(b.Pixels, d.faint())
		}
	}
	return b
}

// gray are as many pixels, all of one right colour.
func gray(count int) []api.RGBA {
	return slices.Repeat([]api.RGBA{{R: 50, G: 50, B: 50, A: 100}}, count)
}

// sameBitmap: are they the same?
func sameBitmap(a pixel.Bitmap, b pixel.Bitmap) bool {
	return a.ID == b.ID && a.W == b.W && a.H == b.H && slices.Equal(a.Pixels, b.Pixels)
}

// expectPut holds a right bitmap to its bytes, and these to being taken as it, and b to staying as it was.
func expectPut(t *testing.T, b pixel.Bitmap, want string) {
	t.Helper()
	pixels := slices.Clone(b.Pixels)
	if !pixel.Right(b) {
		t.Errorf("Right(%v) is false", b)
	}
	if s, e := pixel.Put(b); s != want || e != api.OK {
		t.Errorf("Put(%v) = %q, %d, want %q", b, s, e, want)
	}
	if !slices.Equal(b.Pixels, pixels) {
		t.Errorf("Put has turned %v into %v", pixels, b.Pixels)
	}
	expectTaken(t, want, b)
}

// expectNotRight holds a bitmap to being not right, and all calls to say so.
func expectNotRight(t *testing.T, b pixel.Bitmap) {
	t.Helper()
	if pixel.Right(b) {
		t.Errorf("Right(%v) is true", b)
	}
	if s, e := pixel.Put(b); s != "" || e != api.ErrArg {
		t.Errorf("Put(%v) = %q, %d, want ErrArg", b, s, e)
	}
	for _, x := range []int{least, -1, 0, 1, 2, 63, 64, b.W - 1, b.W, most} {
		for _, y := range []int{least, -1, 0, 1, 2, 63, 64, b.H - 1, b.H, most} {
			expectPixel(t, b, x, y, api.RGBA{})
		}
	}
}

func expectPixel(t *testing.T, b pixel.Bitmap, x int, y int, want api.RGBA) {
	t.Helper()
	if c := pixel.Pixel(b, x, y); c != want {
		t.Errorf("Pixel of %d times %d at %d, %d = %v, want %v", b.W, b.H, x, y, c, want)
	}
}

// expectTaken holds Take to a bitmap, in memory of its own.
func expectTaken(t *testing.T, s string, want pixel.Bitmap) {
	t.Helper()
	b, e := pixel.Take(s)
	if !sameBitmap(b, want) || e != api.OK {
		t.Errorf("Take(%q) = %v, %d, want %v", s, b, e, want)
		return
	}
	for i := range b.Pixels {
		b.Pixels[i] = api.RGBA{R: -1}
	}
	if again, e := pixel.Take(s); !sameBitmap(again, want) || e != api.OK {
		t.Errorf("Take(%q) = %v, %d the second time, want %v", s, again, e, want)
	}
}

// expectNot holds Take to an error, and nothing beside it.
func expectNot(t *testing.T, s string, want api.Errno) {
	t.Helper()
	if b, e := pixel.Take(s); b.ID != 0 || b.W != 0 || b.H != 0 || len(b.Pixels) != 0 || e != want {
		t.Errorf("Take(%q) = %v, %d, want the error %d", s, b, e, want)
	}
}

// P11.1: the chapter's example, and the order of the parts, by hand: 7 bytes, and the wrapped four, A, R, G, B.
func TestPutOfOnePixel(t *testing.T) {
	for _, c := range []struct {
		b pixel.Bitmap
		s string
	}{
		// The four bytes are packed as the fixed codes of 128, 10, 20, 30 (9, 8, 8 and 8 bits) and of the end.
		{pixel.Bitmap{ID: 0x0201, W: 1, H: 1, Pixels: []api.RGBA{{R: 10, G: 20, B: 30, A: 128}}},
			"\x01\x02\x05\x01\x00\x01\x00" + "\x78\x9c" + "\x6b\xe0\x12\x91\x03\x00" + "\x02\x68\x00\xbd"},
		{pixel.Bitmap{W: 1, H: 1, Pixels: []api.RGBA{{R: 1, G: 2, B: 3, A: 4}}},
			"\x00\x00\x05\x01\x00\x01\x00" + "\x78\x9c" + "\x63\x61\x64\x62\x06\x00" + "\x00\x1e\x00\x0b"},
		{pixel.Bitmap{ID: 65535, W: 1, H: 1, Pixels: []api.RGBA{{R: 1, G: 2, B: 3, A: 4}}},
			"\xff\xff\x05\x01\x00\x01\x00" + "\x78\x9c" + "\x63\x61\x64\x62\x06\x00" + "\x00\x1e\x00\x0b"},
	} {
		expectPut(t, c.b, c.s)
		if s := wordsPut(c.b); s != c.s {
			t.Errorf("the words say %q of %v", s, c.b)
		}
	}
}

// P11.1: pixels stand row by row, and what is wrapped is what any unpacker unpacks.
func TestPutRowByRow(t *testing.T) {
	b := pixel.Bitmap{ID: 7, W: 3, H: 2, Pixels: []api.RGBA{{A: 1}, {A: 2}, {A: 3}, {R: 4, A: 4}, {G: 5, A: 5}, {B: 6, A: 6}}}
	s, e := pixel.Put(b)
	if e != api.OK || len(s) < 7 || s[:7] != "\x07\x00\x05\x03\x00\x02\x00" {
		t.Fatalf("Put(%v) = %q, %d", b, s, e)
	}
	unpacked, err := zlib.NewReader(bytes.NewReader([]byte(s[7:])))
	if err != nil {
		t.Fatal(err)
	}
	body, err := io.ReadAll(unpacked)
	if err != nil || string(body) != "\x01\x00\x00\x00\x02\x00\x00\x00\x03\x00\x00\x00\x04\x04\x00\x00\x05\x00\x05\x00\x06\x00\x00\x06" {
		t.Errorf("wrapped: %q, %v", body, err)
	}
	expectPut(t, b, wordsPut(b))
}

// P11.1, P11.3: any bitmaps, of all sides, are written as the words say, taken back, and have the pixels that they have.
func TestAnyBitmaps(t *testing.T) {
	d := dice(1)
	for i := range 400 {
		b := d.bitmap(d.side(), d.side())
		switch {
		case i < 64:
			b = d.bitmap(i+1, 1+d.roll(3))
		case i < 128:
			b = d.bitmap(1+d.roll(3), i-63)
		}
		expectPut(t, b, wordsPut(b))
		for range 10 {
			x, y := d.roll(b.W+2)-1, d.roll(b.H+2)-1
			expectPixel(t, b, x, y, wordsPixel(b, x, y))
		}
	}
}

// P11.1: ID goes from 0 to 65,535.
func TestEachID(t *testing.T) {
	b := pixel.Bitmap{W: 2, H: 1, Pixels: gray(2)}
	for _, b.ID = range []int{0, 1, 2, 255, 256, 257, 32767, 32768, 65534, 65535} {
		expectPut(t, b, wordsPut(b))
	}
	for _, b.ID = range []int{-1, -2, -256, -65535, -65536, 65536, 65537, 131071, 1 << 31, 1<<32 + 1, -1 << 32, least, least + 1, most} {
		expectNotRight(t, b)
	}
}

// P11.1: sides go from 1 to 64, and so does each beside the other's edges.
func TestSides(t *testing.T) {
	for _, w := range []int{-1, 0, 1, 2, 63, 64, 65, 66, 128, 256, 257} {
		for _, h := range []int{-1, 0, 1, 2, 63, 64, 65, 66, 128, 256, 257} {
			b := pixel.Bitmap{ID: 1, W: w, H: h, Pixels: gray(max(0, w*h))}
			if w < 1 || w > 64 || h < 1 || h > 64 {
				expectNotRight(t, b)
			} else {
				expectPut(t, b, wordsPut(b))
			}
		}
	}
}

// P11.1: there are just as many pixels as W times H.
func TestHowManyPixels(t *testing.T) {
	for _, c := range [][2]int{{1, 1}, {1, 2}, {2, 1}, {3, 5}, {1, 64}, {64, 1}, {64, 64}} {
		n := c[0] * c[1]
		for _, count := range []int{0, n - 1, n + 1, n + c[0], n - c[0], 2 * n, 4097} {
			if count != n {
				expectNotRight(t, pixel.Bitmap{W: c[0], H: c[1], Pixels: gray(count)})
			}
		}
		expectNotRight(t, pixel.Bitmap{W: c[0], H: c[1]})
		b := pixel.Bitmap{W: c[0], H: c[1], Pixels: gray(n)}
		expectPut(t, b, wordsPut(b))
	}
	expectNotRight(t, pixel.Bitmap{})
	// What stands behind a list's end is none of its pixels.
	l := gray(6)
	l[4].R = 101
	b := pixel.Bitmap{W: 2, H: 2, Pixels: l[:4]}
	expectPut(t, b, wordsPut(b))
	expectPixel(t, b, 0, 2, api.RGBA{})
}

// P11.1, P1: W times H may be beyond all numbers, and come to just as many pixels in these.
func TestSidesBeyondAllNumbers(t *testing.T) {
	for _, c := range []struct{ w, h, n int }{
		{1 << 32, 1 << 32, 0}, {1 << 62, 4, 0}, {4, 1 << 62, 0}, {least, 2, 0}, {2, least, 0}, {least, least, 0},
		{2, least + 1, 2}, {least + 1, 2, 2}, {4, 1<<62 + 1, 4}, {1<<62 + 1, 4, 4},
		{most, most, 1}, {-1, -1, 1}, {-2, -2, 4}, {-1, -4, 4}, {-64, -64, 4096}, {1, most, 1}, {most, 1, 1}, {1, least, 0},
		{64, 1<<58 + 1, 64}, {1<<58 + 64, 64, 4096}, {1<<32 + 1, 1, 1}, {1, 1<<32 + 1, 1}, {1 << 16, 1 << 16, 0}, {1<<16 + 1, 1, 1},
	} {
		expectNotRight(t, pixel.Bitmap{W: c.w, H: c.h, Pixels: gray(c.n)})
		expectNotRight(t, pixel.Bitmap{W: c.w, H: c.h})
	}
}

// P11.1: parts go from 0 to 255, and R, G and B up to A, in each of the pixels.
func TestParts(t *testing.T) {
	part := []func(*api.RGBA) *int{
		func(c *api.RGBA) *int { return &c.R }, func(c *api.RGBA) *int { return &c.G },
		func(c *api.RGBA) *int { return &c.B }, func(c *api.RGBA) *int { return &c.A },
	}
	numbers := []int{least, least + 1, -1 << 32, -256, -255, -101, -100, -1, 0, 1, 2, 49, 50, 51, 99, 100, 101, 127, 128, 254, 255, 256, 257, 356, 511, 512, 1 << 32, 1<<32 + 1, most - 1, most}
	for at := range 6 {
		for _, a := range []int{0, 1, 50, 100, 254, 255} {
			for i, of := range part {
				for _, v := range numbers {
					b := pixel.Bitmap{W: 3, H: 2, Pixels: gray(6)}
					b.Pixels[at] = api.RGBA{R: min(a, 50), G: min(a, 50), B: min(a, 50), A: a}
					*of(&b.Pixels[at]) = v
					holds := v >= 0 && v <= a
					if i == 3 {
						holds = v >= min(a, 50) && v <= 255
					}
					if wordsRight(b) != holds {
						t.Fatalf("the words say %v of %v", !holds, b)
					}
					if holds {
						expectPut(t, b, wordsPut(b))
					} else {
						expectNotRight(t, b)
					}
				}
			}
		}
	}
}

// P11.1: all colours of a few parts, one after another.
func TestColors(t *testing.T) {
	parts := []int{-1, 0, 1, 127, 254, 255, 256}
	for _, r := range parts {
		for _, g := range parts {
			for _, bl := range parts {
				for _, a := range parts {
					b := pixel.Bitmap{W: 1, H: 1, Pixels: []api.RGBA{{R: r, G: g, B: bl, A: a}}}
					if wordsRight(b) {
						expectPut(t, b, wordsPut(b))
					} else {
						expectNotRight(t, b)
					}
				}
			}
		}
	}
}

// P11.1: the pixel of a column and a row, at each edge, and one beyond.
func TestPixel(t *testing.T) {
	d := dice(2)
	for _, c := range [][2]int{{1, 1}, {1, 5}, {5, 1}, {2, 3}, {3, 2}, {4, 4}, {1, 64}, {64, 1}, {64, 64}} {
		b := d.bitmap(c[0], c[1])
		for i := range b.Pixels {
			// Each pixel is another one, and none of them is nothing.
			b.Pixels[i] = api.RGBA{R: i % 256, G: i / 256, B: 1, A: 255}
		}
		for y := -1; y <= b.H; y++ {
			for x := -1; x <= b.W; x++ {
				want := api.RGBA{}
				if x >= 0 && x < b.W && y >= 0 && y < b.H {
					want = api.RGBA{R: (y*b.W + x) % 256, G: (y*b.W + x) / 256, B: 1, A: 255}
				}
				expectPixel(t, b, x, y, want)
				if wordsPixel(b, x, y) != want {
					t.Fatalf("the words say another pixel at %d, %d", x, y)
				}
			}
		}
		for _, far := range []int{least, least + 1, -1 << 32, -64, 64, 65, 4096, 1 << 32, 1 << 58, 1 << 62, most - 1, most} {
			for _, near := range []int{-1, 0, b.W - 1, b.W, b.H - 1, b.H} {
				expectPixel(t, b, far, near, api.RGBA{})
				expectPixel(t, b, near, far, api.RGBA{})
			}
			expectPixel(t, b, far, far, api.RGBA{})
		}
	}
}

// P11.1: of a bitmap that is not right there is no pixel, not even one that is right itself.
func TestPixelOfWhatIsNotRight(t *testing.T) {
	whole := func() pixel.Bitmap { return pixel.Bitmap{ID: 1, W: 3, H: 3, Pixels: gray(9)} }
	for at := range 9 {
		for _, bad := range []api.RGBA{{R: 1}, {G: 256, A: 256}, {B: -1, A: 9}, {R: 101, A: 100}, {A: -1}} {
			b := whole()
			b.Pixels[at] = bad
			for i := range 9 {
				expectPixel(t, b, i%3, i/3, api.RGBA{})
			}
		}
	}
	b := whole()
	b.ID = -1
	expectNotRight(t, b)
	b = whole()
	b.Pixels = append(b.Pixels, gray(1)...)
	expectNotRight(t, b)
	b = whole()
	b.W = 9
	b.H = 0
	expectNotRight(t, b)
}
