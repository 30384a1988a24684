package pixel_test

import (
	"bytes"
	"compress/zlib"
	"slices"
	"strings"
	"testing"

	"celluloid/api"
	"celluloid/inflate"
	"celluloid/pixel"
)

// expectAsTheWordsSay holds Take to the words, and what it takes to being right, written, and taken as the same; it tells the error.
func expectAsTheWordsSay(t *testing.T, s string) api.Errno {
	t.Helper()
	b, e := wordsTake(s)
	if e != api.OK {
		expectNot(t, s, e)
		return e
	}
	expectTaken(t, s, b)
	expectPut(t, b, wordsPut(b))
	return api.OK
}

// asColors are a bitmap's bytes of the format 5, with any body.
func asColors(id int, w int, h int, body string) string {
	return ahead(id, 5, w, h) + closed(body)
}

// asNumbers are a bitmap's bytes of the format 3: colours, and numbers of these, with what fills them up.
func asNumbers(id int, w int, h int, l []api.RGBA, numbers string) string {
	return ahead(id, 3, w, h) + little(len(l)-1, 1) + closed(table(l)+numbers)
}

// few are as many faint colours, each another one.
func few(count int) []api.RGBA {
	var l []api.RGBA
	for i := range count {
		l = append(l, api.RGBA{R: i, G: 255 - i, B: 1, A: 255})
	}
	return l
}

// P11.2: both formats by hand, and the order of a colour's parts in each.
func TestTakeByHand(t *testing.T) {
	// The bytes are stored, as 4 and its digits turned.
	expectTaken(t, "\x09\x01\x05\x01\x00\x01\x00"+"\x78\x01"+"\x01\x04\x00\xfb\xff"+"\x04\x01\x02\x03"+"\x00\x1e\x00\x0b",
		pixel.Bitmap{ID: 265, W: 1, H: 1, Pixels: []api.RGBA{{R: 1, G: 2, B: 3, A: 4}}})
	// Two colours, and a row of 1, 0 that 9 and 9 fill up.
	expectTaken(t, "\x09\x01\x03\x02\x00\x01\x00\x01"+zlibStored("\x01\x02\x03\x04\x05\x06\x07\x08\x01\x00\x09\x09"),
		pixel.Bitmap{ID: 265, W: 2, H: 1, Pixels: []api.RGBA{{R: 5, G: 6, B: 7, A: 8}, {R: 1, G: 2, B: 3, A: 4}}})
	// Rows of 3 are filled up to 4.
	expectTaken(t, "\x00\x00\x03\x03\x00\x02\x00\x02"+zlibStored("\x00\x00\x00\x00\x00\x00\x00\x10\x20\x20\x20\x20\x00\x01\x02\xff\x02\x02\x01\xff"),
		pixel.Bitmap{W: 3, H: 2, Pixels: []api.RGBA{{}, {A: 16}, {R: 32, G: 32, B: 32, A: 32}, {R: 32, G: 32, B: 32, A: 32}, {R: 32, G: 32, B: 32, A: 32}, {A: 16}}})
}

// zlibStored wraps bytes without packing them.
func zlibStored(s string) string {
	return zlibbed(s, zlib.NoCompression)
}

// zlibbed wraps bytes with the library's packer.
func zlibbed(s string, level int) string {
	var b bytes.Buffer
	w, err := zlib.NewWriterLevel(&b, level)
	if err != nil {
		panic(err)
	}
	w.Write([]byte(s))
	w.Close()
	return b.String()
}

// P11.2: what is wrapped may be packed in any way.
func TestTakeOfAnyPacking(t *testing.T) {
	d := dice(3)
	for range 30 {
		b := d.bitmap(d.side(), d.side())
		for level := zlib.HuffmanOnly; level <= zlib.BestCompression; level++ {
			expectTaken(t, ahead(b.ID, 5, b.W, b.H)+zlibbed(colors(b.Pixels), level), b)
		}
	}
}

// P11.2: bytes that end at each place ahead of what is wrapped are ErrShort, whatever W and H they tell.
func TestTakeOfBytesThatEnd(t *testing.T) {
	for _, s := range []string{ahead(1, 5, 3, 2), ahead(1, 5, 0, 0), ahead(1, 5, 65, 65535), ahead(3, 5, 0, 3),
		ahead(1, 3, 3, 2) + "\x00", ahead(1, 3, 0, 0) + "\xff", ahead(1, 3, 65, 1) + "\x00", ahead(65535, 3, 1, 65) + "\x00"} {
		for n := range len(s) {
			expectNot(t, s[:n], api.ErrShort)
		}
	}
}

// P11.2: what is wrapped, cut at each place, is layer 5's ErrShort.
func TestTakeOfWhatIsWrappedCut(t *testing.T) {
	b := pixel.Bitmap{ID: 9, W: 3, H: 2, Pixels: few(6)}
	for _, s := range []string{wordsPut(b), asNumbers(9, 3, 2, few(2), "\x00\x01\x00\x00\x01\x01\x00\x00")} {
		for n := range len(s) {
			expectNot(t, s[:n], api.ErrShort)
		}
		if e := expectAsTheWordsSay(t, s); e != api.OK {
			t.Errorf("error %d", e)
		}
	}
}

// P11.2: each format but 3 and 5 is ErrField, told ahead of W: whatever W and H are, and whether they are there or not.
func TestTakeOfEachFormat(t *testing.T) {
	body := closed(colors(few(1)))
	for format := range 256 {
		for _, side := range []int{0, 1, 64, 65, 256} {
			s := ahead(1, format, side, 1) + body
			if format != 3 && format != 5 {
				expectNot(t, s, api.ErrField)
			}
			expectAsTheWordsSay(t, s)
		}
		s := ahead(1, format, 1, 1)
		want := api.ErrField
		if format == 3 || format == 5 {
			want = api.ErrShort
		}
		for n := 3; n <= 7; n++ {
			expectNot(t, s[:n], want)
		}
	}
	expectNot(t, "\x00\x04", api.ErrShort)
	expectNot(t, "\x04\x04", api.ErrShort)
}

// P11.2: W and H are of two bytes each, and ErrLimit if one is 0 or above 64, ahead of all that stands behind.
func TestTakeOfSides(t *testing.T) {
	sides := []int{0, 1, 2, 63, 64, 65, 127, 128, 255, 256, 257, 320, 512, 16384, 32768, 65535}
	for _, w := range sides {
		for _, h := range sides {
			l := gray(1)
			row := (w + 3) / 4 * 4
			if w < 1 || w > 64 || h < 1 || h > 64 {
				for _, behind := range []string{"", "\x00", "\x78\x9c", closed(""), closed(colors(gray(min(w*h, 4096))))} {
					expectNot(t, ahead(1, 5, w, h)+behind, api.ErrLimit)
					expectNot(t, ahead(1, 3, w, h)+"\x00"+behind, api.ErrLimit)
				}
				continue
			}
			b := pixel.Bitmap{ID: 1, W: w, H: h, Pixels: gray(w * h)}
			expectTaken(t, asColors(1, w, h, colors(b.Pixels)), b)
			expectTaken(t, asNumbers(1, w, h, l, strings.Repeat("\x00", row*h)), b)
		}
	}
}

// P11.2: layer 5's errors are told as it tells them, of all that stands behind the head, ahead of how many bytes these are.
func TestTakeTellsTheErrorsOfLayer5(t *testing.T) {
	right := closed(colors(gray(1)))
	for _, c := range []struct {
		s string
		e api.Errno
	}{
		{"", api.ErrShort},
		{"\x78", api.ErrShort},
		{"\x00", api.ErrShort},
		{"\x78\x9c", api.ErrShort},
		{"\x78\x9c\x03", api.ErrShort},
		{"\x78\x9c\x03\x00", api.ErrShort},
		{"\x78\x9c\x03\x00\x00\x00\x00", api.ErrShort},
		// Another kind, a room above 7, no multiple of 31, bytes that are known ahead.
		{"\x79\x00" + right[2:], api.ErrField},
		{"\x77\x01" + right[2:], api.ErrField},
		{"\x88\x1c" + right[2:], api.ErrField},
		{"\x78\x9d" + right[2:], api.ErrField},
		{"\x78\xbb" + right[2:], api.ErrField},
		// Blocks of the kind 3, a stored one's other length, a distance too far, the symbol 286.
		{"\x78\x9c\x07", api.ErrField},
		{"\x78\x9c\x01\x04\x00\x04\x00", api.ErrField},
		{"\x78\x9c\x03\x02" + right, api.ErrField},
		{"\x78\x9c\x1b\x03", api.ErrField},
		// Codes of lengths of which there are too many.
		{"\x78\x9c\x05\x00\xff\xff\xff\xff\xff", api.ErrCode},
		{right[:len(right)-1] + string(right[len(right)-1]^1), api.ErrSum},
		{right[:len(right)-4] + "\x00\x00\x00\x00", api.ErrSum},
		{"\x78\x9c\x03\x00\x00\x00\x00\x00", api.ErrSum},
		// The sum of no bytes where there are some, with more behind: the sum is told first.
		{right[:len(right)-4] + "\x00\x00\x00\x01more", api.ErrSum},
		{right + "\x00", api.ErrField},
		{right + right, api.ErrField},
		{zlibStored(strings.Repeat("\x00", room+1)), api.ErrLimit},
		{zlibbed(strings.Repeat("\x00", room+1), 9), api.ErrLimit},
		{zlibbed(strings.Repeat("\x00", 2*room), 9), api.ErrLimit},
		// With so much room, all of these are unpacked: what is wrong is how many they are.
		{zlibStored(strings.Repeat("\x00", room)), api.ErrField},
		{zlibbed(strings.Repeat("\x00", room), 9) + "\x00", api.ErrField},
		{zlibbed(strings.Repeat("\x00", room), 9)[:20], api.ErrShort},
		{wrongSum(strings.Repeat("\x00", room)), api.ErrSum},
		{wrongSum("\x00"), api.ErrSum},
		{wrongSum(""), api.ErrSum},
	} {
		if body, e := inflate.Open(c.s, room); e != c.e && (e != api.OK || len(body) != room) {
			t.Fatalf("layer 5 tells %d of %.40q, not %d", e, c.s, c.e)
		}
		expectNot(t, ahead(1, 5, 1, 1)+c.s, c.e)
		expectNot(t, ahead(1, 3, 1, 1)+"\x00"+c.s, c.e)
		expectNot(t, ahead(1, 5, 64, 64)+c.s, c.e)
		expectNot(t, ahead(1, 3, 64, 64)+"\xff"+c.s, c.e)
	}
}

// wrongSum wraps bytes with another sum.
func wrongSum(s string) string {
	w := closed(s)
	return w[:len(w)-1] + string(w[len(w)-1]+1)
}

// P11.2: bytes behind what is wrapped are layer 5's ErrField, in both formats.
func TestTakeOfBytesBehind(t *testing.T) {
	d := dice(4)
	for range 20 {
		b := d.bitmap(d.side(), d.side())
		for _, more := range []string{"\x00", "\xff", "more", wordsPut(b)} {
			expectNot(t, wordsPut(b)+more, api.ErrField)
			expectNot(t, asNumbers(1, 1, 1, few(1), "\x00\x00\x00\x00")+more, api.ErrField)
		}
	}
}

// P11.2: just as many bytes as must be, of the format 5; one or a pixel less or more is ErrField.
func TestTakeOfHowManyBytesOfColors(t *testing.T) {
	for _, c := range [][2]int{{1, 1}, {1, 2}, {2, 1}, {3, 2}, {4, 4}, {5, 3}, {64, 1}, {1, 64}, {64, 64}} {
		n := 4 * c[0] * c[1]
		for _, count := range []int{0, 1, 4, n / 2, n - 8, n - 4, n - 3, n - 2, n - 1, n + 1, n + 2, n + 3, n + 4, n + 8, 2 * n, room} {
			if count >= 0 && count != n {
				expectNot(t, asColors(1, c[0], c[1], strings.Repeat("\x00", count)), api.ErrField)
			}
		}
		expectTaken(t, asColors(1, c[0], c[1], strings.Repeat("\x00", n)), pixel.Bitmap{ID: 1, W: c[0], H: c[1], Pixels: make([]api.RGBA, c[0]*c[1])})
	}
}

// P11.2: just as many bytes as must be, of the format 3, with 1 colour and 256, and with widths that 4 divides or not; one less or more is ErrField.
func TestTakeOfHowManyBytesOfNumbers(t *testing.T) {
	for _, count := range []int{1, 2, 3, 128, 255, 256} {
		for _, c := range [][2]int{{1, 1}, {1, 2}, {2, 2}, {3, 1}, {3, 3}, {4, 1}, {4, 4}, {5, 3}, {63, 2}, {64, 1}, {1, 64}, {64, 64}} {
			row := []int{0, 3, 2, 1}[c[0]%4] + c[0]
			n := row * c[1]
			for _, much := range []int{0, n - row, n - 4, n - 1, n + 1, n + 3, n + 4, n + row, 2 * n, n + 1024, c[0] * c[1]} {
				if much >= 0 && much != n {
					expectNot(t, asNumbers(1, c[0], c[1], few(count), strings.Repeat("\x00", much)), api.ErrField)
				}
			}
			expectTaken(t, asNumbers(1, c[0], c[1], few(count), strings.Repeat("\x00", n)),
				pixel.Bitmap{ID: 1, W: c[0], H: c[1], Pixels: slices.Repeat(few(1), c[0]*c[1])})
		}
	}
	// Not even the colours are there.
	for much := range 16 {
		expectNot(t, ahead(1, 3, 1, 1)+"\x03"+closed(strings.Repeat("\x00", much)), api.ErrField)
	}
}

// P11.2: what is of one format is not taken as of the other.
func TestTakeOfTheOtherFormat(t *testing.T) {
	body := table(few(1)) + "\x00\x00\x00\x00"
	expectNot(t, asColors(1, 1, 1, body), api.ErrField)
	expectNot(t, ahead(1, 3, 1, 1)+"\x00"+closed(colors(few(1))), api.ErrField)
	// Eight bytes are two pixels of the one, and one of the other.
	expectTaken(t, asColors(1, 2, 1, "\x03\x00\x01\x02\x00\x00\x00\x00"), pixel.Bitmap{ID: 1, W: 2, H: 1, Pixels: []api.RGBA{{G: 1, B: 2, A: 3}, {}}})
	expectTaken(t, ahead(1, 3, 1, 1)+"\x00"+closed("\x00\x01\x02\x03\x00\x00\x00\x00"), pixel.Bitmap{ID: 1, W: 1, H: 1, Pixels: []api.RGBA{{G: 1, B: 2, A: 3}}})
}

// P11.2: rows of numbers of each width, filled up to a number that 4 divides with any bytes, of no colour too.
func TestTakeOfRowsFilledUp(t *testing.T) {
	d := dice(6)
	for w := 1; w <= 64; w++ {
		for range 4 {
			h, count := 1+d.roll(5), []int{1, 2, 3, 17, 256}[d.roll(5)]
			l := few(count)
			b := pixel.Bitmap{ID: w, W: w, H: h}
			numbers := ""
			for range h {
				for range w {
					n := d.upTo(count - 1)
					b.Pixels = append(b.Pixels, l[n])
					numbers += string([]byte{byte(n)})
				}
				for len(numbers)%4 != 0 {
					numbers += d.bytes(1, 256)
				}
			}
			s := asNumbers(w, w, h, l, numbers)
			expectTaken(t, s, b)
			expectAsTheWordsSay(t, s)
		}
	}
}

// P11.2: each number of each colour there is, and ErrField of one that is of none, at each pixel; what fills up does not matter.
func TestTakeOfEachNumber(t *testing.T) {
	for _, count := range []int{1, 2, 7, 128, 255, 256} {
		l := few(count)
		for n := range 256 {
			for at := range 8 {
				numbers := make([]byte, 8)
				numbers[at] = byte(n)
				s := asNumbers(1, 3, 2, l, string(numbers))
				b := pixel.Bitmap{ID: 1, W: 3, H: 2, Pixels: slices.Repeat(l[:1], 6)}
				switch {
				case at%4 == 3:
					expectTaken(t, s, b)
				case n >= count:
					expectNot(t, s, api.ErrField)
				default:
					b.Pixels[at-at/4] = l[n]
					expectTaken(t, s, b)
				}
			}
		}
	}
}

// P11.2: a colour with a part above its A is ErrField where a pixel has it, and nothing where none has.
func TestTakeOfColorsThatAreNotFaint(t *testing.T) {
	for _, c := range []struct {
		color api.RGBA
		holds bool
	}{
		{api.RGBA{}, true}, {api.RGBA{A: 1}, true}, {api.RGBA{R: 1, G: 1, B: 1, A: 1}, true}, {api.RGBA{R: 255, G: 255, B: 255, A: 255}, true},
		{api.RGBA{R: 1}, false}, {api.RGBA{G: 1}, false}, {api.RGBA{B: 1}, false}, {api.RGBA{R: 255}, false},
		{api.RGBA{R: 101, A: 100}, false}, {api.RGBA{G: 101, A: 100}, false}, {api.RGBA{B: 101, A: 100}, false}, {api.RGBA{R: 100, G: 100, B: 100, A: 100}, true},
		{api.RGBA{R: 255, A: 254}, false}, {api.RGBA{G: 255, A: 254}, false}, {api.RGBA{B: 255, A: 254}, false}, {api.RGBA{R: 254, G: 254, B: 254, A: 254}, true},
		{api.RGBA{R: 128, A: 127}, false}, {api.RGBA{R: 127, A: 128}, true},
	} {
		expect := func(s string, b pixel.Bitmap) {
			if c.holds {
				expectTaken(t, s, b)
			} else {
				expectNot(t, s, api.ErrField)
			}
		}
		for at := range 6 {
			b := pixel.Bitmap{ID: 1, W: 3, H: 2, Pixels: gray(6)}
			b.Pixels[at] = c.color
			expect(asColors(1, 3, 2, colors(b.Pixels)), b)
			numbers := make([]byte, 8)
			numbers[at+at/3] = 1
			expect(asNumbers(1, 3, 2, []api.RGBA{gray(1)[0], c.color, c.color}, string(numbers)), b)
		}
		// The colour is there, at the beginning, in the midst and at the end, and only what fills up has it.
		for at := range 3 {
			l := slices.Insert(gray(2), at, c.color)
			other := byte((at + 1) % 3)
			numbers := []byte{other, other, other, byte(at), other, other, other, byte(at)}
			expectTaken(t, asNumbers(1, 3, 2, l, string(numbers)), pixel.Bitmap{ID: 1, W: 3, H: 2, Pixels: gray(6)})
		}
	}
}

// P11.2, R2: of two errors that named first is told.
func TestTakeTellsTheFirstError(t *testing.T) {
	for i, c := range []struct {
		s string
		e api.Errno
	}{
		// The end ahead of W and H, and of what else is wrong.
		{ahead(1, 5, 0, 0)[:6], api.ErrShort},
		{ahead(1, 5, 65, 65)[:5], api.ErrShort},
		{ahead(1, 3, 0, 0), api.ErrShort},
		{ahead(1, 3, 65, 65), api.ErrShort},
		// The format ahead of W and H, there or not, and of what is wrapped.
		{"\x01\x00\x00", api.ErrField},
		{"\x01\x00\x04\x00", api.ErrField},
		{ahead(1, 4, 0, 0), api.ErrField},
		{ahead(1, 4, 65, 1) + "\x00\x00", api.ErrField},
		{ahead(1, 6, 1, 1) + wrongSum(colors(gray(1))), api.ErrField},
		// W and H ahead of what is wrapped.
		{ahead(1, 5, 0, 1), api.ErrLimit},
		{ahead(1, 5, 1, 0) + "\x78", api.ErrLimit},
		{ahead(1, 5, 65, 1) + "\x79\x00", api.ErrLimit},
		{ahead(1, 5, 1, 65) + wrongSum(""), api.ErrLimit},
		{ahead(1, 3, 0, 1) + "\x00", api.ErrLimit},
		{ahead(1, 3, 1, 65) + "\x00" + wrongSum(""), api.ErrLimit},
		{ahead(1, 5, 0, 0) + closed(""), api.ErrLimit},
		// What is wrapped ahead of what it is of.
		{ahead(1, 5, 1, 1) + wrongSum("\x00\x01\x01\x01"), api.ErrSum},
		{ahead(1, 5, 1, 1) + wrongSum("\x00\x01\x01"), api.ErrSum},
		{ahead(1, 3, 1, 1) + "\x00" + wrongSum(table(few(1))+"\x01\x00\x00\x00"), api.ErrSum},
		{ahead(1, 5, 2, 1) + closed("\x00\x01\x01\x01")[:8], api.ErrShort},
	} {
		expectNot(t, c.s, c.e)
		if _, e := wordsTake(c.s); e != c.e {
			t.Errorf("%d: the words say %d", i, e)
		}
	}
}

// P11.2, P11.3, P1: any bytes are as the words say.
func TestTakeOfAnyBytes(t *testing.T) {
	d := dice(7)
	for range 20000 {
		s := d.bytes(d.roll(24), []int{2, 6, 80, 256}[d.roll(4)])
		expectAsTheWordsSay(t, s)
		if len(s) > 8 {
			format := []string{"\x03", "\x05"}[d.roll(2)]
			expectAsTheWordsSay(t, s[:2]+format+little(d.upTo(65), 2)+little(d.upTo(65), 2)+s[7:])
		}
	}
}

// P11.2, P11.3: bodies of any bytes, as many as they must be or nearly so, are as the words say; both what is taken and each error are among them.
func TestTakeOfAnyBodies(t *testing.T) {
	d := dice(8)
	told := map[api.Errno]int{}
	for range 6000 {
		w, h := d.side(), d.side()
		count := 1 + d.upTo([]int{1, 3, 255}[d.roll(3)])
		wrong := []int{0, 0, 0, 0, 0, 0, 1, -1, 4, -4}[d.roll(10)]
		var s string
		if d.roll(2) > 0 {
			var l []api.RGBA
			for range count {
				l = append(l, d.faint())
			}
			if d.roll(3) == 0 {
				l[d.roll(count)] = api.RGBA{R: d.upTo(255), G: d.upTo(255), B: d.upTo(255), A: d.upTo(255)}
			}
			kinds := min(256, count+d.roll(8)/7)
			s = asNumbers(d.upTo(65535), w, h, l, d.bytes(max(0, (w+3)/4*4*h+wrong), kinds))
		} else {
			body := colors(d.bitmap(w, h).Pixels)
			if wrong < 0 {
				body = body[-wrong:]
			} else {
				body += d.bytes(wrong, 256)
			}
			if at := d.roll(3*len(body) + 1); at < len(body) {
				body = body[:at] + d.bytes(1, 256) + body[at+1:]
			}
			s = asColors(d.upTo(65535), w, h, body)
		}
		told[expectAsTheWordsSay(t, s)]++
	}
	if told[api.OK] < 1000 || told[api.ErrField] < 1000 {
		t.Errorf("too few of a kind: %v", told)
	}
}

// P11.2, P11.3: right bytes with one of them turned, left away or put in are as the words say.
func TestTakeOfMuddledBytes(t *testing.T) {
	d := dice(9)
	for range 3000 {
		b := d.bitmap(1+d.roll(6), 1+d.roll(6))
		s := wordsPut(b)
		if d.roll(2) > 0 {
			s = asNumbers(b.ID, b.W, b.H, few(3), d.bytes((b.W+3)/4*4*b.H, 3))
		}
		at := d.roll(len(s))
		if d.roll(2) > 0 {
			at = d.roll(12)
		}
		switch d.roll(3) {
		case 0:
			s = s[:at] + string([]byte{s[at] ^ byte(1<<d.roll(8))}) + s[at+1:]
		case 1:
			s = s[:at] + s[at+1:]
		case 2:
			s = s[:at] + d.bytes(1, 256) + s[at:]
		}
		expectAsTheWordsSay(t, s)
	}
}
